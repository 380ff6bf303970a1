/-
  Layer 6, the program's order: what a pair tells by numbers, by texts, and what is told first. Condition: the arena lies in memory, in one state with a list of blocks.
-/
import Derived.Test.YtcbgjkedmboifabQ6Put
import Derived.BigQuiet
namespace Go.Proofs.Ytcbgjkedmboifab
open Go.ChangeShapes Go.WideShapes Go.ChangeAt Go.RowKit Go.Deep
set_option linter.unusedVariables false
set_option maxHeartbeats 1000000

variable {w w' : World} {x y : Int} {p : Pl} {s : St} {r : RS}
/-- The first that is not 0. -/
def firstL : List Int → Int
  | [] => 0
  | a :: l => if a = 0 then firstL l else a
theorem first_any (l : List Int) (g c : Nat) (w : World) (hc : ∀ i, i < l.length → w.cell? ⟨g, i, none⟩ = some (.int .i64 (l.getD i 0))) (hl : l.length < 1000) :
    Calls Try.prog 40 #[.slice (some ⟨g, 0, none⟩) l.length c] w fun e w' => e = .returned (.int .i64 (firstL l)) ∧ w' = w := by
  have HC := hidden hc
  obtain ⟨E, hE⟩ : ∃ E, firstL l = E := ⟨_, rfl⟩
  rw [hE]
  have HE := hidden hE
  clear hc hE
  go_enter Try.func40, Try.ntmps40
  go_wp2_with fail
  go_loop [7] (fun iv => ∃ i : Nat, i ≤ l.length ∧ iv = .int .i64 i ∧ E = firstL (l.drop i)) (fun iv => (l.length - intOf iv).toNat)
  case atStart => exact ⟨0, Nat.zero_le _, rfl, HE.out.symm⟩
  case round =>
    clear HE
    obtain ⟨i, hi, rfl, hgo⟩ := hrel
    have HGO := hidden hgo
    clear hgo
    by_cases hlt : i < l.length
    · have x2 : (i : Int) < ((l.length : Nat) : Int) := by omega
      have kx := HC.out i hlt
      have hdrop : l.drop i = l.getD i 0 :: l.drop (i + 1) := by rw [List.drop_eq_getElem_cons hlt, List.getD_eq_getElem?_getD, List.getElem?_eq_getElem hlt]; rfl
      rw [hdrop] at HGO
      generalize l.getD i 0 = a at *
      by_cases ha : a = 0
      · have HG : Hid (E = firstL (l.drop (i + 1))) := by show _ = _; rw [HGO.out, firstL, if_pos ha]
        have hb : (a != 0) = false := by simp [ha]
        clear HGO hdrop ha
        go_wp2_with fail
        all_goals go_roundw
        case rel => exact ⟨i + 1, by omega, by go_num, HG.out⟩
        case measure => simp [intOf]; omega
      · have HG : Hid (E = a) := by show _ = _; rw [HGO.out, firstL, if_neg ha]
        have hb : (a != 0) = true := by simp [ha]
        clear HGO hdrop ha
        go_wp2_with fail
        all_goals go_ret
        all_goals exact ⟨ret_int HG.out.symm, rfl⟩
    · have x2 : ¬ (i : Int) < ((l.length : Nat) : Int) := by omega
      have HG : Hid (E = 0) := by show _ = _; rw [HGO.out, List.drop_of_length_le (by omega)]; rfl
      clear HGO
      go_wp2_with fail
      all_goals go_ret
      all_goals exact ⟨ret_int HG.out.symm, rfl⟩
theorem num_is (x a : Int) (w : World) (h : 0 ≤ x) (h' : x ≤ 18446744073709551615) (e : numW x = a) : Calls Try.prog 63 #[.int .u64 x] w fun e w' => e = .returned (.int .i64 a) ∧ w' = w := by
  subst e; exact num_any x w h h'
/-- What a pair tells that has a number. -/
def numR (x y : Int) : Int := if isIntW x = false then 1 else if isIntW y = false then -1 else sgn (numW x) (numW y)
set_option maxRecDepth 20000 in
theorem byNumber_any (x y : Int) (w : World) (x0 : 0 ≤ x) (x1 : x ≤ 18446744073709551615) (y0 : 0 ≤ y) (y1 : y ≤ 18446744073709551615) :
    Calls Try.prog 39 #[.agg #[.int .u64 x, .int .u64 y]] w fun e w' => e = .returned (.int .i64 (numR x y)) ∧ Below w.heap.size w w' := by
  cases hx : isIntW x with
  | false =>
    have HR : Hid (numR x y = 1) := by show _ = _; unfold numR; rw [if_pos hx]
    have HX := hidden hx
    clear hx
    generalize numR x y = R at *
    go_enter Try.func39, Try.ntmps39
    go_wp2_with (go_at_call 38; refine (isIntP_is x _ x0 x1 HX.out).mono ?_; rintro e w' ⟨rfl, hw'⟩; rw [hw']; clear hw' w')
    all_goals go_ret
    all_goals exact ⟨ret_int HR.out.symm, (Below.refl _ _).alloc (Nat.le_refl _) _⟩
  | true =>
    cases hy : isIntW y with
    | false =>
      have HR : Hid (numR x y = -1) := by show _ = _; unfold numR; rw [if_neg (by rw [hx]; decide), if_pos hy]
      have HX := hidden hx
      have HY := hidden hy
      clear hx hy
      generalize numR x y = R at *
      go_enter Try.func39, Try.ntmps39
      go_wp2_with (go_at_call 38; refine (isIntP_is _ _ (by first | with_reducible exact x0 | with_reducible exact y0) (by first | with_reducible exact x1 | with_reducible exact y1) (by first | with_reducible exact HX.out | with_reducible exact HY.out)).mono ?_; rintro e w' ⟨rfl, hw'⟩; rw [hw']; clear hw' w')
      all_goals go_ret
      all_goals exact ⟨ret_int HR.out.symm, (Below.refl _ _).alloc (Nat.le_refl _) _⟩
    | true =>
      have HR : Hid (numR x y = sgn (numW x) (numW y)) := by show _ = _; unfold numR; rw [if_neg (by rw [hx]; decide), if_neg (by rw [hy]; decide)]
      have HX := hidden hx
      have HY := hidden hy
      clear hx hy
      generalize numR x y = R at *
      obtain ⟨a, ha⟩ : ∃ a, numW x = a := ⟨_, rfl⟩
      obtain ⟨b, hb⟩ : ∃ b, numW y = b := ⟨_, rfl⟩
      rw [ha, hb] at HR
      have HA := hidden ha
      have HB := hidden hb
      clear ha hb
      go_enter Try.func39, Try.ntmps39
      go_upto_region 5 with (go_at_call 38; refine (isIntP_is _ _ (by first | with_reducible exact x0 | with_reducible exact y0) (by first | with_reducible exact x1 | with_reducible exact y1) (by first | with_reducible exact HX.out | with_reducible exact HY.out)).mono ?_; rintro e w' ⟨rfl, hw'⟩; rw [hw']; clear hw' w')
      go_quiet (first | (go_at_call 63; refine Calls.quiet_of_same (num_is _ _ _ (by first | with_reducible exact x0 | with_reducible exact y0) (by first | with_reducible exact x1 | with_reducible exact y1) (by first | with_reducible exact HA.out | with_reducible exact HB.out))) | (go_at_call 75; exact Calls.quiet_of_same (cmp_int64 a b _ HR.out.symm)))
      go_wp2_with fail
      all_goals go_ret
      all_goals exact ⟨rfl, ((Below.refl _ _).alloc (Nat.le_refl _) _).trans ((below_drews _ _).mono (by rw [nblk_alloc]; omega))⟩
/-- What a pair tells by its texts. -/
def txtR (s : St) (r : RS) (x y : Int) : Int := if s.tag x = 202 ∧ s.tag y = 202 then sgnL (bytesI ((textAt s r x).1.getD [])) (bytesI ((textAt s r y).1.getD [])) else 0
theorem ints_of (l : List UInt8) : intsS (ByteArray.mk l.toArray) = bytesI l := by unfold intsS bytesS; simp
set_option maxRecDepth 20000 in
theorem byText_any (x y : Int) (w : World) (h : Ar w p s) (hr : Rep s r) (x0 : 0 ≤ x) (x1 : x ≤ 18446744073709551615) (y0 : 0 ≤ y) (y1 : y ≤ 18446744073709551615) :
    Calls Try.prog 43 #[.pointer (some ⟨p.a, 0, none⟩), .agg #[.int .u64 x, .int .u64 y]] w fun e w' => e = .returned (.int .i64 (txtR s r x y)) ∧ Below w.heap.size w w' := by
  have HA := hidden h
  clear h
  have B0 : Hid (Below w.heap.size w (w.alloc (.cells #[.int .u64 x, .int .u64 y] 56))) := (Below.refl _ _).alloc (Nat.le_refl _) _
  have BX : Hid ((w.alloc (.cells #[.int .u64 x, .int .u64 y] 56)).heap[w.heap.size]? = some (.cells #[.int .u64 x, .int .u64 y] 56 (0, 0))) := blk_alloc_new _ _
  by_cases tx : s.tag x = 202
  · have HX : Hid ((s.tag x == 202) = true) := by show _ = _; rw [tx]; rfl
    by_cases ty : s.tag y = 202
    · have HY : Hid ((s.tag y == 202) = true) := by show _ = _; rw [ty]; rfl
      obtain ⟨lx, hlx⟩ : ∃ l, (textAt s r x).1.getD [] = l := ⟨_, rfl⟩
      obtain ⟨ly, hly⟩ : ∃ l, (textAt s r y).1.getD [] = l := ⟨_, rfl⟩
      have RX := hidden (fun w0 (h0 : Ar w0 p s) => read5_any x w0 h0 hr x0 x1)
      have RY := hidden (fun w0 (h0 : Ar w0 p s) => read5_any y w0 h0 hr y0 y1)
      have HR : Hid (txtR s r x y = sgnL (intsS (ByteArray.mk lx.toArray)) (intsS (ByteArray.mk ly.toArray))) := by show _ = _; unfold txtR; rw [if_pos ⟨tx, ty⟩, hlx, hly, ints_of, ints_of]
      rw [hlx] at RX
      rw [hly] at RY
      generalize txtR s r x y = R at *
      generalize ByteArray.mk lx.toArray = bx at *
      generalize ByteArray.mk ly.toArray = bv at *
      generalize (textAt s r x).2 = ex at *
      generalize (textAt s r y).2 = ey at *
      clear tx ty hlx hly
      go_enter Try.func43, Try.ntmps43
      go_upto_region 1 with fail
      generalize w.alloc (.cells #[.int .u64 x, .int .u64 y] 56) = w0 at *
      have b0 : w0.cell? ⟨w.heap.size, 0, none⟩ = some (.int .u64 x) := by simp [World.cell?, BX.out]
      have b1 : w0.cell? ⟨w.heap.size, 1, none⟩ = some (.int .u64 y) := by simp [World.cell?, BX.out]
      go_wp2_with (first
        | (go_at_call 79; refine (cmp_str bx bv _ HR.out.symm).mono ?_; rintro e w' ⟨rfl, hw'⟩; rw [hw']; clear hw' w')
        | (go_at_call 60; refine (RY.out _ (HA.out.under B3.out)).mono ?_; rintro e w4 ⟨rfl, hb4⟩; have B4 : Hid (Below w.heap.size w w4) := B3.out.trans (hb4.mono B3.out.size); clear hb4)
        | (go_at_call 60; refine (RX.out _ (HA.out.under B2.out)).mono ?_; rintro e w3 ⟨rfl, hb3⟩; have B3 : Hid (Below w.heap.size w w3) := B2.out.trans (hb3.mono B2.out.size); have c1 : w3.cell? ⟨w.heap.size, 1, none⟩ = some (.int .u64 y) := (hb3.cell (p := ⟨w.heap.size, 1, none⟩) (cell_lt a1)).trans a1; clear hb3)
        | (go_at_call 45; refine (isText_is y _ (HA.out.under B1.out) y0 y1 HY.out).mono ?_; rintro e w2 ⟨rfl, m2, hw2⟩; have B2 : Hid (Below w.heap.size w w2) := by { show Below _ _ _; rw [hw2]; exact B1.out.trans ((below_drews _ _).mono B1.out.size) }; have a0 : w2.cell? ⟨w.heap.size, 0, none⟩ = some (.int .u64 x) := by { rw [hw2]; exact d0 }; have a1 : w2.cell? ⟨w.heap.size, 1, none⟩ = some (.int .u64 y) := by { rw [hw2]; exact d1 }; clear hw2)
        | (go_at_call 45; refine (isText_is x _ (HA.out.under B0.out) x0 x1 HX.out).mono ?_; rintro e w1 ⟨rfl, m1, hw1⟩; have B1 : Hid (Below w.heap.size w w1) := by { show Below _ _ _; rw [hw1]; exact B0.out.trans ((below_drews _ _).mono B0.out.size) }; have d0 : w1.cell? ⟨w.heap.size, 0, none⟩ = some (.int .u64 x) := by { rw [hw1]; exact b0 }; have d1 : w1.cell? ⟨w.heap.size, 1, none⟩ = some (.int .u64 y) := by { rw [hw1]; exact b1 }; clear hw1))
      all_goals go_ret
      all_goals exact ⟨rfl, B4.out⟩
    · have HY : Hid ((s.tag y == 202) = false) := beq_eq_false_iff_ne.2 ty
      have HR : Hid (txtR s r x y = 0) := by show _ = _; unfold txtR; rw [if_neg (fun c => ty c.2)]
      generalize txtR s r x y = R at *
      clear tx ty
      go_enter Try.func43, Try.ntmps43
      go_upto_region 1 with fail
      generalize w.alloc (.cells #[.int .u64 x, .int .u64 y] 56) = w0 at *
      have b0 : w0.cell? ⟨w.heap.size, 0, none⟩ = some (.int .u64 x) := by simp [World.cell?, BX.out]
      have b1 : w0.cell? ⟨w.heap.size, 1, none⟩ = some (.int .u64 y) := by simp [World.cell?, BX.out]
      go_wp2_with (first
        | (go_at_call 45; refine (isText_is y _ (HA.out.under B1.out) y0 y1 HY.out).mono ?_; rintro e w2 ⟨rfl, m2, hw2⟩; have B2 : Hid (Below w.heap.size w w2) := by { show Below _ _ _; rw [hw2]; exact B1.out.trans ((below_drews _ _).mono B1.out.size) }; clear hw2)
        | (go_at_call 45; refine (isText_is x _ (HA.out.under B0.out) x0 x1 HX.out).mono ?_; rintro e w1 ⟨rfl, m1, hw1⟩; have B1 : Hid (Below w.heap.size w w1) := by { show Below _ _ _; rw [hw1]; exact B0.out.trans ((below_drews _ _).mono B0.out.size) }; have d0 : w1.cell? ⟨w.heap.size, 0, none⟩ = some (.int .u64 x) := by { rw [hw1]; exact b0 }; have d1 : w1.cell? ⟨w.heap.size, 1, none⟩ = some (.int .u64 y) := by { rw [hw1]; exact b1 }; clear hw1))
      all_goals go_ret
      all_goals exact ⟨ret_int HR.out.symm, B2.out⟩
  · have HX : Hid ((s.tag x == 202) = false) := beq_eq_false_iff_ne.2 tx
    have HR : Hid (txtR s r x y = 0) := by show _ = _; unfold txtR; rw [if_neg (fun c => tx c.1)]
    generalize txtR s r x y = R at *
    clear tx
    go_enter Try.func43, Try.ntmps43
    go_upto_region 1 with fail
    generalize w.alloc (.cells #[.int .u64 x, .int .u64 y] 56) = w0 at *
    have b0 : w0.cell? ⟨w.heap.size, 0, none⟩ = some (.int .u64 x) := by simp [World.cell?, BX.out]
    have b1 : w0.cell? ⟨w.heap.size, 1, none⟩ = some (.int .u64 y) := by simp [World.cell?, BX.out]
    go_wp2_with (go_at_call 45; refine (isText_is x _ (HA.out.under B0.out) x0 x1 HX.out).mono ?_; rintro e w1 ⟨rfl, m1, hw1⟩; have B1 : Hid (Below w.heap.size w w1) := by { show Below _ _ _; rw [hw1]; exact B0.out.trans ((below_drews _ _).mono B0.out.size) }; clear hw1)
    all_goals go_ret
    all_goals exact ⟨ret_int HR.out.symm, B1.out⟩
end Go.Proofs.Ytcbgjkedmboifab
