/-
  Layer 6, the program's work: the pairs of two blocks' fields are put, the last ones first. Condition: the work and the arena lie in memory.
-/
import Derived.Test.YtcbgjkedmboifabQ6Take
namespace Go.Proofs.Ytcbgjkedmboifab
open Go.ChangeShapes Go.WideShapes Go.ChangeAt Go.RowKit Go.Deep
set_option linter.unusedVariables false
set_option maxHeartbeats 1000000

variable {w w' : World} {B kb n : Nat} {O : Nat → Prop} {ws : List (Int × Int)} {room x y : Int} {p : Pl} {s : St} {r : RS}
/-- What a word's fields are. -/
structure FieldsAre (s : St) (x : Int) (F : List Int) : Prop where
  size : s.size x = F.length
  get : ∀ i : Nat, i < F.length → s.fieldE x i = 0 ∧ s.get x i = F.getD i 0
  len : F.length ≤ 4096
theorem fields_are (h : Rep s r) {k : Nat} {b : Blk} (hk : r.L[k]? = some b) (hf : (s.find x).1 = b.ad) (hd : (s.find x).2 = 0) : FieldsAre s x b.F := by
  obtain ⟨h1, h2, h3, h4⟩ := blk_says h hk hf
  have hx : (b.ad : Int) = addrW x := by
    have := find_sum (s := s) (x := x) (by rw [hf]; omega)
    omega
  exact ⟨h2, fun i hi => get_blk h hk hx hi, h4⟩
/-- What putting the pairs tells and makes. -/
def PutAs (w : World) (O : Nat → Prop) (kb : Nat) (room : Int) (ws Z : List (Int × Int)) (e : Ending) (w' : World) : Prop :=
  (Z ≠ [] ∧ room < 2 * (Z.length + ws.length : Nat) ∧ e = .returned (.int .i64 11) ∧ Only O w w') ∨ ((Z ≠ [] → 2 * ((Z.length + ws.length : Nat) : Int) ≤ room) ∧ e = .returned (.int .i64 0) ∧ ∃ O', PW w' O' kb (Z ++ ws) room ∧ Grows O O' w w')
/-- Where the loop over two blocks' parts is. -/
def PutAt (w : World) (O : Nat → Prop) (kb : Nat) (room : Int) (ws Z : List (Int × Int)) (iv : Value) (wr : World) : Prop :=
  ∃ (d : Nat) (O' : Nat → Prop), d ≤ Z.length ∧ iv = .int .i64 ((d : Int) - 1) ∧ PW wr O' kb (Z.drop d ++ ws) room ∧ (d < Z.length → 2 * (((Z.drop d).length + ws.length : Nat) : Int) ≤ room) ∧ Grows O O' w wr
theorem zip_at {F G : List Int} {k : Nat} (h : F.length = G.length) (hk : k < F.length) : (F.zip G).drop k = (F.getD k 0, G.getD k 0) :: (F.zip G).drop (k + 1) := by
  have h2 : k < (F.zip G).length := by rw [List.length_zip]; omega
  rw [List.drop_eq_getElem_cons h2]
  simp [List.getElem_zip, List.getD_eq_getElem?_getD, List.getElem?_eq_getElem hk, List.getElem?_eq_getElem (show k < G.length by omega)]
set_option maxHeartbeats 4000000 in
set_option maxRecDepth 20000 in
theorem putFields_any {F G : List Int} (w : World) (hA : ∀ w', Only O w w' → Ar w' p s) (hr : Rep s r) (h : PW w O kb ws room) (hl : ws.length ≤ 390000000) (fx : FieldsAre s x F) (fy : FieldsAre s y G) (hn : F.length = G.length) (x0 : 0 ≤ x) (x1 : x ≤ 18446744073709551615) (y0 : 0 ≤ y) (y1 : y ≤ 18446744073709551615) :
    Calls Try.prog 46 #[.pointer (some ⟨kb, 0, none⟩), .pointer (some ⟨p.a, 0, none⟩), .agg #[.int .u64 x, .int .u64 y]] w fun e w' => PutAs w O kb room ws (F.zip G) e w' := by
  have HA := hidden hA
  have HP := hidden h
  have FX := hidden fx
  have FY := hidden fy
  have HN := hidden hn
  obtain ⟨L, hL⟩ : ∃ L, F.length = L := ⟨_, rfl⟩
  have HL := hidden hL
  have HS : Hid (s.size x = (L : Nat)) := by show _ = _; rw [← hL]; exact fx.size
  have HZ : Hid ((F.zip G).length = L) := by show _ = _; rw [List.length_zip, ← hn, Nat.min_self]; exact hL
  have hL2 : L ≤ 4096 := by rw [← hL]; exact fx.len
  have HF := hidden hr.fits
  have HO : Hid (¬ O w.heap.size) := by
    obtain ⟨_, _, ⟨_, _, h5⟩, _⟩ := h
    exact fun c => Nat.lt_irrefl _ (h5 _ c)
  clear hA h fx fy hn hL
  go_enter Try.func46, Try.ntmps46
  go_wp2_with (go_at_call 44; refine (sizev_is x _ (HA.out _ ((Only.refl _ _).alloc _)) x0 x1 HS.out).mono ?_; rintro e w1 ⟨rfl, m, hw1⟩; have B1 : Hid (Below w.heap.size w w1) := by { show Below _ _ _; rw [hw1]; exact ((Below.refl _ _).alloc (Nat.le_refl _) _).trans ((below_drews _ _).mono (by rw [nblk_alloc]; omega)) }; have BX : Hid (w1.heap[w.heap.size]? = some (.cells #[.int .u64 x, .int .u64 y] 56 (0, 0))) := by { show _ = _; rw [hw1]; exact blk_alloc_new _ _ }; clear hw1)
  go_loopw [7] (fun iv wr => PutAt w1 O kb room ws (F.zip G) iv wr) (fun iv _ => (intOf iv + 1).toNat)
  case atStart => exact ⟨L, O, Nat.le_of_eq HZ.out.symm, by go_num, by rw [← HZ.out, List.drop_length, List.nil_append]; exact HP.out.under B1.out, fun c => absurd c (by rw [HZ.out]; omega), Grows.of_below O (Below.refl _ _)⟩
  case round =>
    obtain ⟨d, O', hd, rfl, hpw, hroom, hgr⟩ := hrel
    have HPW := hidden hpw
    have HRM := hidden hroom
    have HGR := hidden hgr
    have hd2 : d ≤ L := by rw [← HZ.out]; exact hd
    clear hpw hroom hgr hd
    cases d with
    | zero =>
      have z0 : ¬ (0 : Int) ≤ ((0 : Nat) : Int) - 1 := by omega
      go_wp2_with fail
      all_goals go_ret
      all_goals refine Or.inr ⟨fun hz => ?_, rfl, O', ?_, (Grows.of_below O B1.out).trans HGR.out⟩
      · have : 0 < (F.zip G).length := List.length_pos_iff.2 hz
        have h2 := HRM.out this
        rw [List.drop_zero] at h2
        exact h2
      · have := HPW.out
        rw [List.drop_zero] at this
        exact this
    | succ k =>
      have ek : ((k + 1 : Nat) : Int) - 1 = (k : Int) := by omega
      rw [ek]
      have hk : k < F.length := by rw [HL.out]; omega
      have hkG : k < G.length := by rw [← HN.out]; exact hk
      have z0 : (0 : Int) ≤ (k : Int) := by omega
      obtain ⟨gx1, gx2⟩ := FX.out.get k hk
      obtain ⟨gy1, gy2⟩ := FY.out.get k hkG
      have GX1 := hidden gx1
      have GX2 := hidden gx2
      have GY1 := hidden gy1
      have GY2 := hidden gy2
      have HZD := hidden (zip_at HN.out hk)
      have HLN : Hid (((F.zip G).drop (k + 1) ++ ws).length = L - (k + 1) + ws.length) := by show _ = _; rw [List.length_append, List.length_drop, HZ.out]
      have HLE : ((F.zip G).drop (k + 1) ++ ws).length ≤ 400000000 := by rw [HLN.out]; omega
      have bx : wr.heap[w.heap.size]? = some (.cells #[.int .u64 x, .int .u64 y] 56 (0, 0)) := (HGR.out.only.block _ (lt_of_some BX.out) HO.out).trans BX.out
      have AR := hidden (HA.out _ (((Only.of_below B1.out) : Only O w w1).trans HGR.out.only))
      have b0 : wr.cell? ⟨w.heap.size, 0, none⟩ = some (.int .u64 x) := by simp [World.cell?, bx]
      have b1 : wr.cell? ⟨w.heap.size, 1, none⟩ = some (.int .u64 y) := by simp [World.cell?, bx]
      have BX2 := hidden bx
      generalize F.getD k 0 = X at *
      generalize G.getD k 0 = Y at *
      clear gx1 gx2 gy1 gy2 hk hkG bx ek
      have OB1 : Hid (Only O w w1) := Only.of_below B1.out
      generalize hq : w.heap.size = q at *
      have HQ := hidden hq
      clear hq
      by_cases hrm : room < 2 * ((((F.zip G).drop (k + 1) ++ ws).length : Int) + 1)
      · go_wp2_with (first
          | (go_at_call 17; refine (put_no X Y _ (HPW.out.under B3.out) HLE (by first | exact hrm | omega)).mono ?_; rintro e w4 ⟨rfl, hb4⟩; have B4 : Hid (Below wr.heap.size wr w4) := B3.out.trans (hb4.mono B3.out.size); clear hb4)
          | (go_at_call 62; refine (get_at y k Y 0 _ (AR.out.under B2.out) HF.out y0 y1 GY2.out GY1.out).mono ?_; rintro e w3 ⟨rfl, m3, hw3⟩; have B3 : Hid (Below wr.heap.size wr w3) := by { show Below _ _ _; rw [hw3]; exact B2.out.trans ((below_drews _ _).mono B2.out.size) }; clear hw3)
          | (go_at_call 62; refine (get_at x k X 0 _ AR.out HF.out x0 x1 GX2.out GX1.out).mono ?_; rintro e w2 ⟨rfl, m2, hw2⟩; have B2 : Hid (Below wr.heap.size wr w2) := by { show Below _ _ _; rw [hw2]; exact below_drews _ _ }; have b1 : w2.cell? ⟨q, 1, none⟩ = some (.int .u64 y) := by { rw [hw2]; exact b1 }; clear hw2))
        all_goals go_ret
        all_goals exact Or.inl ⟨by intro c; have := HZ.out; rw [c] at this; have h2 : L = 0 := this.symm; omega, by rw [HZ.out]; rw [HLN.out] at hrm; omega, rfl, (OB1.out.trans HGR.out.only).trans (Only.of_below B4.out)⟩
      · go_wp2_with (first
          | (go_at_call 17; refine (put_yes X Y _ (HPW.out.under B3.out) HLE (by first | exact (Int.not_lt.1 hrm) | omega)).mono ?_; rintro e w4 ⟨rfl, O4, hp4, hg4⟩; have P4 := hidden hp4; have G4 := hidden (HGR.out.trans ((Grows.of_below O' B3.out).trans hg4)); clear hp4 hg4)
          | (go_at_call 62; refine (get_at y k Y 0 _ (AR.out.under B2.out) HF.out y0 y1 GY2.out GY1.out).mono ?_; rintro e w3 ⟨rfl, m3, hw3⟩; have B3 : Hid (Below wr.heap.size wr w3) := by { show Below _ _ _; rw [hw3]; exact B2.out.trans ((below_drews _ _).mono B2.out.size) }; clear hw3)
          | (go_at_call 62; refine (get_at x k X 0 _ AR.out HF.out x0 x1 GX2.out GX1.out).mono ?_; rintro e w2 ⟨rfl, m2, hw2⟩; have B2 : Hid (Below wr.heap.size wr w2) := by { show Below _ _ _; rw [hw2]; exact below_drews _ _ }; have b1 : w2.cell? ⟨q, 1, none⟩ = some (.int .u64 y) := by { rw [hw2]; exact b1 }; clear hw2))
        all_goals go_roundw
        case rel => exact ⟨k, O4, by rw [HZ.out]; omega, by go_num, by rw [HZD.out]; exact P4.out, fun _ => by have h2 := HLN.out; have h3 := HZD.out; rw [h3, List.length_cons]; rw [List.length_append] at h2; rw [List.length_append] at hrm; omega, G4.out⟩
        case measure => simp [intOf]
end Go.Proofs.Ytcbgjkedmboifab
