/-
  Layer 6, the program's order: what is wrong with words. Condition: the arena lies in memory, in one state with a list of blocks.
-/
import Derived.Test.YtcbgjkedmboifabQ6Base
namespace Go.Proofs.Ytcbgjkedmboifab
open Go.ChangeShapes Go.WideShapes Go.ChangeAt Go.RowKit Go.Deep
set_option linter.unusedVariables false
set_option maxHeartbeats 1000000

variable {w w' : World} {p : Pl} {s : St} {r : RS}
theorem Ar.under (h : Ar w p s) (k : Below w.heap.size w w') : Ar w' p s := h.frame (S := fun _ => False) (Only.of_below k) id id id id
theorem isText_is {b : Bool} (x : Int) (w : World) (h : Ar w p s) (h0 : 0 ≤ x) (h1 : x ≤ 18446744073709551615) (e : (s.tag x == 202) = b) :
    Calls Try.prog 45 #[.pointer (some ⟨p.a, 0, none⟩), .int .u64 x] w fun e w' => e = .returned (.bool b) ∧ ∃ m, w' = w.drewN m := by
  have HE := hidden e
  clear e
  obtain ⟨T, hT⟩ : ∃ T, s.tag x = T := ⟨_, rfl⟩
  have HT := hidden hT
  have HB : Hid ((T == 202) = b) := by show _ = _; rw [← HT.out]; exact HE.out
  clear HE hT
  go_enter Try.func45, Try.ntmps45
  go_wp2_with (go_at_call 42; refine (tagv_is x _ h h0 h1 HT.out).mono ?_; rintro e w' ⟨rfl, m, rfl⟩)
  all_goals go_ret
  all_goals exact ⟨by rw [← HB.out]; rfl, _, rfl⟩
theorem holds_is {b : Bool} (x : Int) (w : World) (h : Ar w p s) (hr : Rep s r) (h0 : 0 ≤ x) (h1 : x ≤ 18446744073709551615) (e : ((textAt s r x).2 == 0) = b) :
    Calls Try.prog 58 #[.pointer (some ⟨p.a, 0, none⟩), .int .u64 x] w fun e w' => e = .returned (.bool b) ∧ Below w.heap.size w w' := by
  have HL := hidden (length_any x w h hr h0 h1)
  have HB := hidden e
  clear e
  generalize (textAt s r x).2 = E at *
  generalize ((textAt s r x).1.getD []).length = n at *
  go_enter Try.func58, Try.ntmps58
  go_wp2_with (go_at_call 84; refine HL.out.mono ?_; rintro e w' ⟨rfl, hb⟩; have HB2 := hidden hb; clear hb)
  all_goals go_ret
  all_goals exact ⟨by rw [← HB.out]; rfl, HB2.out⟩
/-- A word at a distance leads to a closure. -/
theorem find_far (s : St) (x : Int) (h : 0 < (s.find x).2) : s.tagAt (s.find x).1 = 200 := by
  unfold St.find at h ⊢
  split at h
  · exact absurd h (Int.lt_irrefl 0)
  · rename_i c1
    rw [if_neg c1]
    split at h
    · exact absurd h (Int.lt_irrefl 0)
    · rename_i c2
      rw [if_neg c2]
      split at h
      · rename_i c3
        rw [if_pos c3]
        have := c3.2
        unfold St.isInr at this
        simp at this
        exact this.1.2
      · exact absurd h (Int.lt_irrefl 0)
/-- What is wrong with a word that is even, by its block's tag. -/
theorem wrong_cases (h : Rep s r) (x : Int) (hi : isIntW x = false) :
    (s.tag x = 200 ∧ (ndW s r x).wrong = 12) ∨ (s.tag x < 0 ∧ (ndW s r x).wrong = 6) ∨ (s.tag x = 202 ∧ (textAt s r x).2 ≠ 0 ∧ (ndW s r x).wrong = 6) ∨ (s.tag x = 202 ∧ (textAt s r x).2 = 0 ∧ (ndW s r x).wrong = 0) ∨ (0 ≤ s.tag x ∧ s.tag x ≠ 200 ∧ s.tag x ≠ 202 ∧ (ndW s r x).wrong = 0) := by
  rcases nd_cases h x with ⟨hi2, e⟩ | ⟨_, g, e⟩ | ⟨_, k, b, hk, hf, hl, hbk, e⟩
  · rw [hi] at hi2; cases hi2
  · refine Or.inr (Or.inl ⟨?_, by rw [e]; rfl⟩)
    unfold St.tag; rw [if_pos g]; decide
  · obtain ⟨ht, _, _, _⟩ := blk_says h hk hf
    have htag := h.tag k b hk
    rw [e, ht]
    by_cases t1 : b.tag = 200
    · exact Or.inl ⟨t1, by unfold ndB; rw [if_pos t1]; rfl⟩
    · have hd : ¬ 0 < (s.find x).2 := fun c => t1 (by
        have h1 := find_far s x c
        have h2 : s.tag x = s.tagAt (s.find x).1 := by unfold St.tag; rw [if_neg (by rw [hf]; have := (h.inside hk).1; omega)]
        rw [← ht, h2, h1])
      have hd0 : (s.find x).2 = 0 := by have := find2_lo s x; omega
      have en : ndB b (s.find x).2 = if b.tag = 202 then (match readT b.F with | some l => .txt (bytesI l) | none => .bad) else .blk b.tag b.F := by unfold ndB; rw [if_neg t1, if_neg hd]; rfl
      rw [en]
      by_cases t3 : b.tag = 202
      · rw [if_pos t3]
        have etx : (textAt s r x).2 = if (readT b.F).isSome then 0 else 5 := by
          have e1 : textF b = readT b.F := by unfold textF; rw [if_pos t3]
          unfold textAt
          rw [if_neg (by rintro (c | c); rw [hf] at c; have := (h.inside hk).1; omega; exact hd c), hl]
          simp only [hbk, e1]
        rw [etx]
        cases readT b.F with
        | none => exact Or.inr (Or.inr (Or.inl ⟨t3, by decide, rfl⟩))
        | some l => exact Or.inr (Or.inr (Or.inr (Or.inl ⟨t3, rfl, rfl⟩)))
      · rw [if_neg t3]
        exact Or.inr (Or.inr (Or.inr (Or.inr ⟨htag.1, t1, t3, rfl⟩)))
/-- What is wrong with words, one behind the other. -/
def faultG (nd : Int → Nd) : List Int → Int → Int
  | [], e => e
  | x :: l, e => if (nd x).wrong = 12 then 12 else faultG nd l (if (nd x).wrong = 0 then e else 6)
theorem nd_wrong (n : Nd) : n.wrong = 0 ∨ n.wrong = 6 ∨ n.wrong = 12 := by cases n <;> simp [Nd.wrong]
theorem fault_one (nd : Int → Nd) (x : Int) : faultG nd [x] 0 = (nd x).wrong := by
  rcases nd_wrong (nd x) with h | h | h <;> simp [faultG, h]
theorem fault_two (nd : Int → Nd) (x y : Int) : faultG nd [x, y] 0 = (pairOut nd x y).1 := by
  unfold pairOut
  rcases nd_wrong (nd x) with h | h | h <;> rcases nd_wrong (nd y) with g | g | g <;> simp [faultG, h, g] <;> (try (split <;> rfl))
/-- Where the loop over the words is. -/
def FaultAt (nd : Int → Nd) (l : List Int) (E : Int) (w : World) (ev iv : Value) (wr : World) : Prop :=
  ∃ (i : Nat) (e : Int), i ≤ l.length ∧ iv = .int .i64 i ∧ ev = .int .i64 e ∧ E = faultG nd (l.drop i) e ∧ Below w.heap.size w wr
theorem fault_int {x e : Int} {l : List Int} {nd : Int → Nd} (h : (nd x).wrong = 0) : faultG nd (x :: l) e = faultG nd l e := by simp [faultG, h]
theorem fault_bad {x e : Int} {l : List Int} {nd : Int → Nd} (h : (nd x).wrong = 6) : faultG nd (x :: l) e = faultG nd l 6 := by simp [faultG, h]
theorem fault_fun {x e : Int} {l : List Int} {nd : Int → Nd} (h : (nd x).wrong = 12) : faultG nd (x :: l) e = 12 := by simp [faultG, h]
set_option maxHeartbeats 4000000 in
theorem fault_any (l : List Int) (g c : Nat) (w : World) (h : Ar w p s) (hr : Rep s r) (hg : g < w.heap.size) (hc : ∀ i, i < l.length → w.cell? ⟨g, i, none⟩ = some (.int .u64 (l.getD i 0))) (hl : ∀ x, x ∈ l → R64 x) (hl2 : l.length < 1000) :
    Calls Try.prog 26 #[.pointer (some ⟨p.a, 0, none⟩), .slice (some ⟨g, 0, none⟩) l.length c] w fun e w' => e = .returned (.int .i64 (faultG (ndW s r) l 0)) ∧ Below w.heap.size w w' := by
  have HA := hidden h
  have HC := hidden hc
  have HL := hidden hl
  obtain ⟨E, hE⟩ : ∃ E, faultG (ndW s r) l 0 = E := ⟨_, rfl⟩
  rw [hE]
  have HE := hidden hE
  clear h hc hl hE
  go_enter Try.func26, Try.ntmps26
  go_wp2_with fail
  go_loopw [5, 10] (fun ev iv wr => FaultAt (ndW s r) l E w ev iv wr) (fun _ iv _ => (l.length - intOf iv).toNat)
  case atStart => exact ⟨0, 0, Nat.zero_le _, rfl, rfl, HE.out.symm, Below.refl _ _⟩
  case round =>
    clear HE
    obtain ⟨i, e, hi, rfl, rfl, hgo, hb⟩ := hrel
    have HGO := hidden hgo
    have HB := hidden hb
    clear hgo
    by_cases hlt : i < l.length
    · have x2 : (i : Int) < ((l.length : Nat) : Int) := by omega
      have kx := (hb.cell (p := ⟨g, i, none⟩) hg).trans (HC.out i hlt)
      have hxm : l.getD i 0 ∈ l := by rw [List.getD_eq_getElem?_getD, List.getElem?_eq_getElem hlt]; exact List.getElem_mem _
      have hdrop : l.drop i = l.getD i 0 :: l.drop (i + 1) := by rw [List.drop_eq_getElem_cons hlt, List.getD_eq_getElem?_getD, List.getElem?_eq_getElem hlt]; rfl
      obtain ⟨x0, x1⟩ := HL.out _ hxm
      rw [hdrop] at HGO
      generalize l.getD i 0 = x at *
      have A0 := hidden (HA.out.under hb)
      clear hb hdrop hxm
      cases hi2 : isIntW x with
      | true =>
        have HI := hidden hi2
        have HG : Hid (E = faultG (ndW s r) (l.drop (i + 1)) e) := by
          show _ = _
          rw [HGO.out, fault_int]
          unfold ndW; rw [if_pos hi2]; rfl
        clear HGO hi2
        go_wp2_with (go_at_call 38; refine (isIntP_is x _ x0 x1 HI.out).mono ?_; rintro e w' ⟨rfl, hw'⟩; rw [hw']; clear hw' w')
        all_goals go_roundw
        case rel => exact ⟨i + 1, e, by omega, by go_num, rfl, HG.out, HB.out⟩
        case measure => simp [intOf]; omega
      | false =>
        have HI := hidden hi2
        have hcs := wrong_cases hr x hi2
        clear hi2
        rcases hcs with ⟨t, hw⟩ | ⟨t, hw⟩ | ⟨t, t2, hw⟩ | ⟨t, t2, hw⟩ | ⟨t0, t1, t2, hw⟩
        · have HT := hidden t
          have HG : Hid (E = 12) := by show _ = _; rw [HGO.out, fault_fun hw]
          clear HGO t hw
          go_wp2_with (first | (go_at_call 38; refine (isIntP_is x _ x0 x1 HI.out).mono ?_; rintro e w' ⟨rfl, hw'⟩; rw [hw']; clear hw' w') | (go_at_call 42; refine (tagv_is x _ A0.out x0 x1 HT.out).mono ?_; rintro e w3 ⟨rfl, m3, hw3⟩; have B3 : Hid (Below w.heap.size w w3) := by { show Below _ _ _; rw [hw3]; exact HB.out.trans ((below_drews _ _).mono HB.out.size) }; clear hw3))
          all_goals go_ret
          all_goals exact ⟨ret_int HG.out.symm, B3.out⟩
        · obtain ⟨T, hT⟩ : ∃ T, s.tag x = T := ⟨_, rfl⟩
          rw [hT] at t
          have HT := hidden hT
          have tn : (T == 200) = false := beq_eq_false_iff_ne.2 (by omega)
          have HG : Hid (E = faultG (ndW s r) (l.drop (i + 1)) 6) := by show _ = _; rw [HGO.out, fault_bad hw]
          clear HGO hw hT
          go_wp2_with (first | (go_at_call 38; refine (isIntP_is x _ x0 x1 HI.out).mono ?_; rintro e w' ⟨rfl, hw'⟩; rw [hw']; clear hw' w') | (go_at_call 58; refine (holds_is x _ (HA.out.under B5.out) hr x0 x1 HY.out).mono ?_; rintro e w6 ⟨rfl, hw3⟩; have B6 : Hid (Below w.heap.size w w6) := B5.out.trans (hw3.mono B5.out.size); clear hw3) | (go_at_call 45; refine (isText_is x _ (HA.out.under B4.out) x0 x1 HX.out).mono ?_; rintro e w5 ⟨rfl, m3, hw3⟩; have B5 : Hid (Below w.heap.size w w5) := by { show Below _ _ _; rw [hw3]; exact B4.out.trans ((below_drews _ _).mono B4.out.size) }; clear hw3) | (go_at_call 42; refine (tagv_is x _ (HA.out.under B3.out) x0 x1 HT.out).mono ?_; rintro e w4 ⟨rfl, m3, hw3⟩; have B4 : Hid (Below w.heap.size w w4) := by { show Below _ _ _; rw [hw3]; exact B3.out.trans ((below_drews _ _).mono B3.out.size) }; clear hw3) | (go_at_call 42; refine (tagv_is x _ A0.out x0 x1 HT.out).mono ?_; rintro e w3 ⟨rfl, m3, hw3⟩; have B3 : Hid (Below w.heap.size w w3) := by { show Below _ _ _; rw [hw3]; exact HB.out.trans ((below_drews _ _).mono HB.out.size) }; clear hw3))
          all_goals go_roundw
          case rel => exact ⟨i + 1, _, by omega, by go_num, rfl, HG.out, B4.out⟩
          case measure => simp [intOf]; omega
        · have HT := hidden t
          have HX : Hid ((s.tag x == 202) = true) := by show _ = _; rw [t]; rfl
          have HY : Hid (((textAt s r x).2 == 0) = false) := beq_eq_false_iff_ne.2 t2
          have HG : Hid (E = faultG (ndW s r) (l.drop (i + 1)) 6) := by show _ = _; rw [HGO.out, fault_bad hw]
          clear HGO hw t t2
          go_wp2_with (first | (go_at_call 38; refine (isIntP_is x _ x0 x1 HI.out).mono ?_; rintro e w' ⟨rfl, hw'⟩; rw [hw']; clear hw' w') | (go_at_call 58; refine (holds_is x _ (HA.out.under B5.out) hr x0 x1 HY.out).mono ?_; rintro e w6 ⟨rfl, hw3⟩; have B6 : Hid (Below w.heap.size w w6) := B5.out.trans (hw3.mono B5.out.size); clear hw3) | (go_at_call 45; refine (isText_is x _ (HA.out.under B4.out) x0 x1 HX.out).mono ?_; rintro e w5 ⟨rfl, m3, hw3⟩; have B5 : Hid (Below w.heap.size w w5) := by { show Below _ _ _; rw [hw3]; exact B4.out.trans ((below_drews _ _).mono B4.out.size) }; clear hw3) | (go_at_call 42; refine (tagv_is x _ (HA.out.under B3.out) x0 x1 HT.out).mono ?_; rintro e w4 ⟨rfl, m3, hw3⟩; have B4 : Hid (Below w.heap.size w w4) := by { show Below _ _ _; rw [hw3]; exact B3.out.trans ((below_drews _ _).mono B3.out.size) }; clear hw3) | (go_at_call 42; refine (tagv_is x _ A0.out x0 x1 HT.out).mono ?_; rintro e w3 ⟨rfl, m3, hw3⟩; have B3 : Hid (Below w.heap.size w w3) := by { show Below _ _ _; rw [hw3]; exact HB.out.trans ((below_drews _ _).mono HB.out.size) }; clear hw3))
          all_goals go_roundw
          case rel => exact ⟨i + 1, _, by omega, by go_num, rfl, HG.out, B6.out⟩
          case measure => simp [intOf]; omega
        · have HT := hidden t
          have HX : Hid ((s.tag x == 202) = true) := by show _ = _; rw [t]; rfl
          have HY : Hid (((textAt s r x).2 == 0) = true) := by show _ = _; rw [t2]; rfl
          have HG : Hid (E = faultG (ndW s r) (l.drop (i + 1)) e) := by show _ = _; rw [HGO.out, fault_int hw]
          clear HGO hw t t2
          go_wp2_with (first | (go_at_call 38; refine (isIntP_is x _ x0 x1 HI.out).mono ?_; rintro e w' ⟨rfl, hw'⟩; rw [hw']; clear hw' w') | (go_at_call 58; refine (holds_is x _ (HA.out.under B5.out) hr x0 x1 HY.out).mono ?_; rintro e w6 ⟨rfl, hw3⟩; have B6 : Hid (Below w.heap.size w w6) := B5.out.trans (hw3.mono B5.out.size); clear hw3) | (go_at_call 45; refine (isText_is x _ (HA.out.under B4.out) x0 x1 HX.out).mono ?_; rintro e w5 ⟨rfl, m3, hw3⟩; have B5 : Hid (Below w.heap.size w w5) := by { show Below _ _ _; rw [hw3]; exact B4.out.trans ((below_drews _ _).mono B4.out.size) }; clear hw3) | (go_at_call 42; refine (tagv_is x _ (HA.out.under B3.out) x0 x1 HT.out).mono ?_; rintro e w4 ⟨rfl, m3, hw3⟩; have B4 : Hid (Below w.heap.size w w4) := by { show Below _ _ _; rw [hw3]; exact B3.out.trans ((below_drews _ _).mono B3.out.size) }; clear hw3) | (go_at_call 42; refine (tagv_is x _ A0.out x0 x1 HT.out).mono ?_; rintro e w3 ⟨rfl, m3, hw3⟩; have B3 : Hid (Below w.heap.size w w3) := by { show Below _ _ _; rw [hw3]; exact HB.out.trans ((below_drews _ _).mono HB.out.size) }; clear hw3))
          all_goals go_roundw
          case rel => exact ⟨i + 1, _, by omega, by go_num, rfl, HG.out, B6.out⟩
          case measure => simp [intOf]; omega
        · obtain ⟨T, hT⟩ : ∃ T, s.tag x = T := ⟨_, rfl⟩
          have HX : Hid ((s.tag x == 202) = false) := beq_eq_false_iff_ne.2 t2
          rw [hT] at t0 t1
          have HT := hidden hT
          have tn : (T == 200) = false := beq_eq_false_iff_ne.2 t1
          have tn2 : ¬ T < 0 := by omega
          have HG : Hid (E = faultG (ndW s r) (l.drop (i + 1)) e) := by show _ = _; rw [HGO.out, fault_int hw]
          clear HGO hw hT t1 t2
          go_wp2_with (first | (go_at_call 38; refine (isIntP_is x _ x0 x1 HI.out).mono ?_; rintro e w' ⟨rfl, hw'⟩; rw [hw']; clear hw' w') | (go_at_call 58; refine (holds_is x _ (HA.out.under B5.out) hr x0 x1 HY.out).mono ?_; rintro e w6 ⟨rfl, hw3⟩; have B6 : Hid (Below w.heap.size w w6) := B5.out.trans (hw3.mono B5.out.size); clear hw3) | (go_at_call 45; refine (isText_is x _ (HA.out.under B4.out) x0 x1 HX.out).mono ?_; rintro e w5 ⟨rfl, m3, hw3⟩; have B5 : Hid (Below w.heap.size w w5) := by { show Below _ _ _; rw [hw3]; exact B4.out.trans ((below_drews _ _).mono B4.out.size) }; clear hw3) | (go_at_call 42; refine (tagv_is x _ (HA.out.under B3.out) x0 x1 HT.out).mono ?_; rintro e w4 ⟨rfl, m3, hw3⟩; have B4 : Hid (Below w.heap.size w w4) := by { show Below _ _ _; rw [hw3]; exact B3.out.trans ((below_drews _ _).mono B3.out.size) }; clear hw3) | (go_at_call 42; refine (tagv_is x _ A0.out x0 x1 HT.out).mono ?_; rintro e w3 ⟨rfl, m3, hw3⟩; have B3 : Hid (Below w.heap.size w w3) := by { show Below _ _ _; rw [hw3]; exact HB.out.trans ((below_drews _ _).mono HB.out.size) }; clear hw3))
          all_goals go_roundw
          case rel => exact ⟨i + 1, _, by omega, by go_num, rfl, HG.out, B5.out⟩
          case measure => simp [intOf]; omega
    · have x2 : ¬ (i : Int) < ((l.length : Nat) : Int) := by omega
      have HG : Hid (E = e) := by show _ = _; rw [HGO.out, List.drop_of_length_le (by omega)]; rfl
      clear HGO
      go_wp2_with fail
      all_goals go_ret
      all_goals exact ⟨ret_int HG.out.symm, HB.out⟩
end Go.Proofs.Ytcbgjkedmboifab
