/-
  Layer 5, the program's Byte: a byte of a text, or what is wrong. Condition: the arena lies in memory, in one state with a list of blocks.
-/
import Derived.Test.YtlhcleocdlnbdaaE5Length
namespace Go.Proofs.Ytlhcleocdlnbdaa
open Go.ChangeShapes Go.WideShapes Go.ChangeAt Go.RowKit Go.Deep
set_option linter.unusedVariables false
set_option maxHeartbeats 1000000

variable {w : World} {p : Pl} {s : St} {r : RS}
/-- What is wrong with byte i of a text of n bytes. -/
def hasE (n : Nat) (E i : Int) : Int := if E ≠ 0 then E else if i < 0 ∨ (n : Int) ≤ i then 2 else 0
theorem has_of {n : Nat} {E : Int} (x i : Int) (w : World) (H : Calls Try.prog 13 #[.pointer (some ⟨p.a, 0, none⟩), .int .u64 x] w fun e w' => e = .returned (.tuple #[.int .i64 (n : Nat), .int .i64 E]) ∧ Below w.heap.size w w') :
    Calls Try.prog 43 #[.pointer (some ⟨p.a, 0, none⟩), .int .u64 x, .int .i64 i] w fun e w' => e = .returned (.int .i64 (hasE n E i)) ∧ Below w.heap.size w w' := by
  by_cases hE : E = 0
  · subst hE
    have HR := hidden H
    clear H
    by_cases c1 : i < 0
    · have HO : Hid (hasE n 0 i = 2) := by show _ = _; unfold hasE; rw [if_neg (by decide), if_pos (Or.inl c1)]
      go_enter Try.func43, Try.ntmps43
      go_wp2_with (go_at_call 13; refine HR.out.mono ?_; rintro e w' ⟨rfl, hb⟩; have HB : Hid _ := hb; clear hb)
      all_goals go_ret
      all_goals exact ⟨ret_int HO.out.symm, HB.out⟩
    · by_cases c2 : (n : Int) ≤ i
      · have HO : Hid (hasE n 0 i = 2) := by show _ = _; unfold hasE; rw [if_neg (by decide), if_pos (Or.inr c2)]
        go_enter Try.func43, Try.ntmps43
        go_wp2_with (go_at_call 13; refine HR.out.mono ?_; rintro e w' ⟨rfl, hb⟩; have HB : Hid _ := hb; clear hb)
        all_goals go_ret
        all_goals exact ⟨ret_int HO.out.symm, HB.out⟩
      · have HO : Hid (hasE n 0 i = 0) := by show _ = _; unfold hasE; rw [if_neg (by decide), if_neg (by omega)]
        go_enter Try.func43, Try.ntmps43
        go_wp2_with (go_at_call 13; refine HR.out.mono ?_; rintro e w' ⟨rfl, hb⟩; have HB : Hid _ := hb; clear hb)
        all_goals go_ret
        all_goals exact ⟨ret_int HO.out.symm, HB.out⟩
  · have HR := hidden H
    have HO : Hid (hasE n E i = E) := by show _ = _; unfold hasE; rw [if_pos hE]
    have hE2 : (E == 0) = false := beq_eq_false_iff_ne.2 hE
    clear H hE
    go_enter Try.func43, Try.ntmps43
    go_wp2_with (go_at_call 13; refine HR.out.mono ?_; rintro e w' ⟨rfl, hb⟩; have HB : Hid _ := hb; clear hb)
    all_goals go_ret
    all_goals exact ⟨ret_int HO.out.symm, HB.out⟩
theorem text_two (hr : Rep s r) (x : Int) : ((textAt s r x).1 = none ∧ ((textAt s r x).2 = 6 ∨ (textAt s r x).2 = 5)) ∨ ∃ l, textAt s r x = (some l, 0) := by
  rcases text_cases hr x with ⟨g, e⟩ | ⟨k, b, hk, hf, g2, hx, _, _, e⟩
  · rw [e]; exact Or.inl ⟨rfl, Or.inl rfl⟩
  · rw [e]
    cases ht : textF b with
    | none => exact Or.inl ⟨rfl, Or.inr rfl⟩
    | some l => exact Or.inr ⟨l, rfl⟩
theorem hasE_byte (hr : Rep s r) (x i : Int) : hasE ((textAt s r x).1.getD []).length (textAt s r x).2 i = (byteAt s r x i).2 := by
  unfold byteAt
  rcases text_two hr x with ⟨e1, e2⟩ | ⟨l, e⟩
  · rw [e1]
    rcases e2 with e2 | e2
    · rw [e2, if_pos rfl]; rfl
    · rw [e2, if_neg (by decide)]; rfl
  · rw [e]
    show hasE l.length 0 i = (if (0 : Int) = 6 then ((0 : Int), (6 : Int)) else byteOut (some l) i).2
    rw [if_neg (by decide)]
    unfold hasE byteOut
    simp only
    rw [if_neg (by decide)]
    by_cases c : 0 ≤ i ∧ i < l.length
    · rw [if_neg (by omega), if_pos c]
    · rw [if_pos (by omega), if_neg c]
theorem has_any (x i : Int) (w : World) (h : Ar w p s) (hr : Rep s r) (h0 : 0 ≤ x) (h1 : x ≤ 18446744073709551615) :
    Calls Try.prog 43 #[.pointer (some ⟨p.a, 0, none⟩), .int .u64 x, .int .i64 i] w fun e w' => e = .returned (.int .i64 (byteAt s r x i).2) ∧ Below w.heap.size w w' := by
  have := has_of x i w (length_any x w h hr h0 h1)
  rw [hasE_byte hr x i] at this
  exact this
theorem has_is {E : Int} (x i : Int) (w : World) (h : Ar w p s) (hr : Rep s r) (h0 : 0 ≤ x) (h1 : x ≤ 18446744073709551615) (e : (byteAt s r x i).2 = E) :
    Calls Try.prog 43 #[.pointer (some ⟨p.a, 0, none⟩), .int .u64 x, .int .i64 i] w fun e w' => e = .returned (.int .i64 E) ∧ Below w.heap.size w w' := by
  subst e; exact has_any x i w h hr h0 h1
/-- What is told where there is a byte. -/
theorem byte_yes (hr : Rep s r) {x i : Int} (e : (byteAt s r x i).2 = 0) : ∃ l, textAt s r x = (some l, 0) ∧ 0 ≤ i ∧ i < l.length ∧ (byteAt s r x i).1 = (l.getD i.toNat 0).toNat := by
  rcases text_two hr x with ⟨e1, e2⟩ | ⟨l, e3⟩
  · exfalso
    unfold byteAt at e
    rw [e1] at e
    rcases e2 with e2 | e2
    · rw [e2, if_pos rfl] at e; exact absurd e (by decide)
    · rw [e2, if_neg (by decide)] at e; exact absurd (show (5 : Int) = 0 from e) (by decide)
  · refine ⟨l, e3, ?_⟩
    rw [byte_of e3 i] at e ⊢
    unfold byteOut at e ⊢
    simp only at e ⊢
    by_cases c : 0 ≤ i ∧ i < l.length
    · rw [if_pos c]; exact ⟨c.1, c.2, rfl⟩
    · rw [if_neg c] at e; exact absurd e (by decide)
theorem byte_no (hr : Rep s r) {x i : Int} (e : (byteAt s r x i).2 ≠ 0) : (byteAt s r x i).1 = 0 := by
  rcases text_two hr x with ⟨e1, e2⟩ | ⟨l, e3⟩
  · unfold byteAt
    rw [e1]
    rcases e2 with e2 | e2
    · rw [e2, if_pos rfl]
    · rw [e2, if_neg (by decide)]; rfl
  · rw [byte_of e3 i] at e ⊢
    unfold byteOut at e ⊢
    simp only at e ⊢
    by_cases c : 0 ≤ i ∧ i < l.length
    · rw [if_pos c] at e; exact absurd rfl e
    · rw [if_neg c]
/-- A byte of a text is a byte of a field. -/
theorem byte_field (hr : Rep s r) {x : Int} {l : List UInt8} (e : textAt s r x = (some l, 0)) {i : Nat} (hi : i < l.length) : byteI (s.get x ((i / 8 : Nat) : Int)) (i % 8) = l.getD i 0 := by
  rw [(get_text hr e (j := i / 8) (by omega)).2]
  have h1 := bytesF_at (fieldsT l) i (by rw [fieldsT_len]; omega)
  rw [fieldsT_bytes] at h1
  unfold padT at h1
  rw [List.getElem?_append_left hi] at h1
  rw [List.getD_eq_getElem?_getD (l := l), h1]
  rfl
theorem text_short (hr : Rep s r) {x : Int} {l : List UInt8} (e : textAt s r x = (some l, 0)) : l.length < 32768 := by
  obtain ⟨k, b, hk, _, _, _, ht, _⟩ := text_is hr e
  have h1 := (hr.tag k b hk).2.2
  rw [(textF_tag ht).2, fieldsT_len] at h1
  omega
set_option maxRecDepth 20000 in
theorem byte5_any (x i : Int) (w : World) (h : Ar w p s) (hr : Rep s r) (h0 : 0 ≤ x) (h1 : x ≤ 18446744073709551615) :
    Calls Try.prog 18 #[.pointer (some ⟨p.a, 0, none⟩), .int .u64 x, .int .i64 i] w fun e w' => e = .returned (.tuple #[.int .u8 (byteAt s r x i).1, .int .i64 (byteAt s r x i).2]) ∧ Below w.heap.size w w' := by
  have hfits := hr.fits
  by_cases hE : (byteAt s r x i).2 = 0
  · obtain ⟨l, et, i0, i1, e1⟩ := byte_yes hr hE
    obtain ⟨j, rfl⟩ : ∃ j : Nat, i = j := ⟨i.toNat, by omega⟩
    have hj : j < l.length := by omega
    have hbf := byte_field hr et hj
    have hj2 : (j : Int) < 32768 := by have := text_short hr et; omega
    have HO : Hid (byteAt s r x j = (((l.getD j 0).toNat : Int), 0)) := by
      show _ = _
      rw [show byteAt s r x j = ((byteAt s r x j).1, (byteAt s r x j).2) from rfl, hE, e1]; rfl
    have HE : Hid _ := hE
    have hd : ((j / 8 : Nat) : Int) = (j : Int) / 8 := by omega
    have hix := fun w => e5_index (byteI (s.get x ((j / 8 : Nat) : Int))) (i := j % 8) (by omega) w
    rw [hbf, hd, show ((j % 8 : Nat) : Int) = (j : Int) % 8 from by omega] at hix
    clear hE e1 hbf hd et i1 hj
    go_enter Try.func18, Try.ntmps18
    go_wp2_with (first | (go_at_call 43; refine (has_is x _ _ h hr h0 h1 HE.out).mono ?_; rintro e w' ⟨rfl, hb⟩; have hA := h.frame (S := fun _ => False) (Only.of_below hb) id id id id; have HB : Hid _ := hb; clear hb) | (go_at_call 37; refine (e5_field x _ _ hA hfits h0 h1).mono ?_; rintro e w2 ⟨rfl, hb⟩; have HB2 : Hid _ := hb; clear hb))
    all_goals go_ret2
    all_goals exact ⟨by rw [HO.out]; rfl, HB.out.trans (HB2.out.mono HB.out.size)⟩
  · have HO : Hid (byteAt s r x i = (0, (byteAt s r x i).2)) := by
      show _ = _
      rw [← byte_no hr hE]
    have hE2 : ((byteAt s r x i).2 != 0) = true := by simp [hE]
    clear hE
    go_enter Try.func18, Try.ntmps18
    go_wp2_with (first | (go_at_call 43; refine (has_is x _ _ h hr h0 h1 rfl).mono ?_; rintro e w' ⟨rfl, hb⟩; have HB : Hid _ := hb; clear hb))
    all_goals go_ret2
    all_goals exact ⟨by rw [HO.out]; rfl, HB.out⟩
end Go.Proofs.Ytlhcleocdlnbdaa
