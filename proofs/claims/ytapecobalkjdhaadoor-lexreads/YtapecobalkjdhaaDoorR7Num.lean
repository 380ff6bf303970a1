/-
  Layer 7: a number's text is the only one: what Parse reads without fault is what Digits writes. No program is named.
-/
import Derived.Test.YtapecobalkjdhaaDoorR7Words
import Derived.Test.YtapecobalkjdhaaDoorPlainBack
namespace Go.Proofs.YtapecobalkjdhaaDoor
set_option linter.unusedVariables false
set_option maxHeartbeats 1000000

theorem suf_get (s : ByteArray) (a k : Nat) (h : a + k < s.size) : (suf s a)[k]? = some s[a + k] := by
  unfold suf
  rw [List.getElem?_drop, List.getElem?_eq_getElem (by rw [Array.length_toList]; exact h)]
  rfl
theorem bt_at (s : ByteArray) {k : Nat} (h : k < s.size) : bt s k = (s[k].toNat : Int) := (get_bt s k h).symm
theorem digit_of (c : UInt8) (u : Nat) (h : (c.toNat : Int) - 48 = u) : UInt8.ofNat (48 + u) = c := by
  have : 48 + u = c.toNat := by omega
  rw [this, UInt8.ofNat_toNat]
theorem digs_take (s : ByteArray) (a : Nat) (h0 : bt s a ≠ 48) : ∀ k, a + k + 1 ≤ s.size → allB s a (k + 1) = true → (suf s a).take (k + 1) = Lib.decDigits (val s a (k + 1)).toNat ∧ 1 ≤ val s a (k + 1)
  | 0, h1, h2 => by
    unfold allB at h2
    simp only [Bool.and_eq_true, decide_eq_true_eq, Nat.add_zero] at h2
    obtain ⟨_, h3, h4⟩ := h2
    have hb := bt_at s (show a < s.size by omega)
    have hv : val s a 1 = bt s a - 48 := by simp [val]
    rw [hv, List.take_add_one, suf_get s a 0 (by omega)]
    refine ⟨?_, by omega⟩
    rw [Lib.decDigits_one (by omega), digit_of s[a] _ (by omega)]
    rfl
  | k + 1, h1, h2 => by
    rw [allB] at h2
    simp only [Bool.and_eq_true, decide_eq_true_eq] at h2
    obtain ⟨h2, h3, h4⟩ := h2
    obtain ⟨i1, i2⟩ := digs_take s a h0 k (by omega) h2
    have hb := bt_at s (show a + (k + 1) < s.size by omega)
    have hv : val s a (k + 1 + 1) = val s a (k + 1) * 10 + (bt s (a + (k + 1)) - 48) := rfl
    rw [hv]
    generalize val s a (k + 1) = v at *
    refine ⟨?_, by omega⟩
    rw [List.take_add_one, suf_get s a (k + 1) (by omega), i1]
    rw [Lib.decDigits.eq_def (v * 10 + (bt s (a + (k + 1)) - 48)).toNat, dif_neg (by omega)]
    rw [show (v * 10 + (bt s (a + (k + 1)) - 48)).toNat / 10 = v.toNat by omega, digit_of s[a + (k + 1)] _ (by omega)]
    rfl
theorem form_digs {s : ByteArray} {a : Nat} (h : formAt s a = true) : suf s a = Lib.decDigits (val s a (s.size - a)).toNat ∧ 0 ≤ val s a (s.size - a) ∧ (1 ≤ val s a (s.size - a) ∨ s.size = 1) := by
  unfold formAt at h
  simp only [Bool.and_eq_true, Bool.or_eq_true, decide_eq_true_eq] at h
  obtain ⟨h1, h2, h3⟩ := h
  by_cases h0 : bt s a = 48
  · have h4 : s.size = 1 := by rcases h3 with h3 | h3; exact absurd h0 h3; exact h3
    have ha : a = 0 := by omega
    subst ha
    rw [h4]
    have hv : val s 0 (1 - 0) = 0 := by simp [val, h0]
    rw [hv]
    refine ⟨?_, by omega, Or.inr rfl⟩
    have hb := bt_at s (show 0 < s.size by omega)
    rw [suf_cons s (show 0 < s.size by omega), List.length_eq_zero_iff.1 (show (suf s (0 + 1)).length = 0 by rw [suf_len]; omega)]
    rw [Lib.decDigits_one (by decide), digit_of s[0] _ (by rw [← hb, h0]; rfl)]
  · obtain ⟨i1, i2⟩ := digs_take s a h0 (s.size - a - 1) (by omega) (by rw [show s.size - a - 1 + 1 = s.size - a by omega]; exact h2)
    rw [show s.size - a - 1 + 1 = s.size - a by omega] at i1 i2
    refine ⟨?_, by omega, Or.inl i2⟩
    rw [← i1, List.take_of_length_le (by rw [suf_len]; omega)]
/-- What is read without fault is what is written. -/
theorem par_back (s : ByteArray) (h : parE s = 0) : Lib.itoa (numW (parV s)) = s.data.toList := by
  unfold parE at h
  unfold parV
  by_cases hm : minusB s = true
  · rw [if_pos hm] at h ⊢
    unfold parEAt at h
    by_cases hf : formAt s 1 = true
    · rw [if_pos hf] at h
      have hbg : bigAt s 1 = false := by
        cases hb : bigAt s 1 with
        | false => rfl
        | true => rw [hb] at h; simp at h
      obtain ⟨f1, f2, f3⟩ := form_digs hf
      have hsz : 1 < s.size := by unfold formAt at hf; simp at hf; omega
      have f4 : 1 ≤ val s 1 (s.size - 1) := by omega
      unfold parVAt
      rw [if_pos ⟨hf, hbg⟩, if_neg (by decide)]
      unfold bigAt at hbg
      simp at hbg
      rw [num_int, cut_same _ (by omega) (by omega)]
      unfold Lib.itoa
      rw [if_pos (by omega), show (-val s 1 (s.size - 1)).natAbs = (val s 1 (s.size - 1)).toNat by omega, ← f1]
      unfold minusB at hm
      simp only [decide_eq_true_eq] at hm
      have hb := bt_at s (show 0 < s.size by omega)
      have e0 := suf_cons s (show 0 < s.size by omega)
      have e1 : s[0] = 45 := by rw [← UInt8.toNat_inj]; show s[0].toNat = 45; omega
      rw [e1] at e0
      exact e0.symm
    · rw [if_neg hf] at h; simp at h
  · rw [if_neg hm] at h ⊢
    unfold parEAt at h
    by_cases hf : formAt s 0 = true
    · rw [if_pos hf] at h
      have hbg : bigAt s 0 = false := by
        cases hb : bigAt s 0 with
        | false => rfl
        | true => rw [hb] at h; simp at h
      obtain ⟨f1, f2, f3⟩ := form_digs hf
      unfold parVAt
      rw [if_pos ⟨hf, hbg⟩, if_pos rfl]
      unfold bigAt at hbg
      simp at hbg
      have hbg2 := hbg
      rw [num_int, cut_same _ (by omega) (by simp at *; omega)]
      unfold Lib.itoa
      rw [if_neg (by omega), ← f1]
      rfl
    · rw [if_neg hf] at h; simp at h
/-- What the document reads tokens by. -/
def docW : LexW := ⟨wordsL.contains, signsL, fun l => (numW (parV ⟨l.toArray⟩), parE ⟨l.toArray⟩)⟩
theorem docSigns : SignsOk docW := ⟨by show ∀ s, s ∈ signsL → _; decide, by show ∀ s, s ∈ signsL → _; decide⟩
theorem docOk : LexOk docW Lib.itoa := ⟨docSigns, by show ∀ s, s ∈ signsL → signsL.find? _ = _; decide, fun s hs x e => by
    have h : ∀ s, s ∈ signsL → s.take 2 ≠ [40, 42] := by decide
    exact h s hs (by rw [e]; rfl), fun w h => par_back ⟨w.toArray⟩ h⟩
end Go.Proofs.YtapecobalkjdhaaDoor
