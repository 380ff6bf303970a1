/-
 Layer 7, plain: how great tokens are. No program is named.
-/
import Derived.Test.YthjmakjhidjbaaaGreatLibAY
import Derived.Test.YthjmakjhidjbaaaGreatLibAU
namespace Go.Proofs.YthjmakjhidjbaaaGreat
set_option linter.unusedVariables false
set_option maxHeartbeats 1000000

theorem txtB_small : ∀ (n : Nat) (l : List UInt8) {x r : List UInt8}, l.length ≤ n → txtB l = some (x, r) → x.length ≤ l.length := by
 intro n
 induction n with
 | zero =>
  intro l x r hn h
  have : l = [] := List.length_eq_zero_iff.1 (by omega)
  subst this
  simp [txtB] at h
 | succ n ih =>
  intro l x r hn h
  cases l with
  | nil => simp [txtB] at h
  | cons c t =>
   simp only [List.length_cons] at hn ⊢
   rw [txtB] at h
   by_cases c1 : c = 34
   ·rw [if_pos c1] at h
    simp only [Option.some.injEq, Prod.mk.injEq] at h
    rw [← h.1]
    simp
   ·rw [if_neg c1] at h
    by_cases c2 : c = 92
    ·rw [if_pos c2] at h
     split at h
     ·rename_i b r1 hf
      have hl := formB_len hf
      cases hx : txtB r1 with
      | none => rw [hx] at h; cases h
      | some p =>
       obtain ⟨x1, r2⟩ := p
       rw [hx] at h
       simp only [Option.some.injEq, Prod.mk.injEq] at h
       have := ih r1 (by omega) hx
       rw [← h.1, List.length_cons]
       omega
     ·cases h
    ·rw [if_neg c2] at h
     cases hx : txtB t with
     | none => rw [hx] at h; cases h
     | some p =>
      obtain ⟨x1, r2⟩ := p
      rw [hx] at h
      simp only [Option.some.injEq, Prod.mk.injEq] at h
      have := ih t (by omega) hx
      rw [← h.1, List.length_cons]
      omega
theorem num_rng (l : List UInt8) : -4611686018427387904 ≤ (docW.num l).1 ∧ (docW.num l).1 ≤ 4611686018427387903 := by
 obtain ⟨h1, h2⟩ := parV_rng ⟨l.toArray⟩
 exact ⟨numW_lo _ h1, numW_hi _ h2⟩
theorem tok_small {l r : List UInt8} {t : Tk} (h : tokAt docW l = .ok (t, r)) : t.S.length ≤ l.length ∧ -4611686018427387904 ≤ t.N ∧ t.N ≤ 4611686018427387903 := by
 unfold tokAt at h
 split at h
 ·cases h
 ·rename_i c x
  split at h
  ·simp only [Except.ok.injEq, Prod.mk.injEq] at h
   rw [← h.1]
   exact ⟨(List.takeWhile_prefix nameB).length_le, by simp, by simp⟩
  ·split at h
   ·split at h
    ·cases h
    ·split at h
     ·cases h
     ·simp only [Except.ok.injEq, Prod.mk.injEq] at h
      rw [← h.1]
      exact ⟨by simp, num_rng _⟩
   ·split at h
    ·split at h
     ·rename_i x' r' hx
      simp only [Except.ok.injEq, Prod.mk.injEq] at h
      rw [← h.1]
      have := txtB_small _ _ (Nat.le_refl _) hx
      exact ⟨by simp only [List.length_cons]; omega, by simp, by simp⟩
     ·cases h
    ·split at h
     ·rename_i s' hs
      simp only [Except.ok.injEq, Prod.mk.injEq] at h
      rw [← h.1]
      have hp : s'.isPrefixOf (c :: x) = true := List.find?_some (p := fun (s : List UInt8) => s.isPrefixOf (c :: x)) hs
      exact ⟨(List.isPrefixOf_iff_prefix.1 hp).length_le, by simp, by simp⟩
     ·cases h
theorem lexes_small {l : List UInt8} {ts : List (Tk × Nat)} (h : Lexes docW l ts) : ∀ p, p ∈ ts → p.1.S.length ≤ l.length ∧ -4611686018427387904 ≤ p.1.N ∧ p.1.N ≤ 4611686018427387903 := by
 induction h with
 | nil => intro p hp; cases hp
 | blank hc h ih =>
  intro p hp
  have := ih p hp
  simp only [List.length_cons]
  exact ⟨by omega, this.2⟩
 | comment hc h ih =>
  intro p hp
  have := ih p hp
  have hl := skipC_len _ _ hc
  simp only [List.length_cons]
  exact ⟨by omega, this.2⟩
 | tok hb hn ht h ih =>
  intro p hp
  rcases List.mem_cons.1 hp with rfl | hp
  ·exact tok_small ht
  ·have := ih p hp
   have hl := tok_len docSigns ht
   exact ⟨by omega, this.2⟩
theorem toks_small {s : ByteArray} {ts : List (Tk × Nat)} {i : Nat} {t : TV} (h : lexR s = .ok ts) (ht : (toks s ts)[i]? = some t) : t.S.length ≤ 4096 ∧ -4611686018427387904 ≤ t.N ∧ t.N ≤ 4611686018427387903 := by
 obtain ⟨hs, hl⟩ := lexR_lexes h
 have hm := List.mem_of_getElem? ht
 unfold toks at hm
 rcases List.mem_append.1 hm with hm | hm
 ·unfold tvs at hm
  obtain ⟨p, hp, rfl⟩ := List.mem_map.1 hm
  have := lexes_small hl p hp
  rw [suf_len] at this
  exact ⟨by simp only; omega, this.2⟩
 ·simp at hm
  subst hm
  exact ⟨by simp [endV], by simp [endV], by simp [endV]⟩
end Go.Proofs.YthjmakjhidjbaaaGreat
