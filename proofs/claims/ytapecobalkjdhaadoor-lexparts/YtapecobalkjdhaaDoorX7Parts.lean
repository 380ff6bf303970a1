/-
  Layer 7, plain: a token that is no text stands in the source as its text; a text begins with its mark. No program is named.
-/
import Derived.Test.YtapecobalkjdhaaDoorX7Texts
namespace Go.Proofs.YtapecobalkjdhaaDoor
set_option linter.unusedVariables false
set_option maxHeartbeats 1000000
variable {W : LexW} {dig : Int → List UInt8}

theorem tok_stands (hW : LexOk W dig) {l r : List UInt8} {t : Tk} (h : tokAt W l = .ok (t, r)) : (t.kind = 2 ∧ ∃ x, l = 34 :: x) ∨ (t.kind ≠ 2 ∧ t.kind ≠ 0 ∧ textT dig t ++ r = l) := by
  unfold tokAt at h
  cases l with
  | nil => simp at h
  | cons c x =>
    simp only at h
    split at h
    · simp only [Except.ok.injEq, Prod.mk.injEq] at h
      obtain ⟨rfl, rfl⟩ := h
      refine Or.inr ⟨?_, ?_, ?_⟩
      · simp only; split <;> (try split) <;> decide
      · simp only; split <;> (try split) <;> decide
      · unfold textT
        simp only
        rw [if_neg (by split <;> (try split) <;> decide), if_neg (by split <;> (try split) <;> decide), if_neg (by split <;> (try split) <;> decide)]
        exact List.takeWhile_append_dropWhile
    · split at h
      · split at h
        · simp at h
        · split at h
          · simp at h
          · rename_i h1 h2
            simp only [Except.ok.injEq, Prod.mk.injEq] at h
            obtain ⟨rfl, rfl⟩ := h
            refine Or.inr ⟨by show (_ : Int) ≠ 2; simp, by show (_ : Int) ≠ 0; simp, ?_⟩
            unfold textT
            simp only
            rw [if_pos trivial, hW.num _ (Classical.not_not.1 h2)]
            exact List.takeWhile_append_dropWhile
      · split at h
        · rename_i h3
          split at h
          · simp only [Except.ok.injEq, Prod.mk.injEq] at h
            obtain ⟨rfl, rfl⟩ := h
            exact Or.inl ⟨rfl, x, by rw [h3]⟩
          · simp at h
        · split at h
          · rename_i s hs
            simp only [Except.ok.injEq, Prod.mk.injEq] at h
            obtain ⟨rfl, rfl⟩ := h
            have hp := List.find?_some hs
            obtain ⟨z, hz⟩ := List.isPrefixOf_iff_prefix.1 hp
            refine Or.inr ⟨by show (_ : Int) ≠ 2; simp, by show (_ : Int) ≠ 0; simp, ?_⟩
            unfold textT
            simp only
            rw [if_neg (by decide), if_neg (by decide), if_neg (by decide), ← hz, List.drop_left]
          · simp at h
end Go.Proofs.YtapecobalkjdhaaDoor
