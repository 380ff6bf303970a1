/-
 Layer 10: what Unify tells, its number a letter. No condition.
-/
import Derived.Test.YtcfgfclapljilaaDoorL10Tbn
namespace Go.Proofs.YtcfgfclapljilaaDoor
open Go.ChangeShapes Go.WideShapes Go.ChangeAt Go.RowKit Go.Deep
set_option linter.unusedVariables false
/-- What Unify tells, its number a letter. -/
theorem UnifyN.num {A : Nat → Prop} {tb q r n : Nat} {ρ : Nat → Ty} {x y : Rw} {w w' : World} {e : Ending} (h : UnifyN A tb q r n ρ x y w e w') : ∃ ev : Int, e = .returned (.int .i64 ev) ∧ Only (Own3 tb q r) w w' ∧ ((ev = 3 ∧ (512 < (x.ty.ap ρ).sz ∨ 512 < (y.ty.ap ρ).sz)) ∨ ((x.ty.ap ρ).sz ≤ 512 ∧ (y.ty.ap ρ).sz ≤ 512 ∧ ((∃ c, Un ρ [(x.ty, y.ty)] (.error c) ∧ (ev = 25 ∨ ev = 26) ∧ ev = if c = 1 then 26 else 25) ∨ ∃ ρ', Un ρ [(x.ty, y.ty)] (.ok ρ') ∧ ev = 0 ∧ TBn A w' tb q r (n + (x.sz + y.sz)) ρ'))) := by
 obtain ⟨h1, ⟨rfl, h2⟩ | ⟨h2, h3, ⟨c, h4, rfl⟩ | ⟨ρ', h4, rfl, h5⟩⟩⟩ := h
 ·exact ⟨3, rfl, h1, Or.inl ⟨rfl, h2⟩⟩
 ·refine ⟨_, rfl, h1, Or.inr ⟨h2, h3, Or.inl ⟨c, h4, ?_, rfl⟩⟩⟩
  split
  ·exact Or.inr rfl
  ·exact Or.inl rfl
 ·exact ⟨0, rfl, h1, Or.inr ⟨h2, h3, Or.inr ⟨ρ', h4, rfl, h5⟩⟩⟩
end Go.Proofs.YtcfgfclapljilaaDoor
