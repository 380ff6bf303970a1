/-
 Layer 10, plain: a table that knows more of its own variables, and the same of all others. No program is named.
-/
import Derived.Test.YtnebhiaeechpaaaDoorX10Tc
namespace Go.Proofs.YtnebhiaeechpaaaDoor
set_option linter.unusedVariables false
set_option linter.unusedSimpArgs false
structure Ext (F : List Int) (own : Nat) (σ : Int → Option Rw) (R : Int → Ty) (own' : Nat) (σ' : Int → Option Rw) (R' : Int → Ty) : Prop where
 ow : own ≤ own'
 keep : ∀ k y, σ k = some y → σ' k = some y
 fresh : ∀ k, σ' k ≠ none → σ k ≠ none ∨ k < -(own : Int)
 same : ∀ u, OkV F σ u → R' u = R u
section
variable {F : List Int} {own own' own'' : Nat} {σ σ' σ'' : Int → Option Rw} {R R' R'' : Int → Ty} {d : Int → Nat}
theorem Ext.refl (F : List Int) (own : Nat) (σ : Int → Option Rw) (R : Int → Ty) : Ext F own σ R own σ R := ⟨Nat.le_refl _, fun _ _ h => h, fun _ h => Or.inl h, fun _ _ => rfl⟩
theorem Ext.okv (h : Ext F own σ R own' σ' R') {u : Int} (hu : OkV F σ u) : OkV F σ' u := by
 rcases hu with h1 | ⟨h1, h2⟩
 ·exact Or.inl h1
 ·refine Or.inr ⟨h1, fun c => ?_⟩
  cases hs : σ u with
  | none => exact h2 hs
  | some y => rw [h.keep u y hs] at c; cases c
theorem Ext.ok (h : Ext F own σ R own' σ' R') {x : Rw} (hx : x.ok (OkV F σ)) : x.ok (OkV F σ') := x.ok_mono (fun _ hu => h.okv hu) hx
theorem Ext.rs (h : Ext F own σ R own' σ' R') {x : Rw} (hx : x.ok (OkV F σ)) : x.rs R' = x.rs R := x.rs_congr (fun u hu => h.same u hu) hx
theorem Ext.rsL (h : Ext F own σ R own' σ' R') {l : List Rw} (hx : okL (OkV F σ) l) : rsL R' l = Go.Proofs.YtnebhiaeechpaaaDoor.rsL R l := rsL_congr (fun u hu => h.same u hu) l hx
theorem Ext.trans (h : Ext F own σ R own' σ' R') (k : Ext F own' σ' R' own'' σ'' R'') : Ext F own σ R own'' σ'' R'' := by
 refine ⟨Nat.le_trans h.ow k.ow, fun j y hj => k.keep j y (h.keep j y hj), fun j hj => ?_, fun u hu => (k.same u (h.okv hu)).trans (h.same u hu)⟩
 rcases k.fresh j hj with h1 | h1
 ·exact h.fresh j h1
 ·have := h.ow
  exact Or.inr (by omega)
/-- One number of the table's own more. -/
theorem Ext.num (h : Ext F (own + 1) σ R own' σ' R') : Ext F own σ R own' σ' R' := ⟨by have := h.ow; omega, h.keep, fun k hk => (h.fresh k hk).imp id (fun c => by omega), h.same⟩
/-- One of the table's own is laid. -/
theorem Ext.lay (hs : PS F own' σ' R' d) (h : Ext F own σ R own' σ' R') {v : Int} (hv : -(own' : Int) ≤ v ∧ v < -(own : Int)) (hn : σ' v = none) (z : Rw) (t : Ty) : Ext F own σ R own' (upd σ' v z) (setR R' v t) := by
 refine ⟨h.ow, fun k y hk => ?_, fun k hk => ?_, fun u hu => ?_⟩
 ·have h1 := h.keep k y hk
  have : k ≠ v := fun e => by rw [e, hn] at h1; cases h1
  rw [upd_other z this]
  exact h1
 ·by_cases e : k = v
  ·exact Or.inr (by omega)
  ·rw [upd_other z e] at hk
   exact h.fresh k hk
 ·have h1 := h.okv hu
  have : u ≠ v := fun e => by
   rcases h1 with h2 | ⟨h2, h3⟩
   ·have := (hs.pos u h2).1; omega
   ·rw [e] at h3; exact h3 hn
  show (if u = v then _ else R' u) = _
  rw [if_neg this]
  exact h.same u hu
/-- A number of its own that isn't laid yet. -/
theorem PS.none_own (hs : PS F own σ R d) {k : Int} (hk : k < -(own : Int)) : σ k = none := by
 cases h : σ k with
 | none => rfl
 | some z =>
  rcases hs.dom k z h with h1 | h1
  ·have := (hs.pos k h1).1; omega
  ·omega
end
end Go.Proofs.YtnebhiaeechpaaaDoor
