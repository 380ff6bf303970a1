/-
 Layer 10, plain: which variables stand in a type, gathered from the left, each that was met aside. No program is named.
-/
import Derived.Test.YtnebhiaeechpaaaDoorX10Tc
namespace Go.Proofs.YtnebhiaeechpaaaDoor
set_option linter.unusedVariables false
set_option linter.unusedSimpArgs false
/-- What was met, and is no greater than b: all that stands in it is gathered. -/
def ClosedM (R : Int → Ty) (μ : Int → Option Int) (l : List Int) (b : Nat) : Prop := ∀ u, μ u ≠ none → (R u).sz ≤ b → ∀ n : Nat, (R u).occ n → (n : Int) ∈ l
/-- A step of the gathering, over a type t, up to the size b. -/
structure VStep (R : Int → Ty) (t : Ty) (b : Nat) (μ : Int → Option Int) (l : List Int) (μ' : Int → Option Int) (l' : List Int) : Prop where
 more : ∀ y, y ∈ l → y ∈ l'
 sound : ∀ y, y ∈ l' → y ∈ l ∨ (0 < y ∧ t.occ y.toNat)
 all : ∀ n : Nat, t.occ n → (n : Int) ∈ l'
 fresh : ∀ u, μ' u ≠ none → μ u ≠ none ∨ ((R u).sz ≤ b ∧ ∀ n : Nat, (R u).occ n → (n : Int) ∈ l')
def metP (μ : Int → Option Int) (k : Int) : Bool := (μ k).isSome
/-- The table's variables. -/
def allV (F : List Int) (own : Nat) : List Int := F ++ (List.range own).map (fun i : Nat => -((i : Int) + 1))
theorem allV_len (F : List Int) (own : Nat) : (allV F own).length = F.length + own := by simp [allV]
theorem PS.inAll {F : List Int} {own : Nat} {σ : Int → Option Rw} {R : Int → Ty} {d : Int → Nat} (h : PS F own σ R d) {u : Int} (hu : OkV F σ u) : u ∈ allV F own := by
 unfold allV
 rw [List.mem_append, List.mem_map]
 rcases hu with h1 | ⟨h1, h2⟩
 ·exact Or.inl h1
 ·cases hs : σ u with
  | none => exact absurd hs h2
  | some z =>
   rcases h.dom u z hs with h3 | h3
   ·exact Or.inl h3
   ·exact Or.inr ⟨(-u - 1).toNat, List.mem_range.2 (by omega), by omega⟩
/-- How many are met. -/
def VCnt (D : List Int) (μ : Int → Option Int) (nm : Nat) (l : List Int) : Prop := nm ≤ D.countP (metP μ) ∧ l.length ≤ nm
theorem VCnt.lt {D : List Int} {μ : Int → Option Int} {nm : Nat} {l : List Int} (h : VCnt D μ nm l) : nm ≤ D.length := Nat.le_trans h.1 List.countP_le_length
def updI (μ : Int → Option Int) (v c : Int) (k : Int) : Option Int := if k = v then some c else μ k
theorem VCnt.put {D : List Int} {μ : Int → Option Int} {nm : Nat} {l : List Int} (h : VCnt D μ nm l) {u c : Int} (hu : u ∈ D) (hm : μ u = none) : VCnt D (updI μ u c) (nm + 1) l := by
 refine ⟨?_, by have := h.2; omega⟩
 have := countP_less (p := metP (updI μ u c)) (q := metP μ) D (fun k _ hk => by
  unfold metP updI at *
  split
  ·rfl
  ·exact hk) ⟨u, hu, by simp [metP, updI], by simp [metP, hm]⟩
 have := h.1
 omega
theorem VCnt.add {D : List Int} {μ : Int → Option Int} {nm : Nat} {l : List Int} (h : VCnt D μ nm l) {u c : Int} (hu : u ∈ D) (hm : μ u = none) (y : Int) : VCnt D (updI μ u c) (nm + 1) (l ++ [y]) := ⟨(h.put (c := c) hu hm).1, by have := h.2; simp; omega⟩
section
variable {R : Int → Ty} {μ μ' μ'' : Int → Option Int} {l l' l'' : List Int} {b b' : Nat} {t : Ty}
theorem VStep.nil (R : Int → Ty) (s : List UInt8) (b : Nat) (μ : Int → Option Int) (l : List Int) : VStep R (.c s []) b μ l μ l := ⟨fun _ h => h, fun _ h => Or.inl h, (fun n h => by cases h), fun u h => Or.inl h⟩
theorem ClosedM.less (h : ClosedM R μ l b) (hb : b' ≤ b) : ClosedM R μ l b' := fun u hu hs => h u hu (by omega)
/-- What is closed stays so. -/
theorem VStep.closed (h : VStep R t b' μ l μ' l') (hc : ClosedM R μ l b) : ClosedM R μ' l' b := fun u hu hs n hn => by
 rcases h.fresh u hu with h1 | ⟨_, h2⟩
 ·exact h.more _ (hc u h1 hs n hn)
 ·exact h2 n hn
theorem occ_snoc {n : Nat} {L : List Ty} : occL n (L ++ [t]) ↔ occL n L ∨ t.occ n := by
 rw [occL_mem, occL_mem]
 constructor
 ·rintro ⟨x, hx, ho⟩
  rcases List.mem_append.1 hx with hx | hx
  ·exact Or.inl ⟨x, hx, ho⟩
  ·rw [List.mem_singleton.1 hx] at ho
   exact Or.inr ho
 ·rintro (⟨x, hx, ho⟩ | ho)
  ·exact ⟨x, List.mem_append_left _ hx, ho⟩
  ·exact ⟨t, by simp, ho⟩
/-- One part more. -/
theorem VStep.snoc {s : List UInt8} {L : List Ty} (h : VStep R (.c s L) b μ l μ' l') (k : VStep R t b' μ' l' μ'' l'') (hb : b' ≤ b) : VStep R (.c s (L ++ [t])) b μ l μ'' l'' := by
 refine ⟨fun y hy => k.more y (h.more y hy), fun y hy => ?_, fun n hn => ?_, fun u hu => ?_⟩
 ·rcases k.sound y hy with h1 | h1
  ·rcases h.sound y h1 with h2 | h2
   ·exact Or.inl h2
   ·exact Or.inr ⟨h2.1, by rw [Ty.occ]; exact occ_snoc.2 (Or.inl h2.2)⟩
  ·exact Or.inr ⟨h1.1, by rw [Ty.occ]; exact occ_snoc.2 (Or.inr h1.2)⟩
 ·rw [Ty.occ] at hn
  rcases occ_snoc.1 hn with h1 | h1
  ·exact k.more _ (h.all n (by rw [Ty.occ]; exact h1))
  ·exact k.all n h1
 ·rcases k.fresh u hu with h1 | ⟨h1, h2⟩
  ·rcases h.fresh u h1 with h3 | ⟨h3, h4⟩
   ·exact Or.inl h3
   ·exact Or.inr ⟨h3, fun n hn => k.more _ (h4 n hn)⟩
  ·exact Or.inr ⟨by omega, h2⟩
/-- One that was met. -/
theorem VStep.met {u : Int} (hc : ClosedM R μ l (R u).sz) (hu : μ u ≠ none) : VStep R (R u) (R u).sz μ l μ l := ⟨fun _ h => h, fun _ h => Or.inl h, fun n hn => hc u hu (Nat.le_refl _) n hn, fun u h => Or.inl h⟩
/-- One that nothing is known of. -/
theorem VStep.one {u : Int} (hu : R u = .v u.toNat) (hp : 0 < u) : VStep R (R u) (R u).sz μ l (updI μ u u) (l ++ [u]) := by
 refine ⟨fun y hy => List.mem_append_left _ hy, fun y hy => ?_, fun n hn => ?_, fun k hk => ?_⟩
 ·rcases List.mem_append.1 hy with h | h
  ·exact Or.inl h
  ·rw [List.mem_singleton.1 h]
   exact Or.inr ⟨hp, by rw [hu]; rfl⟩
 ·rw [hu, Ty.occ] at hn
  rw [show (n : Int) = u by omega]
  simp
 ·by_cases e : k = u
  ·subst e
   refine Or.inr ⟨Nat.le_refl _, fun n hn => ?_⟩
   rw [hu, Ty.occ] at hn
   rw [show (n : Int) = k by omega]
   simp
  ·exact Or.inl (by unfold updI at hk; rw [if_neg e] at hk; exact hk)
/-- One that is a name. -/
theorem VStep.name {u c : Int} (h : VStep R (R u) b' (updI μ u c) l μ' l') (hb : b' ≤ (R u).sz) : VStep R (R u) (R u).sz μ l μ' l' := by
 refine ⟨h.more, h.sound, h.all, fun k hk => ?_⟩
 rcases h.fresh k hk with h1 | ⟨h1, h2⟩
 ·by_cases e : k = u
  ·subst e
   exact Or.inr ⟨Nat.le_refl _, h.all⟩
  ·exact Or.inl (by unfold updI at h1; rw [if_neg e] at h1; exact h1)
 ·exact Or.inr ⟨by omega, h2⟩
theorem ClosedM.put {u c : Int} (h : ClosedM R μ l b) (hb : b < (R u).sz) : ClosedM R (updI μ u c) l b := fun k hk hs => by
 by_cases e : k = u
 ·subst e
  omega
 ·exact h k (by unfold updI at hk; rw [if_neg e] at hk; exact hk) hs
end
end Go.Proofs.YtnebhiaeechpaaaDoor
