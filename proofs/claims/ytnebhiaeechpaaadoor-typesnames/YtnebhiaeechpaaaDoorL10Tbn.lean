/-
 Layer 10: a Table as the statements see it: so much was handed at most. No condition but that it lies in memory.
-/
import Derived.Test.YtnebhiaeechpaaaDoorP10Api3
namespace Go.Proofs.YtnebhiaeechpaaaDoor
open Go.ChangeShapes Go.WideShapes Go.ChangeAt Go.RowKit Go.Deep
set_option linter.unusedVariables false
set_option linter.unusedSimpArgs false
def TBn (A : Nat → Prop) (w : World) (tb q r : Nat) (n : Nat) (ρ : Nat → Ty) : Prop := ∃ F : List Int, F.length ≤ n ∧ TB A w tb q r F ρ
section
variable {A : Nat → Prop} {w : World} {tb q r n : Nat} {ρ : Nat → Ty}
theorem TBn.lt (h : TBn A w tb q r n ρ) : ∀ g, Own3 tb q r g → g < w.heap.size := by
 obtain ⟨F, h1, h2⟩ := h
 exact h2.lt
theorem TBn.own (h : TBn A w tb q r n ρ) : ∀ g, Own3 tb q r g → ¬ A g := by
 obtain ⟨F, h1, h2⟩ := h
 exact h2.own
theorem TBn.idem (h : TBn A w tb q r n ρ) : Idem ρ := by
 obtain ⟨F, h1, h2⟩ := h
 exact h2.idem
theorem TBn.only (h : TBn A w tb q r n ρ) {S : Nat → Prop} {w' : World} (k : Only S w w') (hS : ∀ g, S g → A g) : TBn A w' tb q r n ρ := by
 obtain ⟨F, h1, h2⟩ := h
 exact ⟨F, h1, h2.only k hS⟩
theorem TBn.below (h : TBn A w tb q r n ρ) {w' : World} (k : Below w.heap.size w w') : TBn A w' tb q r n ρ := by
 obtain ⟨F, h1, h2⟩ := h
 exact ⟨F, h1, h2.below k⟩
theorem TBn.alloc (h : TBn A w tb q r n ρ) (o : Obj) : TBn A (w.alloc o) tb q r n ρ := h.below ((Below.refl _ _).alloc (Nat.le_refl _) o)
theorem TBn.drew (h : TBn A w tb q r n ρ) : TBn A w.drew tb q r n ρ := h.below ⟨rfl, rfl, rfl, Nat.le_refl _, fun _ _ => rfl⟩
theorem TBn.aug (h : TBn A w tb q r n ρ) {A' : Nat → Prop} (k : ∀ g, A' g → A g ∨ w.heap.size ≤ g) : TBn A' w tb q r n ρ := by
 obtain ⟨F, h1, h2⟩ := h
 exact ⟨F, h1, h2.aug k⟩
theorem new_n (w : World) {A : Nat → Prop} (hA : ∀ g, A g → g < w.heap.size) : Calls Tryd.prog 10 #[] w fun e w' => e = .returned (.pointer (some ⟨w.heap.size + 2, 0, none⟩)) ∧ TBn A w' (w.heap.size + 2) w.heap.size (w.heap.size + 1) 0 Ty.v ∧ Below w.heap.size w w' := by
 refine (api_new w hA).mono ?_
 rintro e w' ⟨h1, h2, h3⟩
 exact ⟨h1, ⟨_, Nat.le_refl _, h2⟩, h3⟩
theorem size_n (h : TBn A w tb q r n ρ) {x : Rw} {ao : Option Addr} (c : Nat) (hx : x.may = true) (hsx : x.sz ≤ 100000) (bx : Bd x) (hrx : RT (fun g => ¬ Own3 tb q r g) w x.L ao) (hn : n + x.sz ≤ 300000) {most : Nat} (hm : most ≤ 90000) : Calls Tryd.prog 12 #[.pointer (some ⟨tb, 0, none⟩), .agg #[.int .i64 x.V, .string ⟨x.S.toArray⟩, .slice ao x.L.length c], .int .i64 (most : Int)] w fun e w' => e = .returned (.int .i64 ((min (x.ty.ap ρ).sz (most + 1) : Nat) : Int)) ∧ TBn A w' tb q r (n + x.sz) ρ ∧ Only (Own3 tb q r) w w' := by
 obtain ⟨F, h1, h2⟩ := h
 refine (api_size h2 c hx hsx bx hrx (by omega) hm).mono ?_
 rintro e w' ⟨k1, k2, k3⟩
 have := viL_le F [x]
 rw [sz_one] at this
 exact ⟨k1, ⟨_, by omega, k2⟩, k3⟩
theorem vars_n (h : TBn A w tb q r n ρ) {x : Rw} {ao : Option Addr} (c : Nat) (hx : x.may = true) (hsx : x.sz ≤ 100000) (bx : Bd x) (hrx : RT (fun g => ¬ Own3 tb q r g) w x.L ao) (hn : n + x.sz ≤ 300000) : Calls Tryd.prog 15 #[.pointer (some ⟨tb, 0, none⟩), .agg #[.int .i64 x.V, .string ⟨x.S.toArray⟩, .slice ao x.L.length c]] w fun e w' => ∃ v, e = .returned v ∧ TBn A w' tb q r (n + x.sz) ρ ∧ Only (Own3 tb q r) w w' := by
 obtain ⟨F, h1, h2⟩ := h
 refine (api_vars h2 c hx hsx bx hrx (by omega)).mono ?_
 rintro e w' ⟨v, k1, k2, k3⟩
 have := viL_le F [x]
 rw [sz_one] at this
 exact ⟨v, k1, ⟨_, by omega, k2⟩, k3⟩
def ResN (A : Nat → Prop) (tb q r n : Nat) (ρ : Nat → Ty) (t : Rw) (w : World) (e : Ending) (w' : World) : Prop := ∃ (al : Option Addr) (cp : Nat), e = .returned (.agg #[.int .i64 t.V, .string ⟨t.S.toArray⟩, .slice al t.L.length cp]) ∧ TBn A w' tb q r n ρ ∧ RT (fun g => w.heap.size ≤ g) w' t.L al ∧ Only (Own3 tb q r) w w' ∧ Bd t
theorem res_n (h : TBn A w tb q r n ρ) {x : Rw} {ao : Option Addr} (c : Nat) (hx : x.may = true) (hsx : x.sz ≤ 100000) (bx : Bd x) (hrx : RT (fun g => ¬ Own3 tb q r g) w x.L ao) (hn : n + x.sz ≤ 300000) : Calls Tryd.prog 13 #[.pointer (some ⟨tb, 0, none⟩), .agg #[.int .i64 x.V, .string ⟨x.S.toArray⟩, .slice ao x.L.length c]] w fun e w' => ResN A tb q r (n + x.sz) ρ (x.ty.ap ρ).rw w e w' := by
 obtain ⟨F, h1, h2⟩ := h
 refine (api_resolve h2 c hx hsx bx hrx (by omega)).mono ?_
 rintro e w' ⟨al, cp, k1, k2, k3, k4, k5⟩
 have := viL_le F [x]
 rw [sz_one] at this
 exact ⟨al, cp, k1, ⟨_, by omega, k2⟩, k3, k4, k5⟩
def UnifyN (A : Nat → Prop) (tb q r n : Nat) (ρ : Nat → Ty) (x y : Rw) (w : World) (e : Ending) (w' : World) : Prop := Only (Own3 tb q r) w w' ∧ ((e = .returned (.int .i64 3) ∧ (512 < (x.ty.ap ρ).sz ∨ 512 < (y.ty.ap ρ).sz)) ∨ ((x.ty.ap ρ).sz ≤ 512 ∧ (y.ty.ap ρ).sz ≤ 512 ∧ ((∃ c, Un ρ [(x.ty, y.ty)] (.error c) ∧ e = .returned (.int .i64 (if c = 1 then 26 else 25))) ∨ ∃ ρ', Un ρ [(x.ty, y.ty)] (.ok ρ') ∧ e = .returned (.int .i64 0) ∧ TBn A w' tb q r (n + (x.sz + y.sz)) ρ')))
theorem unify_n (hA : ∀ g, A g → g < w.heap.size) (h : TBn A w tb q r n ρ) {x y : Rw} {ao bo : Option Addr} (c d : Nat) (hx : x.may = true) (hy : y.may = true) (hsx : x.sz + y.sz ≤ 100000) (bx : Bd x) (by' : Bd y) (hrx : RT (fun g => ¬ Own3 tb q r g) w x.L ao) (hry : RT (fun g => ¬ Own3 tb q r g) w y.L bo) (hn : n + (x.sz + y.sz) ≤ 300000) : Calls Tryd.prog 11 #[.pointer (some ⟨tb, 0, none⟩), .agg #[.int .i64 x.V, .string ⟨x.S.toArray⟩, .slice ao x.L.length c], .agg #[.int .i64 y.V, .string ⟨y.S.toArray⟩, .slice bo y.L.length d]] w fun e w' => UnifyN A tb q r n ρ x y w e w' := by
 obtain ⟨F, h1, h2⟩ := h
 refine (api_unify hA h2 c d hx hy hsx bx by' hrx hry (by omega)).mono ?_
 have := viL_le F [x, y]
 rw [sz_two] at this
 rintro e w' (⟨k1, k2, k3⟩ | ⟨k1, k2, k3, k4⟩)
 ·exact ⟨k3, Or.inl ⟨k1, k2⟩⟩
 ·refine ⟨k3, Or.inr ⟨k1, k2, ?_⟩⟩
  rcases k4 with k4 | ⟨ρ', k4, k5, k6⟩
  ·exact Or.inl k4
  ·exact Or.inr ⟨ρ', k4, k5, ⟨_, by omega, k6⟩⟩
/-- What isn't known of goes nowhere. -/
theorem ap_v (t : Ty) : t.ap Ty.v = t := t.ap_id (fun _ _ => rfl)
/-- Two that are one already. -/
theorem un_made {ρ : Nat → Ty} {a b : Ty} {e : Except Nat (Nat → Ty)} (hi : Idem ρ) (h : a.ap ρ = b.ap ρ) (hu : Un ρ [(a, b)] e) : e = .ok ρ := un_again hu hi (fun p hp => by rw [List.mem_singleton.1 hp]; exact h)
theorem made_one {ρ q : Nat → Ty} {a b : Ty} (hi : Idem ρ) (hu : Un ρ [(a, b)] (.ok q)) : a.ap q = b.ap q := (un_ok hu rfl hi).2.2 _ List.mem_cons_self
end
end Go.Proofs.YtnebhiaeechpaaaDoor
