/-
 Layer 10, plain: the variables in what a table is handed, and the greatest of them; a table that was handed more. No program is named.
-/
import Derived.Test.YtnebhiaeechpaaaDoorX10Loop
namespace Go.Proofs.YtnebhiaeechpaaaDoor
set_option linter.unusedVariables false
set_option linter.unusedSimpArgs false
mutual
/-- The greatest number of a variable in it. -/
def Rw.gr : Rw → Int
 | .mk v _ l => grL l v
def grL : List Rw → Int → Int
 | [], a => a
 | x :: l, a => grL l (max a x.gr)
end
mutual
/-- The variables, each as often as it stands there. -/
def Rw.vi : Rw → List Int
 | .mk v _ l => if v = 0 then viL l else [v]
def viL : List Rw → List Int
 | [] => []
 | x :: l => x.vi ++ viL l
end
/-- What is the greatest of all, or 0. -/
structure HiF (F : List Int) (hi : Int) : Prop where
 top : ∀ v, v ∈ F → v ≤ hi
 one : hi = 0 ∨ hi ∈ F
 pos : 0 ≤ hi
theorem HiF.nil : HiF [] 0 := ⟨(fun v h => by cases h), Or.inl rfl, by omega⟩
theorem HiF.same {F G : List Int} {a b : Int} (h : HiF F a) (k : HiF G b) (e : ∀ v, v ∈ F ↔ v ∈ G) : a = b := by
 have hab : a ≤ b := by
  rcases h.one with h1 | h1
  ·have := k.pos; omega
  ·exact k.top a ((e a).1 h1)
 have hba : b ≤ a := by
  rcases k.one with h1 | h1
  ·have := h.pos; omega
  ·exact h.top b ((e b).2 h1)
 omega
theorem HiF.app {F G : List Int} {a b : Int} (h : HiF F a) (k : HiF G b) : HiF (F ++ G) (max a b) := by
 have ha := h.pos
 have hb := k.pos
 refine ⟨fun v hv => ?_, ?_, by omega⟩
 ·rcases List.mem_append.1 hv with hv | hv
  ·have := h.top v hv; omega
  ·have := k.top v hv; omega
 ·rcases Int.le_total a b with c | c
  ·rw [Int.max_eq_right c]
   exact k.one.imp id (fun h => List.mem_append_right _ h)
  ·rw [Int.max_eq_left c]
   exact h.one.imp id (fun h => List.mem_append_left _ h)
mutual
theorem Rw.hi : ∀ (x : Rw), x.may = true → HiF x.vi x.gr
 | .mk v s l, h => by
  rcases may_parts h with ⟨h1, rfl, rfl⟩ | ⟨rfl, h2, h3⟩
  ·rw [Rw.vi, if_neg (by omega), Rw.gr, grL]
   exact ⟨(fun u hu => by rw [List.mem_singleton.1 hu]; exact Int.le_refl _), Or.inr List.mem_cons_self, by omega⟩
  ·rw [Rw.vi, if_pos rfl, Rw.gr]
   have := hiL l h3 HiF.nil
   simpa using this
theorem hiL : ∀ (l : List Rw), mayL l = true → ∀ {F : List Int} {a : Int}, HiF F a → HiF (F ++ viL l) (grL l a)
 | [], _, F, a, h => by rw [viL, grL, List.append_nil]; exact h
 | x :: l, hm, F, a, h => by
  rw [mayL, Bool.and_eq_true] at hm
  rw [viL, grL, ← List.append_assoc]
  exact hiL l hm.2 (h.app (x.hi hm.1))
end
mutual
theorem Rw.vi_len : ∀ (x : Rw), x.vi.length ≤ x.sz
 | .mk v s l => by
  rw [Rw.vi, Rw.sz]
  have := viL_len l
  split
  ·omega
  ·simp
theorem viL_len : ∀ (l : List Rw), (viL l).length ≤ szRL l
 | [] => Nat.le_refl _
 | x :: l => by
  rw [viL, szRL, List.length_append]
  have := x.vi_len
  have := viL_len l
  omega
end
mutual
theorem Rw.vi_pos : ∀ (x : Rw), x.may = true → ∀ v, v ∈ x.vi → 0 < v
 | .mk v s l, h, u, hu => by
  rcases may_parts h with ⟨h1, rfl, rfl⟩ | ⟨rfl, h2, h3⟩
  ·rw [Rw.vi, if_neg (by omega)] at hu
   rw [List.mem_singleton.1 hu]
   exact h1
  ·rw [Rw.vi, if_pos rfl] at hu
   exact viL_pos l h3 u hu
theorem viL_pos : ∀ (l : List Rw), mayL l = true → ∀ v, v ∈ viL l → 0 < v
 | [], _, u, hu => by cases hu
 | x :: l, hm, u, hu => by
  rw [mayL, Bool.and_eq_true] at hm
  rw [viL] at hu
  rcases List.mem_append.1 hu with hu | hu
  ·exact x.vi_pos hm.1 u hu
  ·exact viL_pos l hm.2 u hu
end
mutual
/-- All of its variables are there. -/
theorem Rw.ok_vi {O : Int → Prop} : ∀ (x : Rw), x.may = true → (∀ v, v ∈ x.vi → O v) → x.ok O
 | .mk v s l, h, ho => by
  rcases may_parts h with ⟨h1, rfl, rfl⟩ | ⟨rfl, h2, h3⟩
  ·rw [Rw.vi, if_neg (by omega)] at ho
   rw [Rw.ok]
   exact Or.inl ⟨by omega, ho v List.mem_cons_self, rfl, rfl⟩
  ·rw [Rw.vi, if_pos rfl] at ho
   rw [Rw.ok]
   exact Or.inr ⟨rfl, okL_vi l h3 ho⟩
theorem okL_vi {O : Int → Prop} : ∀ (l : List Rw), mayL l = true → (∀ v, v ∈ viL l → O v) → okL O l
 | [], _, _ => trivial
 | x :: l, hm, ho => by
  rw [mayL, Bool.and_eq_true] at hm
  rw [viL] at ho
  rw [okL]
  exact ⟨x.ok_vi hm.1 (fun v hv => ho v (List.mem_append_left _ hv)), okL_vi l hm.2 (fun v hv => ho v (List.mem_append_right _ hv))⟩
end
mutual
theorem Rw.sz_ty : ∀ (x : Rw), x.may = true → x.ty.sz = x.sz
 | .mk v s l, h => by
  rcases may_parts h with ⟨h1, rfl, rfl⟩ | ⟨rfl, h2, h3⟩
  ·rw [Rw.ty, if_pos h1, Ty.sz, Rw.sz, szRL]
  ·rw [Rw.ty, if_neg (by omega), Ty.sz, Rw.sz, szL_ty l h3]
theorem szL_ty : ∀ (l : List Rw), mayL l = true → szL (tyL l) = szRL l
 | [], _ => by rw [tyL, szL, szRL]
 | x :: l, hm => by
  rw [mayL, Bool.and_eq_true] at hm
  rw [tyL, szL, szRL, x.sz_ty hm.1, szL_ty l hm.2]
end
mutual
/-- Variables put for: no fewer nodes. -/
theorem Ty.sz_ap (r : Nat → Ty) : ∀ (t : Ty), t.sz ≤ (t.ap r).sz
 | .v n => by rw [Ty.ap, Ty.sz]; exact (r n).sz_pos
 | .c s l => by rw [Ty.ap, Ty.sz, Ty.sz]; have := szL_apL r l; omega
theorem szL_apL (r : Nat → Ty) : ∀ (l : List Ty), szL l ≤ szL (apL r l)
 | [] => Nat.zero_le _
 | x :: l => by rw [apL, szL, szL]; have := x.sz_ap r; have := szL_apL r l; omega
end
mutual
theorem Rw.mem_vi : ∀ (x : Rw), x.may = true → ∀ n : Nat, x.ty.occ n ↔ (0 < n ∧ (n : Int) ∈ x.vi)
 | .mk v s l, h, n => by
  rcases may_parts h with ⟨h1, rfl, rfl⟩ | ⟨rfl, h2, h3⟩
  ·rw [Rw.ty, if_pos h1, Ty.occ, Rw.vi, if_neg (by omega), List.mem_singleton]
   omega
  ·rw [Rw.ty, if_neg (by omega), Ty.occ, Rw.vi, if_pos rfl]
   exact mem_viL l h3 n
theorem mem_viL : ∀ (l : List Rw), mayL l = true → ∀ n : Nat, occL n (tyL l) ↔ (0 < n ∧ (n : Int) ∈ viL l)
 | [], _, n => by rw [tyL, occL, viL]; simp
 | x :: l, hm, n => by
  rw [mayL, Bool.and_eq_true] at hm
  rw [tyL, occL, viL, x.mem_vi hm.1, mem_viL l hm.2, List.mem_append]
  constructor
  ·rintro (⟨a, b⟩ | ⟨a, b⟩)
   ·exact ⟨a, Or.inl b⟩
   ·exact ⟨a, Or.inr b⟩
  ·rintro ⟨a, b | b⟩
   ·exact Or.inl ⟨a, b⟩
   ·exact Or.inr ⟨a, b⟩
end
section
variable {F : List Int} {own : Nat} {σ : Int → Option Rw} {R : Int → Ty} {d : Int → Nat}
/-- More is handed. -/
theorem PS.grow (h : PS F own σ R d) {G : List Int} (hG : ∀ u, u ∈ G → 0 < u ∧ u ≤ 9223372036854775807) : PS (F ++ G) own σ R d := by
 have ok : ∀ {u : Int}, OkV F σ u → OkV (F ++ G) σ u := fun h => h.imp (fun h => List.mem_append_left _ h) id
 refine ⟨fun u hu => (List.mem_append.1 hu).elim (h.pos u) (hG u), fun k z hk => (h.dom k z hk).imp (fun h => List.mem_append_left _ h) id, fun k z hk hz => ?_, fun k z hk hz => ?_, h.free⟩
 ·obtain ⟨a, b, c⟩ := h.link k z hk hz
  exact ⟨a, ok b, c⟩
 ·obtain ⟨a, b⟩ := h.name k z hk hz
  exact ⟨fun y hy => ⟨(a y hy).1, (a y hy).2.1, ok (a y hy).2.2⟩, b⟩
theorem freeF_app (F G : List Int) (R : Int → Ty) : freeF (F ++ G) R ≤ freeF F R + G.length := by
 unfold freeF
 rw [List.countP_append]
 have := List.countP_le_length (p := isFree R) (l := G)
 omega
/-- What a type that may be comes to. -/
theorem rs_natR (R : Int → Ty) {x : Rw} (h : x.may = true) : x.rs R = x.ty.ap (natR R) := x.rs_may R h
end
end Go.Proofs.YtnebhiaeechpaaaDoor
