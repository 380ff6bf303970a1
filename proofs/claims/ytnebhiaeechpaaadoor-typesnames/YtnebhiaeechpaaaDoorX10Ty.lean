/-
 Layer 10, plain: types, and what is put for their variables. No program is named.
-/
namespace Go.Proofs.YtnebhiaeechpaaaDoor
set_option linter.unusedVariables false
set_option linter.unusedSimpArgs false

/-- A type that may be: a variable, or a name with parts. -/
inductive Ty
 | v (n : Nat)
 | c (s : List UInt8) (l : List Ty)
mutual
/-- Types put for variables. -/
def Ty.ap (r : Nat → Ty) : Ty → Ty
 | .v n => r n
 | .c s l => .c s (apL r l)
def apL (r : Nat → Ty) : List Ty → List Ty
 | [] => []
 | x :: l => x.ap r :: apL r l
end
mutual
/-- Does a variable stand in it? -/
def Ty.occ (n : Nat) : Ty → Prop
 | .v m => m = n
 | .c _ l => occL n l
def occL (n : Nat) : List Ty → Prop
 | [] => False
 | x :: l => x.occ n ∨ occL n l
end
mutual
/-- How many nodes. -/
def Ty.sz : Ty → Nat
 | .v _ => 1
 | .c _ l => 1 + szL l
def szL : List Ty → Nat
 | [] => 0
 | x :: l => x.sz + szL l
end
theorem apL_map (r : Nat → Ty) : ∀ l : List Ty, apL r l = l.map (Ty.ap r)
 | [] => rfl
 | x :: l => by rw [apL, apL_map r l]; rfl
theorem apL_len (r : Nat → Ty) (l : List Ty) : (apL r l).length = l.length := by rw [apL_map, List.length_map]
theorem occL_mem {n : Nat} : ∀ {l : List Ty}, occL n l ↔ ∃ x, x ∈ l ∧ x.occ n
 | [] => by simp [occL]
 | x :: l => by
  rw [occL, occL_mem]
  constructor
  ·rintro (h | ⟨y, h1, h2⟩)
   ·exact ⟨x, List.mem_cons_self, h⟩
   ·exact ⟨y, List.mem_cons_of_mem _ h1, h2⟩
  ·rintro ⟨y, h1, h2⟩
   rcases List.mem_cons.1 h1 with rfl | h1
   ·exact Or.inl h2
   ·exact Or.inr ⟨y, h1, h2⟩
mutual
theorem Ty.ap_id {r : Nat → Ty} : ∀ (t : Ty), (∀ n, t.occ n → r n = .v n) → t.ap r = t
 | .v n, h => by rw [Ty.ap]; exact h n rfl
 | .c s l, h => by rw [Ty.ap, apL_id l h]
theorem apL_id {r : Nat → Ty} : ∀ (l : List Ty), (∀ n, occL n l → r n = .v n) → apL r l = l
 | [], h => by rw [apL]
 | x :: l, h => by rw [apL, x.ap_id (fun n hn => h n (Or.inl hn)), apL_id l (fun n hn => h n (Or.inr hn))]
end
mutual
theorem Ty.ap_ap (r q : Nat → Ty) : ∀ (t : Ty), (t.ap r).ap q = t.ap (fun n => (r n).ap q)
 | .v n => by rw [Ty.ap, Ty.ap]
 | .c s l => by rw [Ty.ap, Ty.ap, Ty.ap, apL_apL r q l]
theorem apL_apL (r q : Nat → Ty) : ∀ (l : List Ty), apL q (apL r l) = apL (fun n => (r n).ap q) l
 | [] => by rw [apL, apL, apL]
 | x :: l => by rw [apL, apL, apL, x.ap_ap r q, apL_apL r q l]
end
mutual
theorem Ty.ap_congr {r q : Nat → Ty} : ∀ (t : Ty), (∀ n, t.occ n → r n = q n) → t.ap r = t.ap q
 | .v n, h => by rw [Ty.ap, Ty.ap]; exact h n rfl
 | .c s l, h => by rw [Ty.ap, Ty.ap, apL_congr l h]
theorem apL_congr {r q : Nat → Ty} : ∀ (l : List Ty), (∀ n, occL n l → r n = q n) → apL r l = apL q l
 | [], h => by rw [apL, apL]
 | x :: l, h => by rw [apL, apL, x.ap_congr (fun n hn => h n (Or.inl hn)), apL_congr l (fun n hn => h n (Or.inr hn))]
end
mutual
theorem Ty.ap_inj {r q : Nat → Ty} : ∀ (t : Ty), t.ap r = t.ap q → ∀ n, t.occ n → r n = q n
 | .v m, h, n, hn => by rw [Ty.ap, Ty.ap] at h; rw [Ty.occ] at hn; rw [← hn]; exact h
 | .c s l, h, n, hn => by
  rw [Ty.ap, Ty.ap] at h
  exact apL_inj l (Ty.c.inj h).2 n hn
theorem apL_inj {r q : Nat → Ty} : ∀ (l : List Ty), apL r l = apL q l → ∀ n, occL n l → r n = q n
 | [], h, n, hn => by cases hn
 | x :: l, h, n, hn => by
  rw [apL, apL] at h
  have h1 := List.cons.inj h
  rcases hn with hn | hn
  ·exact x.ap_inj h1.1 n hn
  ·exact apL_inj l h1.2 n hn
end
mutual
theorem Ty.occ_ap {r : Nat → Ty} {n : Nat} : ∀ (t : Ty), (t.ap r).occ n ↔ ∃ m, t.occ m ∧ (r m).occ n
 | .v m => by
  rw [Ty.ap]
  exact ⟨fun h => ⟨m, rfl, h⟩, fun ⟨k, h1, h2⟩ => by rw [Ty.occ] at h1; rw [h1]; exact h2⟩
 | .c s l => by rw [Ty.ap, Ty.occ]; exact occL_ap l
theorem occL_ap {r : Nat → Ty} {n : Nat} : ∀ (l : List Ty), occL n (apL r l) ↔ ∃ m, occL m l ∧ (r m).occ n
 | [] => by rw [apL]; exact ⟨(fun h => by cases h), (fun ⟨m, h, _⟩ => by cases h)⟩
 | x :: l => by
  rw [apL, occL, x.occ_ap, occL_ap l]
  constructor
  ·rintro (⟨m, h1, h2⟩ | ⟨m, h1, h2⟩)
   ·exact ⟨m, Or.inl h1, h2⟩
   ·exact ⟨m, Or.inr h1, h2⟩
  ·rintro ⟨m, h1 | h1, h2⟩
   ·exact Or.inl ⟨m, h1, h2⟩
   ·exact Or.inr ⟨m, h1, h2⟩
end
theorem Ty.sz_pos : ∀ t : Ty, 0 < t.sz
 | .v _ => by rw [Ty.sz]; omega
 | .c _ _ => by rw [Ty.sz]; omega
mutual
theorem Ty.sz_occ {r : Nat → Ty} {n : Nat} : ∀ (t : Ty), t.occ n → (r n).sz ≤ (t.ap r).sz
 | .v m, h => by rw [Ty.occ] at h; rw [Ty.ap, h]; exact Nat.le_refl _
 | .c s l, h => by
  rw [Ty.ap, Ty.sz]
  have := szL_occ (r := r) (n := n) l h
  omega
theorem szL_occ {r : Nat → Ty} {n : Nat} : ∀ (l : List Ty), occL n l → (r n).sz ≤ szL (apL r l)
 | [], h => by cases h
 | x :: l, h => by
  rw [apL, szL]
  rcases h with h | h
  ·have := x.sz_occ (r := r) h
   omega
  ·have := szL_occ (r := r) l h
   omega
end
/-- What a variable stands in is no other name for it. -/
theorem occurs_ne {θ : Nat → Ty} {n : Nat} {s : List UInt8} {l : List Ty} (h : occL n l) : θ n ≠ (Ty.c s l).ap θ := by
 intro e
 have h1 := szL_occ (r := θ) l h
 have h2 : (θ n).sz = 1 + szL (apL θ l) := by rw [e, Ty.ap, Ty.sz]
 omega
/-- Just one variable named. -/
def oneT (n : Nat) (x : Ty) (k : Nat) : Ty := if k = n then x else .v k
theorem oneT_same (n : Nat) (x : Ty) : oneT n x n = x := if_pos rfl
theorem oneT_other {n k : Nat} (x : Ty) (h : k ≠ n) : oneT n x k = .v k := if_neg h
theorem oneT_skip {n : Nat} {x t : Ty} (h : ¬ t.occ n) : t.ap (oneT n x) = t := t.ap_id (fun k hk => oneT_other x (fun e => h (e ▸ hk)))
/-- What is known: each variable's type, as far as it is known. -/
def Idem (r : Nat → Ty) : Prop := ∀ n, (r n).ap r = r n
/-- A variable is named. -/
def nameV (r : Nat → Ty) (n : Nat) (x : Ty) (k : Nat) : Ty := (r k).ap (oneT n x)
theorem nameV_ap (r : Nat → Ty) (n : Nat) (x t : Ty) : t.ap (nameV r n x) = (t.ap r).ap (oneT n x) := by rw [Ty.ap_ap]; rfl
theorem Idem.ap {r : Nat → Ty} (h : Idem r) (t : Ty) : (t.ap r).ap r = t.ap r := by
 rw [Ty.ap_ap]
 exact t.ap_congr (fun n _ => h n)
theorem Idem.free {r : Nat → Ty} (h : Idem r) {t : Ty} {n : Nat} (ho : (t.ap r).occ n) : r n = .v n := by
 have h1 := h.ap t
 have h2 : (t.ap r).ap r = (t.ap r).ap Ty.v := by rw [h1]; exact ((t.ap r).ap_id (fun _ _ => rfl)).symm
 exact (t.ap r).ap_inj h2 n ho
theorem idem_name {r : Nat → Ty} (h : Idem r) {n : Nat} {t : Ty} (hn : r n = .v n) (ho : ¬ (t.ap r).occ n) : Idem (nameV r n (t.ap r)) := by
 intro k
 show ((r k).ap (oneT n (t.ap r))).ap (nameV r n (t.ap r)) = (r k).ap (oneT n (t.ap r))
 rw [Ty.ap_ap]
 refine (r k).ap_congr (fun m hm => ?_)
 have hfree : r m = .v m := h.free (t := .v k) (by rw [Ty.ap]; exact hm)
 by_cases e : m = n
 ·subst e
  rw [oneT_same, nameV_ap, h.ap t, oneT_skip ho]
 ·rw [oneT_other _ e, Ty.ap]
  show (r m).ap _ = _
  rw [hfree, Ty.ap]
  exact oneT_other _ e
theorem idem_id : Idem Ty.v := fun n => by rw [Ty.ap]
end Go.Proofs.YtnebhiaeechpaaaDoor
