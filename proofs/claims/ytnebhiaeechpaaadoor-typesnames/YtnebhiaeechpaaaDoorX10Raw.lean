/-
 Layer 10, plain: types as they stand in memory, whether they may be or not; how many nodes, which variables. No program is named.
-/
import Derived.Test.YtnebhiaeechpaaaDoorX10Tot
namespace Go.Proofs.YtnebhiaeechpaaaDoor
set_option linter.unusedVariables false
set_option linter.unusedSimpArgs false

/-- Any type's node: its variable's number, its name, its parts. -/
inductive Rw
 | mk (V : Int) (S : List UInt8) (L : List Rw)
def Rw.V : Rw → Int | .mk v _ _ => v
def Rw.S : Rw → List UInt8 | .mk _ s _ => s
def Rw.L : Rw → List Rw | .mk _ _ l => l
mutual
def Rw.sz : Rw → Nat
 | .mk _ _ l => 1 + szRL l
def szRL : List Rw → Nat
 | [] => 0
 | x :: l => x.sz + szRL l
end
mutual
/-- May it be? -/
def Rw.may : Rw → Bool
 | .mk v s l => !(decide (v < 0) || (decide (0 < v) && (s != [] || decide (0 < l.length))) || (v == 0 && s == [])) && mayL l
def mayL : List Rw → Bool
 | [] => true
 | x :: l => x.may && mayL l
end
mutual
/-- One that may be, as such. -/
def Rw.ty : Rw → Ty
 | .mk v s l => if 0 < v then .v v.toNat else .c s (tyL l)
def tyL : List Rw → List Ty
 | [] => []
 | x :: l => x.ty :: tyL l
end
mutual
/-- And back. -/
def Ty.rw : Ty → Rw
 | .v n => .mk (n : Int) [] []
 | .c s l => .mk 0 s (rwL l)
def rwL : List Ty → List Rw
 | [] => []
 | x :: l => x.rw :: rwL l
end
theorem mayL_mem : ∀ {l : List Rw}, mayL l = true → ∀ x, x ∈ l → x.may = true
 | [], _, x, h => by cases h
 | y :: l, hm, x, h => by
  rw [mayL, Bool.and_eq_true] at hm
  rcases List.mem_cons.1 h with rfl | h
  ·exact hm.1
  ·exact mayL_mem hm.2 x h
theorem may_parts {v : Int} {s : List UInt8} {l : List Rw} (h : (Rw.mk v s l).may = true) : (0 < v ∧ s = [] ∧ l = []) ∨ (v = 0 ∧ s ≠ [] ∧ mayL l = true) := by
 rw [Rw.may, Bool.and_eq_true] at h
 obtain ⟨h1, h2⟩ := h
 simp only [Bool.not_eq_true', Bool.or_eq_false_iff, Bool.and_eq_false_iff, decide_eq_false_iff_not, bne_eq_false_iff_eq, beq_eq_false_iff_ne] at h1
 obtain ⟨⟨a1, a2⟩, a3⟩ := h1
 by_cases c : 0 < v
 ·left
  rcases a2 with a2 | ⟨a2, a4⟩
  ·omega
  ·exact ⟨c, a2, List.length_eq_zero_iff.1 (by omega)⟩
 ·right
  rcases a3 with a3 | a3
  ·omega
  ·exact ⟨by omega, a3, h2⟩
mutual
/-- There and back. -/
theorem Rw.ty_rw : ∀ (x : Rw), x.may = true → x.ty.rw = x
 | .mk v s l, h => by
  rcases may_parts h with ⟨h1, rfl, rfl⟩ | ⟨rfl, h2, h3⟩
  ·rw [Rw.ty, if_pos h1, Ty.rw]
   rw [Int.toNat_of_nonneg (by omega)]
  ·rw [Rw.ty, if_neg (by omega), Ty.rw, tyL_rw l h3]
theorem tyL_rw : ∀ (l : List Rw), mayL l = true → rwL (tyL l) = l
 | [], h => by rw [tyL, rwL]
 | x :: l, h => by
  rw [mayL, Bool.and_eq_true] at h
  rw [tyL, rwL, x.ty_rw h.1, tyL_rw l h.2]
end
theorem rw_inj {x y : Rw} (hx : x.may = true) (hy : y.may = true) (h : x.ty = y.ty) : x = y := by rw [← x.ty_rw hx, ← y.ty_rw hy, h]
mutual
theorem Ty.sz_rw : ∀ (t : Ty), t.rw.sz = t.sz
 | .v n => by rw [Ty.rw, Rw.sz, szRL, Ty.sz]
 | .c s l => by rw [Ty.rw, Rw.sz, Ty.sz, szL_rw l]
theorem szL_rw : ∀ (l : List Ty), szRL (rwL l) = szL l
 | [] => by rw [rwL, szRL, szL]
 | x :: l => by rw [rwL, szRL, szL, x.sz_rw, szL_rw l]
end
theorem rwL_map : ∀ l : List Ty, rwL l = l.map Ty.rw
 | [] => rfl
 | x :: l => by rw [rwL, rwL_map l]; rfl
theorem tyL_map : ∀ l : List Rw, tyL l = l.map Rw.ty
 | [] => rfl
 | x :: l => by rw [tyL, tyL_map l]; rfl
theorem sz_part : ∀ {l : List Rw} {x : Rw}, x ∈ l → x.sz ≤ szRL l
 | [], x, h => by cases h
 | y :: l, x, h => by
  rw [szRL]
  rcases List.mem_cons.1 h with rfl | h
  ·omega
  ·have := sz_part h
   omega
end Go.Proofs.YtnebhiaeechpaaaDoor
