/-
  An arena's state tells the list of its blocks: two lists that it stands for are one. Plain; no program.
-/
import Derived.Test.YtjnlfnecmiklhaaPlainColl
namespace Go.Proofs.Ytjnlfnecmiklhaa
open Go.RowKit Go.Deep
set_option linter.unusedVariables false

theorem rep_unique {s : St} {r r' : RS} (h : Rep s r) (h' : Rep s r') (hb : s.top ≤ 65536) (hn : 1 ≤ s.n) : r = r' := by
  have take : ∀ k, k ≤ r.L.length → k ≤ r'.L.length → r.L.take k = r'.L.take k := by
    intro k
    induction k with
    | zero => intro _ _; simp
    | succ k ih =>
      intro h1 h2
      have e := ih (by omega) (by omega)
      have g1 : r.L[k]? = some r.L[k] := List.getElem?_eq_getElem (by omega)
      have g2 : r'.L[k]? = some r'.L[k] := List.getElem?_eq_getElem (by omega)
      have a1 := h.ad k _ g1
      have a2 := h'.ad k _ g2
      rw [e] at a1
      have ea : r.L[k].ad = r'.L[k].ad := by omega
      have t1 := h.tagAt g1
      have t2 := h'.tagAt g2
      rw [ea] at t1
      have et : r.L[k].tag = r'.L[k].tag := t1.1.symm.trans t2.1
      have el : r.L[k].F.length = r'.L[k].F.length := by have := t1.2.symm.trans t2.2; omega
      have ef : r.L[k].F = r'.L[k].F := by
        apply List.ext_getElem el
        intro j j1 j2
        have f1 := h.fld k _ g1 j _ (List.getElem?_eq_getElem j1)
        have f2 := h'.fld k _ g2 j _ (List.getElem?_eq_getElem j2)
        rw [ea] at f1
        exact f1.symm.trans f2
      have eb : r.L[k] = r'.L[k] := by
        cases hx : r.L[k] with
        | mk a t f =>
          cases hy : r'.L[k] with
          | mk a' t' f' =>
            rw [hx, hy] at ea et ef
            simp only at ea et ef
            rw [ea, et, ef]
      rw [List.take_succ_eq_append_getElem (by omega), List.take_succ_eq_append_getElem (by omega), e, eb]
  have len : r.L.length = r'.L.length := by
    rcases Nat.lt_trichotomy r.L.length r'.L.length with hl | hl | hl
    · exfalso
      have e := take r.L.length (Nat.le_refl _) (by omega)
      rw [List.take_length] at e
      have t1 := h.top
      have t2 := h'.top
      rw [e] at t1
      have := lenB_succ r'.L r.L.length _ (List.getElem?_eq_getElem hl)
      have := lenB_take_all r'.L (r.L.length + 1)
      omega
    · exact hl
    · exfalso
      have e := take r'.L.length (by omega) (Nat.le_refl _)
      rw [List.take_length] at e
      have t1 := h.top
      have t2 := h'.top
      rw [← e] at t2
      have := lenB_succ r.L r'.L.length _ (List.getElem?_eq_getElem hl)
      have := lenB_take_all r.L (r'.L.length + 1)
      omega
  have eL : r.L = r'.L := by
    have e := take r.L.length (Nat.le_refl _) (by omega)
    rw [List.take_length] at e
    rw [e, len, List.take_length]
  have en : r.n = r'.n := h.n.symm.trans h'.n
  have ew : r.which = r'.which := by
    have b1 := h.base
    have b2 := h'.base
    rw [en] at b1
    have hr : 1 ≤ r'.n := by have := h'.n; omega
    have w1 := h.wh
    have w2 := h'.wh
    rcases (show r.which = 0 ∨ r.which = 1 by omega) with e1 | e1 <;> rcases (show r'.which = 0 ∨ r'.which = 1 by omega) with e2 | e2 <;> rw [e1] at b1 <;> rw [e2] at b2 <;> omega
  cases r; cases r'
  simp only at en ew eL
  subst en; subst ew; subst eL
  rfl
end Go.Proofs.Ytjnlfnecmiklhaa
