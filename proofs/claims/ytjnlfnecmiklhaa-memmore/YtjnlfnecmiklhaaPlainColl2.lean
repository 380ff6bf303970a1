/-
  What a collection leaves, told plainly: how many blocks, of how many cells. Plain; no program.
-/
import Derived.Test.YtjnlfnecmiklhaaPlainColl
import Derived.Test.YtjnlfnecmiklhaaPlainApart
namespace Go.Proofs.Ytjnlfnecmiklhaa
open Go.RowKit Go.Deep
set_option linter.unusedVariables false

theorem newB_len (s : St) (r : RS) (B : Nat) (G : List Nat) (k : Nat) : (newB s r B G k).F.length = (blkAt r (G.getD k 0)).F.length := by
  unfold newB
  show (if _ then _ else _ : List Int).length = _
  split
  · rfl
  · simp
theorem coll_map (s : St) (r : RS) (B : Nat) (G : List Nat) : ((List.range G.length).map (newB s r B G)).map (fun b => b.F.length) = (G.map (blkAt r)).map (fun b => b.F.length) := by
  apply List.ext_getElem
  · simp
  · intro k h1 h2
    simp only [List.length_map, List.length_range] at h1 h2
    simp only [List.getElem_map, List.getElem_range, newB_len]
    rw [List.getD_eq_getElem?_getD, List.getElem?_eq_getElem h2]
    rfl
theorem collR_len (s : St) (r : RS) (xs : List Int) : (collR s r xs).L.length = (reachG s r xs).length := by unfold collR; simp
theorem collR_lenB (s : St) (r : RS) (xs : List Int) : lenB (collR s r xs).L = lenG r (reachG s r xs) := lenB_congr _ _ (coll_map s r _ _)
theorem otherB_ne {s : St} {r : RS} (h : Rep s r) (hn : 1 ≤ s.n) : otherB r ≠ s.base := by
  have h1 := h.n
  have h2 := h.base
  have h3 := h.wh
  unfold otherB
  rcases (show r.which = 0 ∨ r.which = 1 by omega) with e | e <;> rw [e] at h2 ⊢ <;> omega
end Go.Proofs.Ytjnlfnecmiklhaa
