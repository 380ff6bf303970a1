/-
  Layer 6: rows of pairs of words that a call owns: a pair more on top, the top one taken off. No condition but that they lie in memory.
-/
import Derived.Test.YtcbgjkedmboifabO6Texts
namespace Go.Proofs.Ytcbgjkedmboifab
open Go.ChangeShapes Go.WideShapes Go.ChangeAt Go.RowKit Go.Deep
set_option linter.unusedVariables false
set_option maxHeartbeats 1000000

/-- A pair of words lies in a block of its own, at B or above. -/
def Pair2 (w : World) (B : Nat) (v : Value) (x y : Int) : Prop := ∃ q, v = .slice (some ⟨q, 0, none⟩) 2 2 ∧ B ≤ q ∧ w.heap[q]? = some (.cells #[.int .u64 x, .int .u64 y] 30 (0, 0))
/-- Pairs, the first one on top, lie in a row that was made at B or above. -/
def PR (w : World) (B : Nat) (v : Value) (ws : List (Int × Int)) : Prop := ∃ g c cur, v = .slice (some ⟨g, 0, none⟩) ws.length c ∧ B ≤ g ∧ w.heap[g]? = some (.cells cur 37 (0, 0)) ∧ cur.size = c ∧ ws.length ≤ c ∧ c ≤ maxLen ∧ ∀ (i : Nat) (p : Int × Int), ws.reverse[i]? = some p → ∃ u, cur[i]? = some u ∧ Pair2 w B u p.1 p.2
theorem Pair2.below {w w' : World} {B : Nat} {v : Value} {x y : Int} (h : Pair2 w B v x y) (k : Below w.heap.size w w') : Pair2 w' B v x y := by
  obtain ⟨q, e, hb, hq⟩ := h
  exact ⟨q, e, hb, (k.block q (lt_of_some hq)).trans hq⟩
theorem PR.below {w w' : World} {B : Nat} {v : Value} {ws : List (Int × Int)} (h : PR w B v ws) (k : Below w.heap.size w w') : PR w' B v ws := by
  obtain ⟨g, c, cur, e, hb, hg, hs, hl, hm, hc⟩ := h
  exact ⟨g, c, cur, e, hb, (k.block g (lt_of_some hg)).trans hg, hs, hl, hm, fun i p hi => by obtain ⟨u, hu, h2⟩ := hc i p hi; exact ⟨u, hu, h2.below k⟩⟩
/-- The top one is read, and taken off. -/
theorem PR.top {w : World} {B : Nat} {v : Value} {x y : Int} {ws : List (Int × Int)} (h : PR w B v ((x, y) :: ws)) : ∃ g c q, v = .slice (some ⟨g, 0, none⟩) (ws.length + 1) c ∧ w.cell? ⟨g, ws.length, none⟩ = some (.slice (some ⟨q, 0, none⟩) 2 2) ∧ w.cell? ⟨q, 0, none⟩ = some (.int .u64 x) ∧ w.cell? ⟨q, 1, none⟩ = some (.int .u64 y) ∧ ws.length + 1 ≤ c ∧ PR w B (.slice (some ⟨g, 0, none⟩) ws.length c) ws := by
  obtain ⟨g, c, cur, e, hb, hg, hs, hl, hm, hc⟩ := h
  rw [List.length_cons] at e hl
  obtain ⟨u, hu, q, rfl, hq, hcell⟩ := hc ws.length (x, y) (by rw [List.reverse_cons, List.getElem?_append_right (by rw [List.length_reverse]; exact Nat.le_refl _), List.length_reverse, Nat.sub_self]; rfl)
  refine ⟨g, c, q, e, ?_, ?_, ?_, hl, g, c, cur, rfl, hb, hg, hs, by omega, hm, fun i p hi => ?_⟩
  · simp [World.cell?, hg, hu]
  · simp [World.cell?, hcell]
  · simp [World.cell?, hcell]
  · have hlt := (List.getElem?_eq_some_iff.1 hi).1
    exact hc i p (by rw [List.reverse_cons, List.getElem?_append_left hlt]; exact hi)
theorem infoWs : (Try.prog.info? 37).map (fun i => (i.zero, i.size, i.bytes)) = some (some (.slice none 0 0), 1, 24) := by kernel_rfl
end Go.Proofs.Ytcbgjkedmboifab
