/-
  Layer 6: rows of pairs of words that a call owns: a pair more on top, the top one taken off. No condition but that they lie in memory.
-/
import Derived.Test.YtcbgjkedmboifaaO6Texts
namespace Go.Proofs.Ytcbgjkedmboifaa
open Go.ChangeShapes Go.WideShapes Go.ChangeAt Go.RowKit Go.Deep
set_option linter.unusedVariables false
set_option maxHeartbeats 1000000

/-- A pair of words lies in a block of its own, at B or above. -/
def Pair2 (w : World) (B : Nat) (v : Value) (x y : Int) : Prop := ∃ q, v = .slice (some ⟨q, 0, none⟩) 2 2 ∧ B ≤ q ∧ w.heap[q]? = some (.cells #[.int .u64 x, .int .u64 y] 29 (0, 0))
/-- Pairs, the first one on top, lie in a row that was made at B or above. -/
def PR (w : World) (B : Nat) (v : Value) (ws : List (Int × Int)) : Prop := ∃ g c cur, v = .slice (some ⟨g, 0, none⟩) ws.length c ∧ B ≤ g ∧ w.heap[g]? = some (.cells cur 36 (0, 0)) ∧ cur.size = c ∧ ws.length ≤ c ∧ c ≤ maxLen ∧ ∀ (i : Nat) (p : Int × Int), ws.reverse[i]? = some p → ∃ u, cur[i]? = some u ∧ Pair2 w B u p.1 p.2
theorem Pair2.below {w w' : World} {B : Nat} {v : Value} {x y : Int} (h : Pair2 w B v x y) (k : Below w.heap.size w w') : Pair2 w' B v x y := by
  obtain ⟨q, e, hb, hq⟩ := h
  exact ⟨q, e, hb, (k.block q (lt_of_some hq)).trans hq⟩
theorem PR.below {w w' : World} {B : Nat} {v : Value} {ws : List (Int × Int)} (h : PR w B v ws) (k : Below w.heap.size w w') : PR w' B v ws := by
  obtain ⟨g, c, cur, e, hb, hg, hs, hl, hm, hc⟩ := h
  exact ⟨g, c, cur, e, hb, (k.block g (lt_of_some hg)).trans hg, hs, hl, hm, fun i p hi => by obtain ⟨u, hu, h2⟩ := hc i p hi; exact ⟨u, hu, h2.below k⟩⟩
/-- The top one is read, and taken off. -/
theorem PR.top {w : World} {B : Nat} {v : Value} {x y : Int} {ws : List (Int × Int)} (h : PR w B v ((x, y) :: ws)) : ∃ g c q, v = .slice (some ⟨g, 0, none⟩) (ws.length + 1) c ∧ w.cell? ⟨g, ws.length, none⟩ = some (.slice (some ⟨q, 0, none⟩) 2 2) ∧ w.cell? ⟨q, 0, none⟩ = some (.int .u64 x) ∧ w.cell? ⟨q, 1, none⟩ = some (.int .u64 y) ∧ ws.length + 1 ≤ c ∧ PR w B (.slice (some ⟨g, 0, none⟩) ws.length c) ws := by
  obtain ⟨g, c, cur, e, hb, hg, hs, hl, hm, hc⟩ := h
  rw [List.length_cons] at e hl
  obtain ⟨u, hu, q, rfl, hq, hcell⟩ := hc ws.length (x, y) (by rw [List.reverse_cons, List.getElem?_append_right (by rw [List.length_reverse]; exact Nat.le_refl _), List.length_reverse, Nat.sub_self]; rfl)
  refine ⟨g, c, q, e, ?_, ?_, ?_, hl, g, c, cur, rfl, hb, hg, hs, by omega, hm, fun i p hi => ?_⟩
  · simp [World.cell?, hg, hu]
  · simp [World.cell?, hcell]
  · simp [World.cell?, hcell]
  · have hlt := (List.getElem?_eq_some_iff.1 hi).1
    exact hc i p (by rw [List.reverse_cons, List.getElem?_append_left hlt]; exact hi)
theorem infoWs : (Try.prog.info? 36).map (fun i => (i.zero, i.size, i.bytes)) = some (some (.slice none 0 0), 1, 24) := by kernel_rfl
/-- A pair more. -/
theorem run_append_pair {w : World} {B : Nat} {v : Value} {ws : List (Int × Int)} (ty : TypeId) (h : PR w B v ws) (hB : B ≤ w.heap.size) (gx c : Nat) (u : Value) (x y : Int) (hx : w.cell? ⟨gx, 0, none⟩ = some u) (hp : Pair2 w B u x y) (hl : ws.length < 100000000) :
    ∃ v' w', Sem.run Try.prog (Builtin.append_ #[63, 63] ty #[v, .slice (some ⟨gx, 0, none⟩) 1 c]) w = .ok v' w' ∧ PR w' B v' ((x, y) :: ws) ∧ (∃ g n, v = .slice (some ⟨g, 0, none⟩) ws.length n ∧ (∃ cur, w.heap[g]? = some (.cells cur 36 (0, 0))) ∧ B ≤ g ∧ Only (fun q => q = g) w w') := by
  obtain ⟨i0, hi, hz0, hz1, hz2⟩ := info_parts infoWs
  obtain ⟨g, cap, cur, rfl, hb, hg, hs, hc, hm, hcells⟩ := h
  have hone : u.oneCell' = true := by obtain ⟨q, rfl, _⟩ := hp; rfl
  have hnews : ∀ j z, [u][j]? = some z → w.cell? ((Addr.mk gx 0 none).add j) = some z := by
    intro j z hz
    match j, hz with
    | 0, hz => simp at hz; subst hz; exact hx
  have hpair : ∀ w', Only (fun q => q = g) w w' → ∀ z a b, Pair2 w B z a b → Pair2 w' B z a b := by
    rintro w' ho z a b ⟨q, e, hq, hcell⟩
    refine ⟨q, e, hq, (ho.block q (lt_of_some hcell) (fun e2 => ?_)).trans hcell⟩
    subst e2
    rw [hg] at hcell
    simp at hcell
  have hrev : ∀ i p, ((x, y) :: ws).reverse[i]? = some p → (i < ws.length ∧ ws.reverse[i]? = some p) ∨ (i = ws.length ∧ p = (x, y)) := by
    intro i p hi
    rw [List.reverse_cons] at hi
    by_cases e : i < ws.length
    · rw [List.getElem?_append_left (by rw [List.length_reverse]; exact e)] at hi
      exact Or.inl ⟨e, hi⟩
    · rw [List.getElem?_append_right (by rw [List.length_reverse]; omega), List.length_reverse] at hi
      have h0 : i - ws.length = 0 := by
        have := (List.getElem?_eq_some_iff.1 hi).1
        simpa using this
      rw [h0] at hi
      exact Or.inr ⟨by omega, by simpa using hi.symm⟩
  by_cases hroom : ws.length + 1 ≤ cap
  · have hfr : w.frozen? ⟨g, ws.length, none⟩ = false := by simp [World.frozen?, hg]
    have hcell : w.cell? ⟨g, ws.length, none⟩ = some cur[ws.length] := by simp [World.cell?, hg, show ws.length < cur.size by omega]
    have hff := run_firstCells_some (P := Try.prog) w i0.size 1 ⟨gx, 0, none⟩ 1 c [u] (by rw [hz1]; rfl) hnews
    have ho : Only (fun q => q = g) w (w.setCell ⟨g, ws.length, none⟩ u) := (Only.refl (fun q => q = g) w).setCell (a := ⟨g, ws.length, none⟩) (Or.inr rfl) _
    refine ⟨.slice (some ⟨g, 0, none⟩) (ws.length + 1) cap, w.setCell ⟨g, ws.length, none⟩ u, ?_, ⟨g, cap, cur.setIfInBounds ws.length u, rfl, hb, by simp [World.setCell, Array.getElem?_modify, hg], by simpa using hs, hroom, hm, fun i p hi => ?_⟩, g, cap, rfl, ⟨cur, hg⟩, hb, ho⟩
    · have hadd : (Addr.mk g ws.length none).add 0 = ⟨g, ws.length, none⟩ := rfl
      have hst1 : (store ((Addr.mk g ws.length none).add 0) u).run Try.prog w = .ok () (w.setCell ⟨g, ws.length, none⟩ u) := by
        rw [hadd, run_store Try.prog w _ u _ hone, hcell]
        simp [hfr]
      have hst : (storeCells ⟨g, ws.length, none⟩ [u] 0).run Try.prog w = .ok () (w.setCell ⟨g, ws.length, none⟩ u) := by
        simp only [storeCells, Sem.run_bind, hst1, Result.andThen_ok]
        rfl
      rw [hz1] at hff
      simp [Builtin.append_, run_underlying Try.underlying63, sizeOf, typeInfo, hi, hz1, Builtin.lenOf, hroom, hff, Addr.add_lit, hst]
    · rcases hrev i p hi with ⟨e, hi2⟩ | ⟨rfl, rfl⟩
      · obtain ⟨z, hz, hp2⟩ := hcells i p hi2
        exact ⟨z, by rw [Array.getElem?_setIfInBounds_ne (by omega)]; exact hz, hpair _ ho _ _ _ hp2⟩
      · exact ⟨u, by rw [Array.getElem?_setIfInBounds_self_of_lt (by omega)], hpair _ ho _ _ _ hp⟩
  · have hcl : cap = ws.length := by omega
    have holds : ∀ j z, cur.toList[j]? = some z → w.cell? ((Addr.mk g 0 none).add j) = some z := by
      intro j z hz
      have e : (Addr.mk g 0 none).add j = ⟨g, j, none⟩ := by
        unfold Addr.add
        split
        · rename_i h; rw [h]
        · simp
      rw [e]
      simp only [World.cell?, hg]
      simpa using hz
    have hge := grownCap_ge w (ws.length + 1) cap 36
    have hle := grownCap_le_maxLen w (ws.length + 1) cap 36 (by unfold maxLen; omega)
    have hcur : cur.toList.length = ws.length := by rw [Array.length_toList]; omega
    have hrun := run_append_grow (P := Try.prog) w 63 ty 36 i0 (.slice none 0 0) Try.underlying63 hi hz0 ⟨g, 0, none⟩ ws.length cap cur.toList (by rw [hz1, hcur]; omega) holds ⟨gx, 0, none⟩ 1 c [u] (by rw [hz1]; rfl) hnews (by omega) (by omega) (by have := nextslicecap_le (need := ws.length + 1) (old := cap) (by omega); rw [hz2]; omega)
    refine ⟨_, _, hrun, ⟨w.heap.size, _, _, rfl, hB, blk_alloc_new _ _, ?_, hge, hle, fun i p hi => ?_⟩, g, cap, rfl, ⟨cur, hg⟩, hb, ?_⟩
    · simp only [Array.size_append, List.size_toArray, List.length_cons, List.length_nil, size_zeroCells, hcur]
      show ws.length + (0 + 1) + (grownCap w (ws.length + 1) cap 36 - (ws.length + 1)) * 1 = _
      omega
    · have ho : ∀ o, Only (fun q => q = g) w (w.drew.alloc o) := fun o => ((Only.refl _ w).drew).alloc o
      have hat : ∀ (Z : Array Value) (j : Nat), j < ws.length + 1 → (cur.toList.toArray ++ #[u] ++ Z)[j]? = (cur.toList ++ [u])[j]? := by
        intro Z j hj
        rw [show cur.toList.toArray ++ #[u] = (cur.toList ++ [u]).toArray from List.append_toArray cur.toList [u], Array.getElem?_append_left (by simp only [List.size_toArray, List.length_append, List.length_singleton, hcur]; exact hj)]
        simp
      rcases hrev i p hi with ⟨e, hi2⟩ | ⟨rfl, rfl⟩
      · obtain ⟨z, hz, hp2⟩ := hcells i p hi2
        refine ⟨z, ?_, hpair _ (ho _) _ _ _ hp2⟩
        rw [hat _ i (by omega), List.getElem?_append_left (by omega)]
        simpa using hz
      · refine ⟨u, ?_, hpair _ (ho _) _ _ _ hp⟩
        rw [hat _ _ (by omega), List.getElem?_append_right (by omega), hcur, Nat.sub_self]
        rfl
    · exact ((Only.refl _ w).drew).alloc _
end Go.Proofs.Ytcbgjkedmboifaa
