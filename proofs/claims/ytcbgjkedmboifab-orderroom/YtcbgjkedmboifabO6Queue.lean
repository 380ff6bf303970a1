/-
  Layer 6: rows of words that a call owns, grown by other rows. No condition but that they lie in memory.
-/
import Derived.Test.YtcbgjkedmboifabO6Mix
import Derived.Test.YtcbgjkedmboifabE5Begin
namespace Go.Proofs.Ytcbgjkedmboifab
open Go.ChangeShapes Go.WideShapes Go.ChangeAt Go.RowKit Go.Deep
set_option linter.unusedVariables false
set_option maxHeartbeats 1000000

/-- Words lie in a row that was made at B or above. -/
def WQ (w : World) (B : Nat) (v : Value) (qs : List Int) : Prop := ∃ g c cur, v = .slice (some ⟨g, 0, none⟩) qs.length c ∧ B ≤ g ∧ w.heap[g]? = some (.cells cur 30 (0, 0)) ∧ cur.size = c ∧ qs.length ≤ c ∧ c ≤ maxLen ∧ ∀ i, i < qs.length → cur[i]? = some (.int .u64 (qs.getD i 0))
theorem WQ.below {w w' : World} {B : Nat} {v : Value} {qs : List Int} (h : WQ w B v qs) (k : Below w.heap.size w w') : WQ w' B v qs := by
  obtain ⟨g, c, cur, e, hb, hg, r⟩ := h
  exact ⟨g, c, cur, e, hb, (k.block g (lt_of_some hg)).trans hg, r⟩
theorem WQ.cell {w : World} {B : Nat} {v : Value} {qs : List Int} (h : WQ w B v qs) : ∃ g c, v = .slice (some ⟨g, 0, none⟩) qs.length c ∧ ∀ i, i < qs.length → w.cell? ⟨g, i, none⟩ = some (.int .u64 (qs.getD i 0)) := by
  obtain ⟨g, c, cur, e, hb, hg, hs, hl, hm, hc⟩ := h
  exact ⟨g, c, e, fun i hi => by simp [World.cell?, hg, hc i hi]⟩
theorem infoW : (Try.prog.info? 30).map (fun i => (i.zero, i.size, i.bytes)) = some (some (.int .u64 0), 1, 8) := by kernel_rfl
def u64v (x : Int) : Value := .int .u64 x
/-- A row more. -/
theorem run_append_words {w : World} {B : Nat} {v : Value} {qs F : List Int} (ty : TypeId) (h : WQ w B v qs) (hB : B ≤ w.heap.size) (gx c : Nat) (hx : ∀ i, i < F.length → w.cell? ⟨gx, i, none⟩ = some (.int .u64 (F.getD i 0))) (hF : 0 < F.length) (hl : qs.length + F.length < 100000000) :
    ∃ v' w', Sem.run Try.prog (Builtin.append_ #[37, 37] ty #[v, .slice (some ⟨gx, 0, none⟩) F.length c]) w = .ok v' w' ∧ WQ w' B v' (qs ++ F) ∧ Below B w w' := by
  obtain ⟨i0, hi, hz0, hz1, hz2⟩ := info_parts infoW
  obtain ⟨g, cap, cur, rfl, hb, hg, hs, hc, hm, hcells⟩ := h
  have hadd : ∀ (b : Nat) (j : Nat), (Addr.mk b 0 none).add j = ⟨b, j, none⟩ := by
    intro b j
    unfold Addr.add
    split
    · rename_i h; rw [h]
    · simp
  have hmap : ∀ (l : List Int) (j : Nat) (z : Value), (l.map u64v)[j]? = some z → j < l.length ∧ z = .int .u64 (l.getD j 0) := by
    intro l j z hz
    have hj : j < l.length := by have := (List.getElem?_eq_some_iff.1 hz).1; simpa using this
    rw [List.getElem?_map, List.getElem?_eq_getElem hj] at hz
    refine ⟨hj, ?_⟩
    rw [List.getD_eq_getElem?_getD, List.getElem?_eq_getElem hj]
    exact (Option.some.inj hz).symm
  have hnews : ∀ j z, (F.map u64v)[j]? = some z → w.cell? ((Addr.mk gx 0 none).add j) = some z := by
    intro j z hz
    obtain ⟨hj, rfl⟩ := hmap F j z hz
    rw [hadd, hx j hj]
  have hgetl : ∀ i, i < qs.length → (qs ++ F).getD i 0 = qs.getD i 0 := fun i hi => by rw [List.getD_eq_getElem?_getD, List.getD_eq_getElem?_getD, List.getElem?_append_left hi]
  have hgetr : ∀ i, qs.length ≤ i → (qs ++ F).getD i 0 = F.getD (i - qs.length) 0 := fun i hi => by rw [List.getD_eq_getElem?_getD, List.getD_eq_getElem?_getD, List.getElem?_append_right hi]
  by_cases hroom : qs.length + F.length ≤ cap
  · have hr : w.rowIs g 30 cap (fun i => (cur[i]?).getD undef) := ⟨cur, hg, hs, fun i hi => by show _ = some ((cur[i]?).getD undef); rw [Array.getElem?_eq_getElem (by omega)]; rfl⟩
    have hst := run_storeCells_cells (P := Try.prog) g qs.length (F.map u64v) 0 w (fun j hj => by rw [hr.cell (by rw [List.length_map] at hj; omega)]; rfl) (fun j _ => hr.frozen _) (by
      intro z hz
      obtain ⟨x, _, rfl⟩ := List.mem_map.1 hz
      rfl)
    have hff := run_firstCells_some (P := Try.prog) w i0.size F.length ⟨gx, 0, none⟩ F.length c (F.map u64v) (by rw [hz1]; simp) hnews
    have hr2 := rowIs_setCells (F.map u64v) qs.length w _ hr
    obtain ⟨cur2, hg2, hs2, hc2⟩ := hr2
    refine ⟨.slice (some ⟨g, 0, none⟩) (qs.length + F.length) cap, w.setCells g qs.length (F.map u64v), ?_, ⟨g, cap, cur2, by rw [List.length_append], hb, hg2, hs2, by rw [List.length_append]; exact hroom, hm, fun i hi => ?_⟩, ?_⟩
    · rw [hz1] at hff
      have e0 : (Addr.mk g 0 none).add qs.length = ⟨g, qs.length, none⟩ := hadd g qs.length
      simp [Builtin.append_, run_underlying Try.underlying37, sizeOf, typeInfo, hi, hz1, Builtin.lenOf, hroom, hff, e0, hst]
    · rw [List.length_append] at hi
      rw [hc2 i (by omega)]
      simp only [List.length_map]
      by_cases e : qs.length ≤ i
      · rw [if_pos ⟨e, hi⟩, hgetr i e, List.getD_eq_getElem?_getD, List.getElem?_map, List.getElem?_eq_getElem (by omega), List.getD_eq_getElem?_getD, List.getElem?_eq_getElem (by omega)]; rfl
      · rw [if_neg (by omega), hgetl i (by omega), hcells i (by omega)]; rfl
    · exact (only_setCells (S := fun q => q = g) (Or.inr rfl) _ _ _ (Only.refl _ _)).below hB (fun q hq e => by omega)
  · have holds : ∀ j z, (qs.map u64v)[j]? = some z → w.cell? ((Addr.mk g 0 none).add j) = some z := by
      intro j z hz
      obtain ⟨hj, rfl⟩ := hmap qs j z hz
      rw [hadd]
      simp [World.cell?, hg, hcells j hj]
    have hge := grownCap_ge w (qs.length + F.length) cap 30
    have hle := grownCap_le_maxLen w (qs.length + F.length) cap 30 (by unfold maxLen; omega)
    have hrun := run_append_grow (P := Try.prog) w 37 ty 30 i0 (.int .u64 0) Try.underlying37 hi hz0 ⟨g, 0, none⟩ qs.length cap (qs.map u64v) (by rw [hz1, List.length_map]; omega) holds ⟨gx, 0, none⟩ F.length c (F.map u64v) (by rw [hz1, List.length_map]; omega) hnews (by omega) (by omega) (by have := nextslicecap_le (need := qs.length + F.length) (old := cap) (by omega); rw [hz2]; omega)
    refine ⟨_, _, hrun, ⟨w.heap.size, _, _, by rw [List.length_append], hB, blk_alloc_new _ _, ?_, by rw [List.length_append]; exact hge, hle, fun i hi2 => ?_⟩, ?_⟩
    · simp only [Array.size_append, List.size_toArray, List.length_map, size_zeroCells]
      show qs.length + F.length + (grownCap w (qs.length + F.length) cap 30 - (qs.length + F.length)) * 1 = _
      omega
    · rw [List.length_append] at hi2
      rw [Array.getElem?_append_left (by simp only [Array.size_append, List.size_toArray, List.length_map]; exact hi2)]
      by_cases e : qs.length ≤ i
      · rw [Array.getElem?_append_right (by simp only [List.size_toArray, List.length_map]; exact e), hgetr i e]
        simp only [List.size_toArray, List.length_map, List.getElem?_toArray]
        rw [List.getElem?_map, List.getElem?_eq_getElem (by omega), List.getD_eq_getElem?_getD, List.getElem?_eq_getElem (by omega)]; rfl
      · rw [Array.getElem?_append_left (by simp only [List.size_toArray, List.length_map]; omega), hgetl i (by omega)]
        simp only [List.getElem?_toArray]
        rw [List.getElem?_map, List.getElem?_eq_getElem (by omega), List.getD_eq_getElem?_getD, List.getElem?_eq_getElem (by omega)]; rfl
    · exact ((Only.refl (fun q => q = g) w).drew.alloc _).below hB (fun q hq e => by omega)
end Go.Proofs.Ytcbgjkedmboifab
