/-
  Layer 6: a queue of words that a call owns: its first one is taken off, others are put behind. No condition but that it lies in memory.
-/
import Derived.Test.YtcbgjkedmboifabQ6HashB
namespace Go.Proofs.Ytcbgjkedmboifab
open Go.ChangeShapes Go.WideShapes Go.ChangeAt Go.RowKit Go.Deep
set_option linter.unusedVariables false
set_option maxHeartbeats 1000000

/-- Words lie in a part of a row that was made at B or above. -/
def WO (w : World) (B : Nat) (v : Value) (qs : List Int) : Prop := ∃ ao c, v = .slice ao qs.length c ∧ c ≤ maxLen ∧ ((c = 0 ∧ qs = []) ∨ ∃ g o cur, ao = some ⟨g, o, none⟩ ∧ B ≤ g ∧ w.heap[g]? = some (.cells cur 30 (0, 0)) ∧ cur.size = o + c ∧ qs.length ≤ c ∧ ∀ i, i < qs.length → cur[o + i]? = some (.int .u64 (qs.getD i 0)))
theorem WO.below {w w' : World} {B : Nat} {v : Value} {qs : List Int} (h : WO w B v qs) (k : Below w.heap.size w w') : WO w' B v qs := by
  obtain ⟨ao, c, e, hc, h⟩ := h
  refine ⟨ao, c, e, hc, h.imp id ?_⟩
  rintro ⟨g, o, cur, e1, e2, e3, e4⟩
  exact ⟨g, o, cur, e1, e2, (k.block g (lt_of_some e3)).trans e3, e4⟩
theorem wo_first (w : World) (x : Int) : WO (w.alloc (.cells #[.int .u64 x] 30)) w.heap.size (.slice (some ⟨w.heap.size, 0, none⟩) 1 1) [x] :=
  ⟨_, 1, rfl, by unfold maxLen; omega, Or.inr ⟨w.heap.size, 0, #[.int .u64 x], rfl, Nat.le_refl _, blk_alloc_new _ _, rfl, Nat.le_refl _, fun i hi => by
    have : i = 0 := by simpa using hi
    subst this; rfl⟩⟩
/-- The first one, and the others. -/
theorem WO.next {w : World} {B : Nat} {v : Value} {x : Int} {qs : List Int} (h : WO w B v (x :: qs)) : ∃ g o c v', v = .slice (some ⟨g, o, none⟩) (qs.length + 1) c ∧ w.cell? ⟨g, o, none⟩ = some (.int .u64 x) ∧ qs.length + 1 ≤ c ∧ c ≤ maxLen ∧ WO w B v' qs ∧ ∀ w', (Instr.slice 37 (.slice (some ⟨g, o, none⟩) (qs.length + 1) c) (some (.int .i64 1)) none none).run Try.prog w' = .ok v' w' := by
  obtain ⟨ao, c, e, hc, h⟩ := h
  rcases h with ⟨_, h⟩ | ⟨g, o, cur, rfl, hb, hg, hs, hl, hcell⟩
  · cases h
  obtain ⟨i0, hi, hz0, hz1, hz2⟩ := info_parts infoW
  rw [List.length_cons] at e hl hcell
  have hadd : (Addr.mk g o none).add 1 = ⟨g, o + 1, none⟩ := by unfold Addr.add; rw [if_neg (by decide)]
  refine ⟨g, o, c, .slice (if c = 1 then some ⟨g, o, none⟩ else some ⟨g, o + 1, none⟩) qs.length (c - 1), e, ?_, hl, hc, ?_, fun w' => ?_⟩
  · have := hcell 0 (by omega)
    rw [Nat.add_zero] at this
    simp only [World.cell?, hg, this]; rfl
  · refine ⟨_, c - 1, rfl, by omega, ?_⟩
    by_cases h1 : c = 1
    · exact Or.inl ⟨by omega, List.length_eq_zero_iff.1 (by omega)⟩
    · rw [if_neg h1]
      refine Or.inr ⟨g, o + 1, cur, rfl, hb, hg, by omega, by omega, fun i hi => ?_⟩
      have := hcell (i + 1) (by omega)
      rw [show o + (i + 1) = o + 1 + i from by omega] at this
      rw [this]
      simp [List.getD_eq_getElem?_getD]
  · have h1 : (1 : Int) ≤ (c : Int) := by omega
    have h2 : (1 : Int) ≤ (qs.length : Int) + 1 := by omega
    simp [Instr.slice, run_underlying Try.underlying37, Instr.sliceBounds, Instr.sliceBound, sizeOf, typeInfo, hi, hz1]
    have ha : Sem.run Try.prog (asIntOf (.int .i64 1)) w' = .ok (.i64, 1) w' := rfl
    rw [ha]
    simp only [Result.andThen_ok]
    rw [if_pos ⟨by decide, h2⟩]
    show Result.ok (Value.slice (if c = 1 then some ⟨g, o, none⟩ else some ((Addr.mk g o none).add 1)) (qs.length + 1 - 1) (c - 1)) w' = _
    rw [hadd]
    rfl
/-- A row is put behind. -/
theorem grow_off {w : World} {B : Nat} {v : Value} {qs F : List Int} {gf cf : Nat} (ty : TypeId) (h : WO w B v qs) (hB : B ≤ w.heap.size) (hf : Own w gf F.length (fun i => F.getD i 0)) (hl : qs.length + F.length < 100000000) :
    ∃ v' w', Sem.run Try.prog (Builtin.append_ #[37, 37] ty #[v, .slice (some ⟨gf, 0, none⟩) F.length cf]) w = .ok v' w' ∧ WO w' B v' (qs ++ F) ∧ Below B w w' := by
  obtain ⟨i0, hi, hz0, hz1, hz2⟩ := info_parts infoW
  obtain ⟨ao, c, rfl, hcm, h⟩ := h
  have hadd : ∀ (b o : Nat) (j : Nat), (Addr.mk b o none).add j = ⟨b, o + j, none⟩ := by
    intro b o j
    unfold Addr.add
    split
    · rename_i h; rw [h]; rfl
    · rfl
  have hmap : ∀ (l : List Int) (j : Nat) (z : Value), (l.map u64v)[j]? = some z → j < l.length ∧ z = .int .u64 (l.getD j 0) := by
    intro l j z hz
    have hj : j < l.length := by have := (List.getElem?_eq_some_iff.1 hz).1; simpa using this
    rw [List.getElem?_map, List.getElem?_eq_getElem hj] at hz
    refine ⟨hj, ?_⟩
    rw [List.getD_eq_getElem?_getD, List.getElem?_eq_getElem hj]
    exact (Option.some.inj hz).symm
  have hnews : ∀ j z, (F.map u64v)[j]? = some z → w.cell? ((Addr.mk gf 0 none).add j) = some z := by
    intro j z hz
    obtain ⟨hj, rfl⟩ := hmap F j z hz
    rw [hadd, Nat.zero_add, hf.cell hj]
  have hgetl : ∀ i, i < qs.length → (qs ++ F).getD i 0 = qs.getD i 0 := fun i hi => by rw [List.getD_eq_getElem?_getD, List.getD_eq_getElem?_getD, List.getElem?_append_left hi]
  have hgetr : ∀ i, qs.length ≤ i → (qs ++ F).getD i 0 = F.getD (i - qs.length) 0 := fun i hi => by rw [List.getD_eq_getElem?_getD, List.getD_eq_getElem?_getD, List.getElem?_append_right hi]
  have hlc : qs.length ≤ c := by
    rcases h with ⟨h1, h2⟩ | ⟨g, o, cur, _, _, _, _, h5, _⟩
    · rw [h2]; exact Nat.zero_le _
    · exact h5
  by_cases hF : F.length = 0
  · have e : F = [] := List.length_eq_zero_iff.1 hF
    subst e
    refine ⟨.slice ao qs.length c, w, ?_, by rw [List.append_nil]; exact ⟨ao, c, rfl, hcm, h⟩, Below.refl _ _⟩
    have hl0 : ∀ (x : Addr), (loadCells x 0).run Try.prog w = .ok #[] w := fun x => by simpa using run_loadCells_list (P := Try.prog) w x [] (by simp)
    cases ao <;> simp [Builtin.append_, run_underlying Try.underlying37, sizeOf, typeInfo, hi, hz1, Builtin.lenOf, Builtin.firstCells, hlc, storeCells, hl0]
  · by_cases hroom : qs.length + F.length ≤ c
    · rcases h with ⟨h1, h2⟩ | ⟨g, o, cur, rfl, hb, hg, hs, _, hcells⟩
      · omega
      · have hr : w.rowIs g 30 (o + c) (fun i => (cur[i]?).getD undef) := ⟨cur, hg, hs, fun i hi => by show _ = some ((cur[i]?).getD undef); rw [Array.getElem?_eq_getElem (by omega)]; rfl⟩
        have hst := run_storeCells_cells (P := Try.prog) g (o + qs.length) (F.map u64v) 0 w (fun j hj => by rw [hr.cell (by rw [List.length_map] at hj; omega)]; rfl) (fun j _ => hr.frozen _) (by
          intro z hz
          obtain ⟨x, _, rfl⟩ := List.mem_map.1 hz
          rfl)
        have hff := run_firstCells_some (P := Try.prog) w i0.size F.length ⟨gf, 0, none⟩ F.length cf (F.map u64v) (by rw [hz1]; simp) hnews
        have hr2 := rowIs_setCells (F.map u64v) (o + qs.length) w _ hr
        obtain ⟨cur2, hg2, hs2, hc2⟩ := hr2
        refine ⟨.slice (some ⟨g, o, none⟩) (qs.length + F.length) c, w.setCells g (o + qs.length) (F.map u64v), ?_, ⟨_, c, by rw [List.length_append], hcm, Or.inr ⟨g, o, cur2, rfl, hb, hg2, hs2, by rw [List.length_append]; exact hroom, fun i hi => ?_⟩⟩, ?_⟩
        · rw [hz1] at hff
          have e0 : (Addr.mk g o none).add qs.length = ⟨g, o + qs.length, none⟩ := hadd g o qs.length
          simp [Builtin.append_, run_underlying Try.underlying37, sizeOf, typeInfo, hi, hz1, Builtin.lenOf, hroom, hff, e0, hst]
        · rw [List.length_append] at hi
          rw [hc2 (o + i) (by omega)]
          simp only [List.length_map]
          by_cases e : qs.length ≤ i
          · rw [if_pos ⟨by omega, by omega⟩, hgetr i e, List.getD_eq_getElem?_getD, List.getElem?_map, show o + i - (o + qs.length) = i - qs.length from by omega, List.getElem?_eq_getElem (by omega), List.getD_eq_getElem?_getD, List.getElem?_eq_getElem (by omega)]; rfl
          · rw [if_neg (by omega), hgetl i (by omega), hcells i (by omega)]; rfl
        · exact (only_setCells (S := fun q => q = g) (Or.inr rfl) _ _ _ (Only.refl _ _)).below hB (fun q hq e => by omega)
    · have hge := grownCap_ge w (qs.length + F.length) c 30
      have hle := grownCap_le_maxLen w (qs.length + F.length) c 30 (by unfold maxLen; omega)
      have hfin : ∀ o', (Builtin.append_ #[37, 37] ty #[.slice ao qs.length c, .slice (some ⟨gf, 0, none⟩) F.length cf]).run Try.prog w = .ok (.slice (some ⟨w.heap.size, 0, none⟩) (qs.length + F.length) (grownCap w (qs.length + F.length) c 30)) (w.drew.alloc o') → o' = .cells ((qs.map u64v).toArray ++ (F.map u64v).toArray ++ Builtin.zeroCells (Value.int .u64 0).cells (grownCap w (qs.length + F.length) c 30 - (qs.length + F.length))) 30 →
          ∃ v' w', Sem.run Try.prog (Builtin.append_ #[37, 37] ty #[.slice ao qs.length c, .slice (some ⟨gf, 0, none⟩) F.length cf]) w = .ok v' w' ∧ WO w' B v' (qs ++ F) ∧ Below B w w' := by
        rintro o' hrun rfl
        refine ⟨_, _, hrun, ⟨_, _, by rw [List.length_append], hle, Or.inr ⟨w.heap.size, 0, _, rfl, hB, blk_alloc_new _ _, ?_, by rw [List.length_append]; exact hge, fun i hi2 => ?_⟩⟩, ?_⟩
        · simp only [Array.size_append, List.size_toArray, List.length_map, size_zeroCells]
          show qs.length + F.length + (grownCap w (qs.length + F.length) c 30 - (qs.length + F.length)) * 1 = _
          omega
        · rw [List.length_append] at hi2
          rw [Nat.zero_add, Array.getElem?_append_left (by simp only [Array.size_append, List.size_toArray, List.length_map]; exact hi2)]
          by_cases e : qs.length ≤ i
          · rw [Array.getElem?_append_right (by simp only [List.size_toArray, List.length_map]; exact e), hgetr i e]
            simp only [List.size_toArray, List.length_map, List.getElem?_toArray]
            rw [List.getElem?_map, List.getElem?_eq_getElem (by omega), List.getD_eq_getElem?_getD, List.getElem?_eq_getElem (by omega)]; rfl
          · rw [Array.getElem?_append_left (by simp only [List.size_toArray, List.length_map]; omega), hgetl i (by omega)]
            simp only [List.getElem?_toArray]
            rw [List.getElem?_map, List.getElem?_eq_getElem (by omega), List.getD_eq_getElem?_getD, List.getElem?_eq_getElem (by omega)]; rfl
        · exact ((Only.refl (fun q => q = w.heap.size) w).drew.alloc _).below hB (fun q hq e => by omega)
      have hby : Builtin.nextslicecap (qs.length + F.length) c * i0.bytes ≤ 281474976710656 := by have := nextslicecap_le (need := qs.length + F.length) (old := c) (by omega); rw [hz2]; omega
      cases ao with
      | none =>
        rcases h with ⟨h1, h2⟩ | ⟨g, o, cur, hao, _⟩
        · subst h1
          have hq0 : qs.length = 0 := by rw [h2]; rfl
          have hrun := run_append_nil (P := Try.prog) w 37 ty 30 i0 (.int .u64 0) Try.underlying37 hi hz0 ⟨gf, 0, none⟩ F.length cf (F.map u64v) (by rw [hz1, List.length_map]; omega) hnews (by omega) (by omega) (by rw [hz2]; omega)
          refine hfin _ (by rw [hq0, Nat.zero_add]; exact hrun) ?_
          rw [h2]; simp
        · cases hao
      | some ad =>
        have holds : ∀ j z, (qs.map u64v)[j]? = some z → w.cell? (ad.add j) = some z := by
          intro j z hz
          obtain ⟨hj, rfl⟩ := hmap qs j z hz
          rcases h with ⟨_, h2⟩ | ⟨g, o, cur, hao, _, hg, _, _, hcells⟩
          · rw [h2] at hj; cases hj
          · cases hao
            rw [hadd]
            simp [World.cell?, hg, hcells j hj]
        exact hfin _ (run_append_grow (P := Try.prog) w 37 ty 30 i0 (.int .u64 0) Try.underlying37 hi hz0 ad qs.length c (qs.map u64v) (by rw [hz1, List.length_map]; omega) holds ⟨gf, 0, none⟩ F.length cf (F.map u64v) (by rw [hz1, List.length_map]; omega) hnews (by omega) (by omega) hby) rfl
end Go.Proofs.Ytcbgjkedmboifab
