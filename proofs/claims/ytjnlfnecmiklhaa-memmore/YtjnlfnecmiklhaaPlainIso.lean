/-
  Two arenas in which the same can be seen: which blocks are one; what is met from words that tell the same is met in one order; a collection, a new block, a new field leave it so. Plain; no program.
-/
import Derived.Test.YtjnlfnecmiklhaaPlainTwice
namespace Go.Proofs.Ytjnlfnecmiklhaa
open Go.RowKit Go.Deep
set_option linter.unusedVariables false

/-- Two words tell the same: one number, or words of blocks that are one. -/
def WR (r r' : RS) (R : Nat → Nat → Prop) (x x' : Int) : Prop := (x = x' ∧ addrW x = 0) ∨ ∃ i j, R i j ∧ x = 2 * ((blkAt r i).ad : Int) ∧ x' = 2 * ((blkAt r' j).ad : Int)
/-- Which blocks are one: never two to one; of one tag (no text's), one size, and their fields tell the same. -/
structure Iso (r r' : RS) (R : Nat → Nat → Prop) : Prop where
  fn : ∀ {i j j' : Nat}, R i j → R i j' → j = j'
  inj : ∀ {i i' j : Nat}, R i j → R i' j → i = i'
  lt : ∀ {i j : Nat}, R i j → i < r.L.length ∧ j < r'.L.length
  tag : ∀ {i j : Nat}, R i j → (blkAt r i).tag = (blkAt r' j).tag ∧ (blkAt r i).tag ≠ 202
  len : ∀ {i j : Nat}, R i j → (blkAt r i).F.length = (blkAt r' j).F.length
  fld : ∀ {i j : Nat}, R i j → ∀ k, k < (blkAt r i).F.length → WR r r' R ((blkAt r i).F.getD k 0) ((blkAt r' j).F.getD k 0)
variable {s s' : St} {r r' : RS} {R : Nat → Nat → Prop}

theorem WR.symm {x x' : Int} (h : WR r r' R x x') : WR r' r (fun j i => R i j) x' x := by
  rcases h with ⟨e, h⟩ | ⟨i, j, hR, e1, e2⟩
  · exact Or.inl ⟨e.symm, e ▸ h⟩
  · exact Or.inr ⟨j, i, hR, e2, e1⟩
theorem Iso.symm (h : Iso r r' R) : Iso r' r (fun j i => R i j) where
  fn := fun a b => h.inj a b
  inj := fun a b => h.fn a b
  lt := fun a => ⟨(h.lt a).2, (h.lt a).1⟩
  tag := fun a => ⟨(h.tag a).1.symm, by rw [← (h.tag a).1]; exact (h.tag a).2⟩
  len := fun a => (h.len a).symm
  fld := fun a k hk => (h.fld a k (by rw [h.len a]; exact hk)).symm
theorem iso_nil (r r' : RS) : Iso r r' (fun _ _ => False) := ⟨fun h => h.elim, fun h => h.elim, fun h => h.elim, fun h => h.elim, fun h => h.elim, fun h => h.elim⟩
theorem word_lead (hr : Rep s r) (ht : s.top ≤ 100000) {i : Nat} (hi : i < r.L.length) : leadI s r (2 * ((blkAt r i).ad : Int)) = some i ∧ (s.find (2 * ((blkAt r i).ad : Int))).2 = 0 := by
  have hb := blkAt_some hi
  obtain ⟨hf, _⟩ := hr.word hb ht
  exact ⟨leadI_some hr hb (by rw [hf]), by rw [hf]⟩
theorem num_lead (hr : Rep s r) {x : Int} (h : addrW x = 0) : leadI s r x = none := leadI_none (by rw [hr.find0 h])
/-- Where two words that tell the same lead. -/
theorem WR.lead (h : Iso r r' R) (hr : Rep s r) (ht : s.top ≤ 100000) (hr' : Rep s' r') (ht' : s'.top ≤ 100000) {x x' : Int} (hw : WR r r' R x x') :
    (leadI s r x = none ∧ leadI s' r' x' = none ∧ x = x') ∨ ∃ i j, R i j ∧ leadI s r x = some i ∧ leadI s' r' x' = some j ∧ (s.find x).2 = 0 ∧ (s'.find x').2 = 0 ∧ x = 2 * ((blkAt r i).ad : Int) := by
  rcases hw with ⟨e, h0⟩ | ⟨i, j, hR, e1, e2⟩
  · exact Or.inl ⟨num_lead hr h0, num_lead hr' (e ▸ h0), e⟩
  · obtain ⟨a1, a2⟩ := word_lead hr ht (h.lt hR).1
    obtain ⟨b1, b2⟩ := word_lead hr' ht' (h.lt hR).2
    exact Or.inr ⟨i, j, hR, by rw [e1]; exact a1, by rw [e2]; exact b1, by rw [e1]; exact a2, by rw [e2]; exact b2, e1⟩

/-! ### Lists of blocks, one by one -/
def Par (R : Nat → Nat → Prop) (G G' : List Nat) : Prop := G.length = G'.length ∧ ∀ (k i j : Nat), G[k]? = some i → G'[k]? = some j → R i j
theorem par_nil : Par R [] [] := ⟨rfl, fun k i j h => by simp at h⟩
theorem Par.at {G G' : List Nat} (h : Par R G G') {k i : Nat} (hk : G[k]? = some i) : ∃ j, G'[k]? = some j ∧ R i j := by
  have hl := (List.getElem?_eq_some_iff.1 hk).1
  have hl' : k < G'.length := by have := h.1; omega
  exact ⟨_, List.getElem?_eq_getElem hl', h.2 k i _ hk (List.getElem?_eq_getElem hl')⟩
theorem Par.symm {G G' : List Nat} (h : Par R G G') : Par (fun j i => R i j) G' G := ⟨h.1.symm, fun k i j hi hj => h.2 k j i hj hi⟩
theorem Par.mem {G G' : List Nat} (hI : Iso r r' R) (h : Par R G G') {i j : Nat} (hR : R i j) : i ∈ G → j ∈ G' := by
  intro hi
  obtain ⟨k, hk⟩ := List.getElem?_of_mem hi
  obtain ⟨j', hj', hR'⟩ := h.at hk
  rw [hI.fn hR hR']
  exact List.mem_of_getElem? hj'
theorem Par.mem_iff {G G' : List Nat} (hI : Iso r r' R) (h : Par R G G') {i j : Nat} (hR : R i j) : i ∈ G ↔ j ∈ G' := ⟨h.mem hI hR, fun hj => Par.mem hI.symm h.symm hR hj⟩
theorem Par.snoc {G G' : List Nat} (h : Par R G G') {i j : Nat} (hR : R i j) : Par R (G ++ [i]) (G' ++ [j]) := by
  refine ⟨by simp [h.1], fun k a b ha hb => ?_⟩
  rcases snoc_some ha with ⟨ha', _⟩ | ⟨rfl, rfl⟩
  · rcases snoc_some hb with ⟨hb', _⟩ | ⟨e, rfl⟩
    · exact h.2 k a b ha' hb'
    · have := (List.getElem?_eq_some_iff.1 ha').1
      have := h.1
      omega
  · rcases snoc_some hb with ⟨hb', hl⟩ | ⟨e, rfl⟩
    · have := h.1; omega
    · exact hR
theorem idxOf_at {G : List Nat} (hn : G.Nodup) {k i : Nat} (hk : G[k]? = some i) : G.idxOf i = k := by
  have hm := List.mem_of_getElem? hk
  have hl := List.idxOf_lt_length_iff.2 hm
  have he : G[G.idxOf i]? = some i := by rw [List.getElem?_eq_getElem hl]; simp
  exact (List.getElem?_inj hl hn).1 (he.trans hk.symm)
theorem Par.idx {G G' : List Nat} (hI : Iso r r' R) (h : Par R G G') (hn : G.Nodup) (hn' : G'.Nodup) {i j : Nat} (hR : R i j) : G.idxOf i = G'.idxOf j := by
  by_cases hm : i ∈ G
  · obtain ⟨k, hk⟩ := List.getElem?_of_mem hm
    obtain ⟨j', hj', hR'⟩ := h.at hk
    have : j' = j := hI.fn hR' hR
    subst this
    rw [idxOf_at hn hk, idxOf_at hn' hj']
  · have hm' : ¬ j ∈ G' := fun hc => hm ((h.mem_iff hI hR).2 hc)
    rw [List.idxOf_eq_length hm, List.idxOf_eq_length hm', h.1]
def WRs (r r' : RS) (R : Nat → Nat → Prop) (xs xs' : List Int) : Prop := xs.length = xs'.length ∧ ∀ (k : Nat) (x x' : Int), xs[k]? = some x → xs'[k]? = some x' → WR r r' R x x'
theorem WRs.tail {x x' : Int} {xs xs' : List Int} (h : WRs r r' R (x :: xs) (x' :: xs')) : WR r r' R x x' ∧ WRs r r' R xs xs' :=
  ⟨h.2 0 x x' rfl rfl, by have := h.1; simpa using this, fun k a b ha hb => h.2 (k + 1) a b (by simpa using ha) (by simpa using hb)⟩

theorem words_wrs (hI : Iso r r' R) {i j : Nat} (hR : R i j) : WRs r r' R (wordsOf (blkAt r i)) (wordsOf (blkAt r' j)) := by
  have h1 := hI.tag hR
  unfold wordsOf
  rw [if_neg h1.2, if_neg (by rw [← h1.1]; exact h1.2)]
  refine ⟨hI.len hR, fun k x x' hx hx' => ?_⟩
  have hl := (List.getElem?_eq_some_iff.1 hx).1
  have := hI.fld hR k hl
  rw [List.getD_eq_getElem?_getD, List.getD_eq_getElem?_getD, hx, hx'] at this
  exact this
/-- Blocks that are one, one by one, take as many cells. -/
theorem par_len (hI : Iso r r' R) {G G' : List Nat} (h : Par R G G') : lenG r G = lenG r' G' := by
  unfold lenG
  refine lenB_congr _ _ ?_
  rw [List.map_map, List.map_map]
  refine List.ext_getElem? (fun k => ?_)
  rw [List.getElem?_map, List.getElem?_map]
  cases e : G[k]? with
  | none =>
    have : G'[k]? = none := by rw [List.getElem?_eq_none_iff] at e ⊢; have := h.1; omega
    rw [this]; rfl
  | some i =>
    obtain ⟨j, hj, hR⟩ := h.at e
    rw [hj]
    show some (blkAt r i).F.length = some (blkAt r' j).F.length
    rw [hI.len hR]
section
variable (hI : Iso r r' R) (hr : Rep s r) (ht : s.top ≤ 100000) (hr' : Rep s' r') (ht' : s'.top ≤ 100000)
include hI hr ht hr' ht'
theorem par_visit {G G' : List Nat} (h : Par R G G') {x x' : Int} (hw : WR r r' R x x') : Par R (visit s r G x) (visit s' r' G' x') := by
  rcases WR.lead hI hr ht hr' ht' hw with ⟨e, e', _⟩ | ⟨i, j, hR, e, e', _⟩
  · rw [visit_none e, visit_none e']; exact h
  · by_cases hm : i ∈ G
    · rw [visit_old e hm, visit_old e' ((h.mem_iff hI hR).1 hm)]; exact h
    · rw [visit_new e hm, visit_new e' (fun c => hm ((h.mem_iff hI hR).2 c))]; exact h.snoc hR
theorem par_visits : ∀ (xs xs' : List Int) {G G' : List Nat}, Par R G G' → WRs r r' R xs xs' → Par R (visits s r G xs) (visits s' r' G' xs')
  | [], [], _, _, h, _ => h
  | [], _ :: _, _, _, _, hw => by have := hw.1; simp at this
  | _ :: _, [], _, _, _, hw => by have := hw.1; simp at this
  | x :: xs, x' :: xs', _, _, h, hw => by
    rw [visits_cons, visits_cons]
    exact par_visits xs xs' (par_visit hI hr ht hr' ht' h hw.tail.1) hw.tail.2
theorem par_scans {xs xs' : List Int} (hw : WRs r r' R xs xs') : ∀ m, Par R (scans s r xs m) (scans s' r' xs' m)
  | 0 => by rw [scans_zero, scans_zero]; exact par_visits hI hr ht hr' ht' xs xs' par_nil hw
  | m + 1 => by
    have ih := par_scans hw m
    rw [scans_succ, scans_succ]
    unfold scan1
    cases e : (scans s r xs m)[m]? with
    | none =>
      have : (scans s' r' xs' m)[m]? = none := by rw [List.getElem?_eq_none_iff] at e ⊢; have := ih.1; omega
      rw [this]; exact ih
    | some i =>
      obtain ⟨j, hj, hR⟩ := ih.at e
      rw [hj]
      exact par_visits hI hr ht hr' ht' _ _ ih (words_wrs hI hR)
/-- What is in reach of words that tell the same is met in one order. -/
theorem par_reach {xs xs' : List Int} (hw : WRs r r' R xs xs') : Par R (reachG s r xs) (reachG s' r' xs') := by
  have e : reachG s r xs = scans s r xs (r.L.length + r'.L.length) := reach_end hr xs _ (by have := (goodG_len (scans_good hr xs (r.L.length + r'.L.length))).2; omega)
  have e' : reachG s' r' xs' = scans s' r' xs' (r.L.length + r'.L.length) := reach_end hr' xs' _ (by have := (goodG_len (scans_good hr' xs' (r.L.length + r'.L.length))).2; omega)
  rw [e, e']
  exact par_scans hI hr ht hr' ht' hw _
theorem par_node {G G' : List Nat} (h : Par R G G') (hn : G.Nodup) (hn' : G'.Nodup) {x x' : Int} (hw : WR r r' R x x') : gNode s r G x = gNode s' r' G' x' := by
  rcases WR.lead hI hr ht hr' ht' hw with ⟨e, e', ex⟩ | ⟨i, j, hR, e, e', d, d', _⟩
  · rw [gNode_none e, gNode_none e', ex]
  · rw [gNode_some e, gNode_some e', h.idx hI hn hn' hR, d, d']
end

/-! ### What leaves it so -/
theorem WR.mono {R2 : Nat → Nat → Prop} {r2 r2' : RS} {x x' : Int} (h : WR r r' R x x') (hR : ∀ i j, R i j → R2 i j ∧ (blkAt r2 i).ad = (blkAt r i).ad ∧ (blkAt r2' j).ad = (blkAt r' j).ad) : WR r2 r2' R2 x x' := by
  rcases h with h | ⟨i, j, h1, e1, e2⟩
  · exact Or.inl h
  · obtain ⟨a, b, c⟩ := hR i j h1
    exact Or.inr ⟨i, j, a, by rw [b]; exact e1, by rw [c]; exact e2⟩
/-- Which blocks are one behind a collection of the first arena. -/
def collRel (G : List Nat) (R : Nat → Nat → Prop) (k j : Nat) : Prop := ∃ i, G[k]? = some i ∧ R i j
theorem coll_at (s : St) (r : RS) (xs : List Int) {k : Nat} (hk : k < (reachG s r xs).length) : blkAt (collR s r xs) k = newB s r (otherB r) (reachG s r xs) k := blkAt_of (newB_at (s := s) (r := r) (xs := xs) k hk)
/-- A word that may be seen tells the same behind the collection. -/
theorem coll_wr (hI : Iso r r' R) (hr : Rep s r) (ht : s.top ≤ 100000) {xs : List Int} {x x' : Int} (hw : WR r r' R x x') (hs : ∀ i, leadI s r x = some i → i ∈ reachG s r xs) : WR (collR s r xs) r' (collRel (reachG s r xs) R) (collW s r xs x) x' := by
  rcases hw with ⟨e, h0⟩ | ⟨i, j, hR, e1, e2⟩
  · refine Or.inl ⟨?_, ?_⟩
    · show newW s r _ _ x = x'
      rw [newW_none (num_lead hr h0)]; exact e
    · show addrW (newW s r _ _ x) = 0
      rw [newW_none (num_lead hr h0)]; exact h0
  · obtain ⟨hl, hd⟩ := word_lead hr ht (hI.lt hR).1
    rw [← e1] at hl hd
    have hm := hs i hl
    have hk := List.idxOf_lt_length_iff.2 hm
    refine Or.inr ⟨(reachG s r xs).idxOf i, j, ⟨i, ?_, hR⟩, ?_, e2⟩
    · rw [List.getElem?_eq_getElem hk]; simp
    · show newW s r (otherB r) (reachG s r xs) x = _
      rw [newW_some hl, hd, coll_at s r xs hk]
      show _ = 2 * ((placeG r (otherB r) (reachG s r xs) ((reachG s r xs).idxOf i) : Nat) : Int)
      omega
theorem iso_coll (hI : Iso r r' R) (hr : Rep s r) (ht : s.top ≤ 100000) (xs : List Int) : Iso (collR s r xs) r' (collRel (reachG s r xs) R) where
  fn := by
    rintro k j j' ⟨i, hi, h1⟩ ⟨i', hi', h2⟩
    rw [hi] at hi'
    cases hi'
    exact hI.fn h1 h2
  inj := by
    rintro k k' j ⟨i, hi, h1⟩ ⟨i', hi', h2⟩
    have := hI.inj h1 h2
    subst this
    exact (List.getElem?_inj (List.getElem?_eq_some_iff.1 hi).1 (reach_good hr xs).1).1 (hi.trans hi'.symm)
  lt := by
    rintro k j ⟨i, hi, h1⟩
    exact ⟨by rw [collR_len]; exact (List.getElem?_eq_some_iff.1 hi).1, (hI.lt h1).2⟩
  tag := by
    rintro k j ⟨i, hi, h1⟩
    have hg : (reachG s r xs).getD k 0 = i := by rw [List.getD_eq_getElem?_getD, hi]; rfl
    rw [coll_at s r xs (List.getElem?_eq_some_iff.1 hi).1]
    show (blkAt r ((reachG s r xs).getD k 0)).tag = _ ∧ (blkAt r ((reachG s r xs).getD k 0)).tag ≠ 202
    rw [hg]; exact hI.tag h1
  len := by
    rintro k j ⟨i, hi, h1⟩
    have hg : (reachG s r xs).getD k 0 = i := by rw [List.getD_eq_getElem?_getD, hi]; rfl
    rw [coll_at s r xs (List.getElem?_eq_some_iff.1 hi).1, newB_len, hg]
    exact hI.len h1
  fld := by
    rintro k j ⟨i, hi, h1⟩ q hq
    have hg : (reachG s r xs).getD k 0 = i := by rw [List.getD_eq_getElem?_getD, hi]; rfl
    have hk := (List.getElem?_eq_some_iff.1 hi).1
    rw [coll_at s r xs hk] at hq ⊢
    rw [newB_len, hg] at hq
    have hF : (newB s r (otherB r) (reachG s r xs) k).F = (blkAt r i).F.map (newW s r (otherB r) (reachG s r xs)) := by
      unfold newB
      show (if (blkAt r ((reachG s r xs).getD k 0)).tag = 202 then _ else _) = _
      rw [hg, if_neg (hI.tag h1).2]
    have e : (newB s r (otherB r) (reachG s r xs) k).F.getD q 0 = collW s r xs ((blkAt r i).F.getD q 0) := by
      rw [hF, List.getD_eq_getElem?_getD, List.getD_eq_getElem?_getD, List.getElem?_map, List.getElem?_eq_getElem hq]; rfl
    rw [e]
    refine coll_wr hI hr ht (hI.fld h1 q hq) (fun i2 hl => reach_field hr hi ?_ hl)
    unfold wordsOf
    rw [if_neg (hI.tag h1).2, List.getD_eq_getElem?_getD, List.getElem?_eq_getElem hq]
    exact List.getElem_mem hq
/-- Which blocks are one behind a new block in each. -/
def newRel (n n' : Nat) (R : Nat → Nat → Prop) (i j : Nat) : Prop := R i j ∨ (i = n ∧ j = n')
theorem blkAt_old {r : RS} {s : St} {t z : Int} {i : Nat} (hi : i < r.L.length) : blkAt (r.alloc s t z) i = blkAt r i := by
  unfold blkAt RS.alloc
  rw [List.getD_eq_getElem?_getD, List.getD_eq_getElem?_getD, List.getElem?_append_left hi]
theorem blkAt_new {r : RS} {s : St} {t z : Int} : blkAt (r.alloc s t z) r.L.length = ⟨s.top + 1, t, List.replicate z.toNat 1⟩ := by
  unfold blkAt RS.alloc
  rw [List.getD_eq_getElem?_getD, List.getElem?_append_right (Nat.le_refl _), Nat.sub_self]; rfl
theorem alloc_wr (hI : Iso r r' R) {t z : Int} {x x' : Int} (h : WR r r' R x x') : WR (r.alloc s t z) (r'.alloc s' t z) (newRel r.L.length r'.L.length R) x x' :=
  h.mono (fun i j hR => ⟨Or.inl hR, by rw [blkAt_old (hI.lt hR).1], by rw [blkAt_old (hI.lt hR).2]⟩)
theorem alloc_word {t z : Int} : WR (r.alloc s t z) (r'.alloc s' t z) (newRel r.L.length r'.L.length R) (2 * ((s.top : Int) + 1)) (2 * ((s'.top : Int) + 1)) :=
  Or.inr ⟨r.L.length, r'.L.length, Or.inr ⟨rfl, rfl⟩, by rw [blkAt_new]; show _ = 2 * ((s.top + 1 : Nat) : Int); omega, by rw [blkAt_new]; show _ = 2 * ((s'.top + 1 : Nat) : Int); omega⟩
theorem iso_alloc (hI : Iso r r' R) {t z : Int} (ht : t ≠ 202) : Iso (r.alloc s t z) (r'.alloc s' t z) (newRel r.L.length r'.L.length R) where
  fn := by
    rintro i j j' (h1 | ⟨rfl, rfl⟩) (h2 | ⟨e, rfl⟩)
    · exact hI.fn h1 h2
    · have := (hI.lt h1).1; omega
    · have := (hI.lt h2).1; omega
    · rfl
  inj := by
    rintro i i' j (h1 | ⟨rfl, rfl⟩) (h2 | ⟨rfl, e⟩)
    · exact hI.inj h1 h2
    · have := (hI.lt h1).2; omega
    · have := (hI.lt h2).2; omega
    · rfl
  lt := by
    have e1 : (r.alloc s t z).L.length = r.L.length + 1 := by unfold RS.alloc; simp
    have e2 : (r'.alloc s' t z).L.length = r'.L.length + 1 := by unfold RS.alloc; simp
    rintro i j (h1 | ⟨rfl, rfl⟩)
    · have := hI.lt h1; omega
    · omega
  tag := by
    rintro i j (h1 | ⟨rfl, rfl⟩)
    · rw [blkAt_old (hI.lt h1).1, blkAt_old (hI.lt h1).2]; exact hI.tag h1
    · rw [blkAt_new, blkAt_new]; exact ⟨rfl, ht⟩
  len := by
    rintro i j (h1 | ⟨rfl, rfl⟩)
    · rw [blkAt_old (hI.lt h1).1, blkAt_old (hI.lt h1).2]; exact hI.len h1
    · rw [blkAt_new, blkAt_new]
  fld := by
    rintro i j (h1 | ⟨rfl, rfl⟩) k hk
    · rw [blkAt_old (hI.lt h1).1] at hk ⊢
      rw [blkAt_old (hI.lt h1).2]
      exact alloc_wr hI (hI.fld h1 k hk)
    · rw [blkAt_new] at hk ⊢
      rw [blkAt_new]
      have hk' : k < z.toNat := by simpa using hk
      refine Or.inl ⟨rfl, ?_⟩
      show addrW ((List.replicate z.toNat (1 : Int)).getD k 0) = 0
      rw [List.getD_eq_getElem?_getD, List.getElem?_replicate, if_pos hk']
      decide
theorem blkAt_put {r : RS} {k i j : Nat} {b : Blk} {v : Int} (hk : k < r.L.length) : blkAt (r.put k b i v) j = if j = k then ⟨b.ad, b.tag, b.F.set i v⟩ else blkAt r j := by
  unfold blkAt RS.put
  rw [List.getD_eq_getElem?_getD, List.getD_eq_getElem?_getD]
  by_cases e : j = k
  · subst e; rw [if_pos rfl, List.getElem?_set_self hk]; rfl
  · rw [if_neg e, List.getElem?_set_ne (fun c => e c.symm)]
theorem put_ad {r : RS} {k i j : Nat} {v : Int} (hk : k < r.L.length) : (blkAt (r.put k (blkAt r k) i v) j).ad = (blkAt r j).ad ∧ (blkAt (r.put k (blkAt r k) i v) j).tag = (blkAt r j).tag ∧ (blkAt (r.put k (blkAt r k) i v) j).F.length = (blkAt r j).F.length := by
  rw [blkAt_put hk]
  by_cases e : j = k
  · subst e; rw [if_pos rfl]; exact ⟨rfl, rfl, by simp⟩
  · rw [if_neg e]; exact ⟨rfl, rfl, rfl⟩
theorem put_wr (hI : Iso r r' R) {k k' i : Nat} (hR : R k k') {v v' x x' : Int} (h : WR r r' R x x') : WR (r.put k (blkAt r k) i v) (r'.put k' (blkAt r' k') i v') R x x' :=
  h.mono (fun a b hab => ⟨hab, (put_ad (hI.lt hR).1).1, (put_ad (hI.lt hR).2).1⟩)
/-- A field of blocks that are one is written. -/
theorem iso_put (hI : Iso r r' R) {k k' i : Nat} (hR : R k k') {v v' : Int} (hv : WR r r' R v v') : Iso (r.put k (blkAt r k) i v) (r'.put k' (blkAt r' k') i v') R where
  fn := hI.fn
  inj := hI.inj
  lt := fun h => by
    have e1 : (r.put k (blkAt r k) i v).L.length = r.L.length := by unfold RS.put; simp
    have e2 : (r'.put k' (blkAt r' k') i v').L.length = r'.L.length := by unfold RS.put; simp
    rw [e1, e2]; exact hI.lt h
  tag := fun h => by
    rw [(put_ad (hI.lt hR).1).2.1, (put_ad (hI.lt hR).2).2.1]; exact hI.tag h
  len := fun h => by
    rw [(put_ad (hI.lt hR).1).2.2, (put_ad (hI.lt hR).2).2.2]; exact hI.len h
  fld := fun {a b} h q hq => by
    rw [(put_ad (hI.lt hR).1).2.2] at hq
    rw [blkAt_put (hI.lt hR).1, blkAt_put (hI.lt hR).2]
    by_cases e : a = k
    · subst e
      have eb : b = k' := hI.fn h hR
      subst eb
      rw [if_pos rfl, if_pos rfl]
      show WR _ _ R (((blkAt r a).F.set i v).getD q 0) (((blkAt r' b).F.set i v').getD q 0)
      rw [List.getD_eq_getElem?_getD, List.getD_eq_getElem?_getD]
      by_cases eq : i = q
      · subst eq
        rw [List.getElem?_set_self hq, List.getElem?_set_self (by rw [← hI.len h]; exact hq)]
        exact put_wr hI hR hv
      · rw [List.getElem?_set_ne eq, List.getElem?_set_ne eq, ← List.getD_eq_getElem?_getD, ← List.getD_eq_getElem?_getD]
        exact put_wr hI hR (hI.fld h q hq)
    · have eb : b ≠ k' := fun c => e (hI.inj h (c ▸ hR))
      rw [if_neg e, if_neg eb]
      exact put_wr hI hR (hI.fld h q hq)
end Go.Proofs.Ytjnlfnecmiklhaa
