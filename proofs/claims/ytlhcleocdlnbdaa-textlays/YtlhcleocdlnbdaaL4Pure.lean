/-
  Layer 4: blocks that may lie are some arena's; so are those behind a collection, a block that is laid, a field that is written. No program is named here.
-/
import Derived.Test.YtlhcleocdlnbdaaLibD
import Derived.Test.YtlhcleocdlnbdaaLibC
namespace Go.Proofs.Ytlhcleocdlnbdaa
open Go.RowKit Go.Deep
set_option linter.unusedVariables false
set_option maxHeartbeats 1000000

/-- Blocks that may lie. -/
structure Valid (r : RS) : Prop where
  wh : r.which ≤ 1
  n1 : 2 ≤ r.n
  n2 : r.n ≤ 32768
  len : lenB r.L ≤ r.n
  ad : ∀ (i : Nat) (b : Blk), r.L[i]? = some b → b.ad = r.n * r.which + lenB (r.L.take i) + 1
  tag : ∀ (i : Nat) (b : Blk), r.L[i]? = some b → 0 ≤ b.tag ∧ b.tag ≤ 202 ∧ b.F.length ≤ 4096
  may : ∀ (i : Nat) (b : Blk), r.L[i]? = some b → St.mayLie b.tag = true
  rng : ∀ (i : Nat) (b : Blk), r.L[i]? = some b → ∀ (j : Nat) (x : Int), b.F[j]? = some x → R64 x
theorem headW_rng (t z : Int) : R64 (headW t z) := by
  unfold headW
  split
  · exact ⟨by decide, by decide⟩
  · exact ⟨intW_lo _, intW_hi _⟩
/-- Their cells, in a row. -/
def flat : List Blk → List Int
  | [] => []
  | b :: l => headW b.tag b.F.length :: (b.F ++ flat l)
theorem flat_head : ∀ {l : List Blk} {i : Nat} {b : Blk}, l[i]? = some b → (flat l)[lenB (l.take i)]? = some (headW b.tag b.F.length)
  | [], i, b, h => by simp at h
  | c :: l, 0, b, h => by simp at h; subst h; simp [flat, lenB]
  | c :: l, i + 1, b, h => by
    have ih := flat_head (l := l) (i := i) (b := b) (by simpa using h)
    have e : lenB ((c :: l).take (i + 1)) = (c.F.length + lenB (l.take i)) + 1 := by simp [lenB]; omega
    rw [e]
    show (headW c.tag c.F.length :: (c.F ++ flat l))[c.F.length + lenB (l.take i) + 1]? = _
    rw [List.getElem?_cons_succ, List.getElem?_append_right (by omega), show c.F.length + lenB (l.take i) - c.F.length = lenB (l.take i) from by omega]
    exact ih
theorem flat_fld : ∀ {l : List Blk} {i : Nat} {b : Blk} {j : Nat} {x : Int}, l[i]? = some b → b.F[j]? = some x → (flat l)[lenB (l.take i) + 1 + j]? = some x
  | [], i, b, j, x, h, _ => by simp at h
  | c :: l, 0, b, j, x, h, hx => by
    simp at h; subst h
    have hj := (List.getElem?_eq_some_iff.1 hx).1
    have e : lenB ((c :: l).take 0) + 1 + j = j + 1 := by simp [lenB]; omega
    rw [e]
    show (headW c.tag c.F.length :: (c.F ++ flat l))[j + 1]? = _
    rw [List.getElem?_cons_succ, List.getElem?_append_left hj]; exact hx
  | c :: l, i + 1, b, j, x, h, hx => by
    have ih := flat_fld (l := l) (i := i) (b := b) (j := j) (x := x) (by simpa using h) hx
    have e : lenB ((c :: l).take (i + 1)) + 1 + j = (c.F.length + (lenB (l.take i) + 1 + j)) + 1 := by simp [lenB]; omega
    rw [e]
    show (headW c.tag c.F.length :: (c.F ++ flat l))[c.F.length + (lenB (l.take i) + 1 + j) + 1]? = _
    rw [List.getElem?_cons_succ, List.getElem?_append_right (by omega), show c.F.length + (lenB (l.take i) + 1 + j) - c.F.length = lenB (l.take i) + 1 + j from by omega]
    exact ih
theorem flat_rng : ∀ {l : List Blk}, (∀ b, b ∈ l → 0 ≤ b.tag ∧ b.tag ≤ 202 ∧ b.F.length ≤ 4096 ∧ ∀ x, x ∈ b.F → R64 x) → ∀ x, x ∈ flat l → R64 x
  | [], _, x, h => by simp [flat] at h
  | b :: l, hb, x, h => by
    obtain ⟨t1, t2, t3, t4⟩ := hb b (List.mem_cons_self)
    simp only [flat, List.mem_cons, List.mem_append] at h
    rcases h with e | e | e
    · subst e; exact headW_rng _ _
    · exact t4 x e
    · exact flat_rng (fun c hc => hb c (List.mem_cons_of_mem _ hc)) x e
open Classical in
theorem valid_good {r : RS} (h : Valid r) : ∃ s, Good s r := by
  have hr : ∀ x, x ∈ flat r.L → R64 x := flat_rng (fun b hb => by
    obtain ⟨i, hi⟩ := List.getElem?_of_mem hb
    obtain ⟨t1, t2, t3⟩ := h.tag i b hi
    refine ⟨t1, t2, t3, fun x hx => ?_⟩
    obtain ⟨j, hj⟩ := List.getElem?_of_mem hx
    exact h.rng i b hi j x hj)
  have hg : ∀ k, R64 ((flat r.L).getD k 0) := fun k => by
    rw [List.getD_eq_getElem?_getD]
    cases e : (flat r.L)[k]? with
    | none => exact ⟨by decide, by decide⟩
    | some x => exact hr x (List.mem_of_getElem? e)
  refine ⟨⟨r.n, r.n * r.which, r.n * r.which + lenB r.L, fun c => (flat r.L).getD (c - r.n * r.which) 0, fun j => decide (∃ (i : Nat) (b : Blk), r.L[i]? = some b ∧ b.ad = r.n * r.which + 1 + j)⟩, ⟨rfl, h.wh, rfl, rfl, h.ad, fun i b hb => ?_, fun i b hb j x hx => ?_, h.tag, fun j => ?_, h.may⟩, fun i => (hg _).1, fun i => (hg _).2, h.n1, h.n2, ?_⟩
  · show (flat r.L).getD (b.ad - 1 - r.n * r.which) 0 = _
    have e := h.ad i b hb
    rw [show b.ad - 1 - r.n * r.which = lenB (r.L.take i) from by omega, List.getD_eq_getElem?_getD, flat_head hb]; rfl
  · show (flat r.L).getD (b.ad + j - r.n * r.which) 0 = _
    have e := h.ad i b hb
    rw [show b.ad + j - r.n * r.which = lenB (r.L.take i) + 1 + j from by omega, List.getD_eq_getElem?_getD, flat_fld hb hx]; rfl
  · show decide _ = true ↔ _
    rw [decide_eq_true_eq]
  · show r.n * r.which + lenB r.L ≤ r.n * r.which + r.n
    have := h.len; omega
theorem good_valid {s : St} {r : RS} (h : Good s r) : Valid r := by
  have e1 := h.rep.n
  have e2 := h.rep.base
  have e3 := h.rep.top
  have n1 := h.n1
  have n2 := h.n2
  have t2 := h.t2
  refine ⟨h.rep.wh, by omega, by omega, by omega, fun i b hb => by rw [← e2]; exact h.rep.ad i b hb, h.rep.tag, h.rep.may, fun i b hb j x hx => ?_⟩
  rw [← h.rep.fld i b hb j x hx]
  exact ⟨h.lo _, h.hi _⟩
/-- Such a state lies in some memory. -/
theorem good_ar {s : St} {r : RS} (h : Good s r) (w : World) : ∃ w0, Ar w0 ⟨0, 1, 2, 3⟩ s := by
  refine ⟨{ w with heap := #[.cells #[.pointer (some ⟨1, 0, none⟩), .slice (some ⟨3, 0, none⟩) s.n s.n] 94 (0, 0), .cells #[.slice (some ⟨2, 0, none⟩) (2 * s.n) (2 * s.n), .int .i64 s.n, .int .i64 s.base, .int .i64 s.top] 96 (0, 0), .cells (Array.ofFn (n := 2 * s.n) fun i => .int .u64 (s.C i)) 29 (0, 0), .cells (Array.ofFn (n := s.n) fun i => .bool (s.H i)) 4 (0, 0)] }, rfl, rfl, ?_, ?_, h.n1, h.n2, ?_, h.t1, h.t2, h.lo, h.hi⟩
  · exact ⟨_, rfl, by simp, fun i hi => by simp [hi]⟩
  · exact ⟨_, rfl, by simp, fun i hi => by simp [hi]⟩
  · have e1 := h.rep.n
    have e2 := h.rep.base
    have e3 := h.rep.wh
    rcases Nat.le_one_iff_eq_zero_or_eq_one.1 e3 with e | e
    · left; rw [e2, e]; rfl
    · right; rw [e2, e, e1]; simp
theorem good_alloc {s : St} {r : RS} (h : Good s r) (t z : Int) : Good (s.alloc t z) (r.after s t z) := by
  have hr := rep_after h.rep h.t1 t z
  by_cases g : s.allocE t z = 0
  · have g0 := g
    unfold St.allocE at g
    split at g
    · omega
    · rename_i g1
      split at g
      · omega
      · rename_i g2
        split at g
        · omega
        · rename_i g3
          have ht : 0 ≤ t ∧ t ≤ 202 := by
            unfold St.mayLie at g1
            simp at g1
            omega
          have hw : 0 ≤ headW t z ∧ headW t z ≤ 18446744073709551615 := headW_rng t z
          refine ⟨hr, fun i => ?_, fun i => ?_, by rw [show (s.alloc t z).n = s.n from by unfold St.alloc; rw [if_pos g0]]; exact h.n1, by rw [show (s.alloc t z).n = s.n from by unfold St.alloc; rw [if_pos g0]]; exact h.n2, ?_⟩
          · unfold St.alloc; rw [if_pos g0]; simp only
            split
            · exact hw.1
            · split
              · decide
              · exact h.lo i
          · unfold St.alloc; rw [if_pos g0]; simp only
            split
            · exact hw.2
            · split
              · decide
              · exact h.hi i
          · unfold St.alloc; rw [if_pos g0]; simp only
            omega
  · have e : s.alloc t z = s := by unfold St.alloc; rw [if_neg g]
    rw [e] at hr ⊢
    exact ⟨hr, h.lo, h.hi, h.n1, h.n2, h.t2⟩
theorem good_put {s : St} {r : RS} (h : Good s r) (x i v : Int) (hv : R64 v) : Good (s.put x i v) (r.setR x i v) := by
  have hr := put_rep h x i v
  by_cases g : s.fieldE x i = 0
  · refine ⟨hr, fun k => ?_, fun k => ?_, ?_, ?_, ?_⟩ <;> unfold St.put <;> rw [if_pos g] <;> simp only
    · split
      · exact hv.1
      · exact h.lo k
    · split
      · exact hv.2
      · exact h.hi k
    · exact h.n1
    · exact h.n2
    · exact h.t2
  · have e : s.put x i v = s := by unfold St.put; rw [if_neg g]
    rw [e] at hr ⊢
    exact ⟨hr, h.lo, h.hi, h.n1, h.n2, h.t2⟩
theorem good_coll {s : St} {r : RS} (h : Good s r) (w : World) {xs : List Int} : ∃ s', Good s' (collR s r xs) := by
  obtain ⟨w0, ha⟩ := good_ar h w
  have hv := good_valid h
  have hG := reach_good h.rep xs
  have hl := goodG_len hG
  have key : ∀ (i : Nat) (b : Blk), (collR s r xs).L[i]? = some b → ∃ c, r.L[(reachG s r xs).getD i 0]? = some c ∧ blkAt r ((reachG s r xs).getD i 0) = c ∧ b = newB s r (otherB r) (reachG s r xs) i := fun i b hb => by
    have hi : i < (reachG s r xs).length := by rw [← collR_len]; exact (List.getElem?_eq_some_iff.1 hb).1
    have e := newB_at (s := s) (r := r) (xs := xs) i hi
    rw [hb] at e
    have hm : (reachG s r xs).getD i 0 < r.L.length := hG.2 _ (by rw [List.getD_eq_getElem?_getD, List.getElem?_eq_getElem hi]; exact List.getElem_mem hi)
    exact ⟨_, blkAt_some hm, rfl, by simpa using e⟩
  have flen : ∀ (i : Nat), (newB s r (otherB r) (reachG s r xs) i).F.length = (blkAt r ((reachG s r xs).getD i 0)).F.length := fun i => by
    unfold newB; simp only; split
    · rfl
    · rw [List.length_map]
  refine valid_good ⟨by show 1 - r.which ≤ 1; omega, hv.n1, hv.n2, ?_, fun i b hb => ?_, fun i b hb => ?_, fun i b hb => ?_, fun i b hb j x hx => ?_⟩
  · rw [collR_lenB]
    have := hv.len
    show _ ≤ r.n
    omega
  · obtain ⟨c, hc, hc2, rfl⟩ := key i b hb
    rw [coll_take]
    rfl
  · obtain ⟨c, hc, hc2, rfl⟩ := key i b hb
    rw [flen, hc2]
    have := hv.tag _ _ hc
    rw [← hc2] at this ⊢
    exact this
  · obtain ⟨c, hc, hc2, rfl⟩ := key i b hb
    have := hv.may _ _ hc
    rw [← hc2] at this
    exact this
  · obtain ⟨c, hc, hc2, rfl⟩ := key i b hb
    have hr := hv.rng _ _ hc
    have hx' : (if (blkAt r ((reachG s r xs).getD i 0)).tag = 202 then (blkAt r ((reachG s r xs).getD i 0)).F else (blkAt r ((reachG s r xs).getD i 0)).F.map (newW s r (otherB r) (reachG s r xs)))[j]? = some x := hx
    rw [hc2] at hx'
    split at hx'
    · exact hr j x hx'
    · rw [List.getElem?_map] at hx'
      cases e : c.F[j]? with
      | none => rw [e] at hx'; simp at hx'
      | some y =>
        rw [e] at hx'
        simp at hx'
        obtain ⟨y0, y1⟩ := hr j y e
        rw [← hx']
        exact newW_rng ha h.rep hG y y0 y1
end Go.Proofs.Ytlhcleocdlnbdaa
