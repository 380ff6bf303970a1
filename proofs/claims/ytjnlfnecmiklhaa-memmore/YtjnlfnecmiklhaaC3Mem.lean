/-
  The plan of a collection (which blocks move, and where to), as it lies in memory. Condition: the arena lies in memory, in one state with a list of blocks.
-/
import Derived.Test.YtjnlfnecmiklhaaL3Words
import Derived.Test.YtjnlfnecmiklhaaPlainColl
import Derived.Maps.OwnSet
import Derived.Maps.OwnOps
namespace Go.Proofs.Ytjnlfnecmiklhaa
open Go.ChangeShapes Go.WideShapes Go.ChangeAt Go.RowKit Go.Deep
set_option linter.unusedVariables false

theorem word_keyed : Maps.Keyed Try.prog 54 := Maps.int_keyed Try.underlying54
theorem word_zero (w : World) : (zeroValue 54).run Try.prog w = .ok (.int .u64 0) w := by kernel_rfl
theorem word_wf {x : Int} (h0 : 0 ≤ x) (h1 : x ≤ 18446744073709551615) : (Lit.int .u64 x).wf = true := WalkArith.wf_u64 ⟨h0, h1⟩
/-- The plan, whatever it holds: q its map's block, q + 1 its own, its row of words behind them. -/
structure MvM (w : World) (p : Pl) (ob q : Nat) (c : Int) (bl : Value) (n : Nat) (A : Nat → Int) (mn : Nat) (D : DataW Unit) : Prop where
  hm : w.heap[q + 1]? = some (.cells #[.pointer (some ⟨p.a, 0, none⟩), .int .i64 ob, .int .i64 c, bl, .map (some q)] 99 (0, 0))
  row : w.ownsRow (q + 2) 54 1 bl n ((List.range n).map fun j => .int .u64 (A j))
  map : w.ownsMap Try.prog 54 (plainElem Try.prog 54) q mn D
  pl : p.a < q ∧ p.h < q ∧ p.c < q ∧ p.b < q
/-- What a step may turn. -/
def Tk (q : Nat) (bl : Value) (k : Nat) : Prop := k = q ∨ k = q + 1 ∨ bl.ownBlock = some k
section
variable {w w' : World} {p : Pl} {ob q : Nat} {c : Int} {bl : Value} {n : Nat} {A : Nat → Int} {mn : Nat} {D : DataW Unit} {S : Nat → Prop}
theorem owns_same {w w' : World} {B : Nat} {e : TypeId} {sz : Nat} {v : Value} {n : Nat} {xs : List Value} (h : w.ownsRow B e sz v n xs) (hk : ∀ g, v.ownBlock = some g → w'.heap[g]? = w.heap[g]?) : w'.ownsRow B e sz v n xs := by
  refine ⟨h.1, ?_⟩
  rcases h.2 with h2 | ⟨g, c, cur, hv, hge, hh, rest⟩
  · exact .inl h2
  · exact .inr ⟨g, c, cur, hv, hge, (hk g (by rw [hv]; rfl)).trans hh, rest⟩
theorem owns_lt {w : World} {B : Nat} {e : TypeId} {sz : Nat} {v : Value} {n : Nat} {xs : List Value} (h : w.ownsRow B e sz v n xs) {g : Nat} (hg : v.ownBlock = some g) : g < w.heap.size ∧ B ≤ g := by
  rcases h.2 with ⟨rfl, _⟩ | ⟨g', c, cur, hv, hge, hh, rest⟩
  · cases hg
  · have e : g' = g := by rw [hv] at hg; simpa [Value.ownBlock] using hg
    subst e
    exact ⟨lt_of_some hh, hge⟩
theorem map_same (h : w.ownsMap Try.prog 54 (plainElem Try.prog 54) q mn D) (e : w'.heap[q]? = w.heap[q]?) : w'.ownsMap Try.prog 54 (plainElem Try.prog 54) q mn D := by
  obtain ⟨es, clock, hb, r⟩ := h
  exact ⟨es, clock, e.trans hb, r⟩
namespace MvM
theorem frame (h : MvM w p ob q c bl n A mn D) (k : Only S w w') (h1 : ¬ S q) (h2 : ¬ S (q + 1)) (h3 : ∀ g, bl.ownBlock = some g → ¬ S g) : MvM w' p ob q c bl n A mn D :=
  ⟨(k.block _ (lt_of_some h.hm) h2).trans h.hm, owns_same h.row (fun g hg => k.block g (owns_lt h.row hg).1 (h3 g hg)), map_same h.map (k.block _ h.map.lt h1), h.pl⟩
theorem below (h : MvM w p ob q c bl n A mn D) (k : Below w.heap.size w w') : MvM w' p ob q c bl n A mn D := h.frame (S := fun _ => False) (Only.of_below k) id id (fun _ _ => id)
theorem drewN (h : MvM w p ob q c bl n A mn D) (m : Nat) : MvM (w.drewN m) p ob q c bl n A mn D := ⟨h.hm, h.row, h.map, h.pl⟩
theorem cells (h : MvM w p ob q c bl n A mn D) : w.cell? ⟨q + 1, 0, none⟩ = some (.pointer (some ⟨p.a, 0, none⟩)) ∧ w.cell? ⟨q + 1, 1, none⟩ = some (.int .i64 ob) ∧ w.cell? ⟨q + 1, 2, none⟩ = some (.int .i64 c) ∧
    w.cell? ⟨q + 1, 3, none⟩ = some bl ∧ w.cell? ⟨q + 1, 4, none⟩ = some (.map (some q)) := by
  have := h.hm
  refine ⟨?_, ?_, ?_, ?_, ?_⟩ <;> simp [World.cell?, this]
theorem frozen (h : MvM w p ob q c bl n A mn D) (i : Nat) : w.frozen? ⟨q + 1, i, none⟩ = false := by
  simp [World.frozen?, h.hm]
theorem ws (h : MvM w p ob q c bl n A mn D) (lo : ∀ i, i < n → 0 ≤ A i) (hi : ∀ i, i < n → A i ≤ 18446744073709551615) : ∃ al cb, bl = .slice al n cb ∧ WS w al n cb A ∧ (∀ ad, al = some ad → q + 2 ≤ ad.block) := by
  obtain ⟨al, cb, e, h1, h2⟩ := own_any h.row
  refine ⟨al, cb, e, ?_, fun ad had => ?_⟩
  · cases al with
    | none => obtain ⟨rfl, rfl⟩ := h1 rfl
              exact ⟨fun _ => ⟨rfl, rfl⟩, fun i hi => absurd hi (Nat.not_lt_zero _), lo, hi⟩
    | some ad => obtain ⟨g, rfl, _, ho⟩ := h2 ad rfl
                 exact ws_own ho lo hi
  · obtain ⟨g, rfl, hg, _⟩ := h2 ad had
    exact hg
/-- A word is put into the map. -/
theorem mapped {mn' : Nat} {D' : DataW Unit} (h : MvM w p ob q c bl n A mn D) (gr : w.grownBy w' (some q)) (hm' : w'.ownsMap Try.prog 54 (plainElem Try.prog 54) q mn' D') : MvM w' p ob q c bl n A mn' D' ∧ Only (Tk q bl) w w' := by
  have o : Only (fun k => k = q) w w' := ⟨gr.os, gr.tape, gr.output, gr.size, fun k hk hs => gr.block k hk (fun e => hs (by cases e; rfl))⟩
  refine ⟨⟨(o.block _ (lt_of_some h.hm) (by omega)).trans h.hm, owns_same h.row (fun g hg => o.block g (owns_lt h.row hg).1 (by have := (owns_lt h.row hg).2; omega)), hm', h.pl⟩, o.mono (fun k _ hk => Or.inl hk)⟩
/-- A cell of the plan is written. -/
theorem hm_set (h : MvM w p ob q c bl n A mn D) (i : Nat) (v : Value) : (w.setCell ⟨q + 1, i, none⟩ v).heap[q + 1]? = some (.cells (#[.pointer (some ⟨p.a, 0, none⟩), .int .i64 ob, .int .i64 c, bl, .map (some q)].setIfInBounds i v) 99 (0, 0)) := by
  simp [World.setCell, Array.getElem?_modify, h.hm]
theorem counted (h : MvM w p ob q c bl n A mn D) (c' : Int) : MvM (w.setCell ⟨q + 1, 2, none⟩ (.int .i64 c')) p ob q c' bl n A mn D ∧ Only (Tk q bl) w (w.setCell ⟨q + 1, 2, none⟩ (.int .i64 c')) := by
  have o : Only (fun k => k = q + 1) w (w.setCell ⟨q + 1, 2, none⟩ (.int .i64 c')) := (Only.refl (fun k => k = q + 1) w).setCell (a := ⟨q + 1, 2, none⟩) (Or.inr rfl) _
  refine ⟨⟨hm_set h 2 _, owns_same h.row (fun g hg => o.block g (owns_lt h.row hg).1 (by have := (owns_lt h.row hg).2; omega)), map_same h.map (o.block _ h.map.lt (by omega)), h.pl⟩, o.mono (fun k _ hk => Or.inr (Or.inl hk))⟩
/-- A block is put behind the others. -/
theorem appended {o : Obj} {g cap : Nat} {u : Int} {A' : Nat → Int} (h : MvM w p ob q c bl n A mn D) (gr : (w.alloc o).grownBy w' bl.ownBlock) (ho : w'.ownsRow (q + 2) 54 1 (.slice (some ⟨g, 0, none⟩) (n + 1) cap) (n + 1) (((List.range n).map fun j => .int .u64 (A j)) ++ [.int .u64 u]))
    (hat : bl.ownBlock = some g ∨ g = (w.alloc o).heap.size) (hA : ∀ j, j < n → A' j = A j) (hu : A' n = u) :
    MvM (w'.setCell ⟨q + 1, 3, none⟩ (.slice (some ⟨g, 0, none⟩) (n + 1) cap)) p ob q c (.slice (some ⟨g, 0, none⟩) (n + 1) cap) (n + 1) A' mn D ∧ Only (Tk q bl) w (w'.setCell ⟨q + 1, 3, none⟩ (.slice (some ⟨g, 0, none⟩) (n + 1) cap)) := by
  have o1 : Only (fun k => bl.ownBlock = some k) w w' := ⟨gr.os, gr.tape, gr.output, Nat.le_trans (by rw [nblk_alloc]; omega) gr.size, fun k hk hs => (gr.block k (by rw [nblk_alloc]; omega) (fun e => hs e.symm)).trans (blk_alloc_lt _ _ _ hk)⟩
  have n1 : ∀ k, bl.ownBlock = some k → q + 2 ≤ k := fun k hk => (owns_lt h.row hk).2
  have hm' : w'.heap[q + 1]? = _ := (o1.block _ (lt_of_some h.hm) (fun e => by have := n1 _ e; omega)).trans h.hm
  have o2 : Only (fun k => k = q + 1) w' (w'.setCell ⟨q + 1, 3, none⟩ (.slice (some ⟨g, 0, none⟩) (n + 1) cap)) := (Only.refl (fun k => k = q + 1) w').setCell (a := ⟨q + 1, 3, none⟩) (Or.inr rfl) _
  have hg : q + 2 ≤ g := (owns_lt ho (g := g) rfl).2
  have e1 : ((List.range (n + 1)).map fun j => Value.int .u64 (A' j)) = ((List.range n).map fun j => .int .u64 (A j)) ++ [.int .u64 u] := by
    rw [List.range_succ, List.map_append, List.map_singleton, hu]
    congr 1
    refine List.map_congr_left (fun j hj => ?_)
    rw [hA j (List.mem_range.1 hj)]
  refine ⟨⟨?_, ?_, ?_, h.pl⟩, ?_⟩
  · simp [World.setCell, Array.getElem?_modify, hm']
  · rw [e1]
    exact owns_same ho (fun g' hg' => o2.block g' (owns_lt ho hg').1 (by have := (owns_lt ho hg').2; omega))
  · exact map_same h.map ((o2.block _ (Nat.lt_of_lt_of_le h.map.lt o1.size) (by omega)).trans (o1.block _ h.map.lt (fun e => by have := n1 _ e; omega)))
  · exact (o1.mono (fun k _ hk => Or.inr (Or.inr hk))).trans (Only.mono o2 (fun k hk he => Or.inr (Or.inl he)))
end MvM
end
/-- The key of a block. -/
def keyI (r : RS) (i : Nat) : Lit := .int .u64 (2 * ((blkAt r i).ad : Int))
def adW (r : RS) (G : List Nat) (j : Nat) : Int := 2 * ((blkAt r (G.getD j 0)).ad : Int)
/-- The plan's map: which blocks have a place, and which. -/
def PlanD (r : RS) (G : List Nat) (D : DataW Unit) : Prop := (∀ i, i < r.L.length → Maps.has D (keyI r i) = decide (i ∈ G)) ∧
  ∀ i, i ∈ G → D.atKey (keyI r i) (.lit (.int .u64 0)) = .lit (.int .u64 (2 * ((placeG r (otherB r) G (G.idxOf i) : Nat) : Int)))
def Mv (w : World) (p : Pl) (r : RS) (q : Nat) (bl : Value) (G : List Nat) (D : DataW Unit) : Prop :=
  MvM w p (otherB r) q (lenG r G : Nat) bl G.length (adW r G) G.length D ∧ PlanD r G D
theorem plan_nil (r : RS) : PlanD r [] (.map []) := ⟨fun i _ => rfl, fun i hi => by cases hi⟩
theorem key_inj {s : St} {r : RS} (hr : Rep s r) {i j : Nat} (hi : i < r.L.length) (hj : j < r.L.length) (e : keyI r i = keyI r j) : i = j := by
  unfold keyI at e
  have e2 : (blkAt r i).ad = (blkAt r j).ad := by
    have := (Lit.int.inj e).2
    omega
  have h1 : r.L[i]? = some (blkAt r i) := by unfold blkAt; rw [List.getD_eq_getElem?_getD, List.getElem?_eq_getElem hi]; rfl
  have h2 : r.L[j]? = some (blkAt r j) := by unfold blkAt; rw [List.getD_eq_getElem?_getD, List.getElem?_eq_getElem hj]; rfl
  exact hr.inj h1 h2 e2
theorem plan_put {s : St} {r : RS} (hr : Rep s r) {G : List Nat} {D : DataW Unit} (h : PlanD r G D) (hD : Maps.IsMap D) (hG : GoodG r G) {i : Nat} (hi : i < r.L.length) (hn : ¬ i ∈ G) {u : Int} (hu : u = 2 * ((otherB r + lenG r G + 1 : Nat) : Int)) :
    PlanD r (G ++ [i]) (D.put (keyI r i) (.lit (.int .u64 u))) := by
  refine ⟨fun j hj => ?_, fun j hj => ?_⟩
  · by_cases e : j = i
    · subst e
      rw [Maps.has_put_same hD (show WideAt.IsKeyLit (keyI r j) from trivial)]
      simp
    · rw [Maps.has_put_other (fun e2 => e (key_inj hr hj hi e2)), h.1 j hj]
      simp [e]
  · by_cases e : j = i
    · subst e
      rw [Maps.atKey_put_same hD (show WideAt.IsKeyLit (keyI r j) from trivial), hu]
      have : (G ++ [j]).idxOf j = G.length := by
        rw [List.idxOf_append, if_neg hn, List.idxOf_cons_self]; omega
      rw [this]
      unfold placeG
      rw [List.take_left]
    · have hjG : j ∈ G := by
        rw [List.mem_append] at hj
        rcases hj with hj | hj
        · exact hj
        · simp at hj; exact absurd hj e
      rw [Maps.atKey_put_other (fun e2 => e (key_inj hr (hG.2 j hjG) hi e2)), h.2 j hjG]
      rw [List.idxOf_append, if_pos hjG, placeG_ext]
      exact Nat.le_of_lt (List.idxOf_lt_length_of_mem hjG)
end Go.Proofs.Ytjnlfnecmiklhaa
