/-
  Several small texts in one; each tells at its head what it proves, and on what condition.
-/
import Derived.Test.YtcbgjkedmboifabLibB
import Derived.Test.YtcbgjkedmboifabLibC
import Derived.Maps.OwnSet
import Derived.Maps.OwnOps
import Derived.Deep.RegionHeld3
import Derived.Deep.CutRange
import Derived.WalkMore
import Derived.BigQuiet
import Derived.Test.YtcbgjkedmboifabLibA
import Derived.Deep.RegionLaw
import Derived.Laws.IdiomCopy

/-
  The plan of a collection (which blocks move, and where to), as it lies in memory. Condition: the arena lies in memory, in one state with a list of blocks.
-/
namespace Go.Proofs.Ytcbgjkedmboifab
open Go.ChangeShapes Go.WideShapes Go.ChangeAt Go.RowKit Go.Deep
set_option linter.unusedVariables false

theorem word_keyed : Maps.Keyed Try.prog 30 := Maps.int_keyed Try.underlying30
theorem word_zero (w : World) : (zeroValue 30).run Try.prog w = .ok (.int .u64 0) w := by kernel_rfl
theorem word_wf {x : Int} (h0 : 0 ≤ x) (h1 : x ≤ 18446744073709551615) : (Lit.int .u64 x).wf = true := WalkArith.wf_u64 ⟨h0, h1⟩
/-- The plan, whatever it holds: q its map's block, q + 1 its own, its row of words behind them. -/
structure MvM (w : World) (p : Pl) (ob q : Nat) (c : Int) (bl : Value) (n : Nat) (A : Nat → Int) (mn : Nat) (D : DataW Unit) : Prop where
  hm : w.heap[q + 1]? = some (.cells #[.pointer (some ⟨p.a, 0, none⟩), .int .i64 ob, .int .i64 c, bl, .map (some q)] 119 (0, 0))
  row : w.ownsRow (q + 2) 30 1 bl n ((List.range n).map fun j => .int .u64 (A j))
  map : w.ownsMap Try.prog 30 (plainElem Try.prog 30) q mn D
  pl : p.a < q ∧ p.h < q ∧ p.c < q ∧ p.b < q
/-- What a step may turn. -/
def Tk (q : Nat) (bl : Value) (k : Nat) : Prop := k = q ∨ k = q + 1 ∨ bl.ownBlock = some k
section
variable {w w' : World} {p : Pl} {ob q : Nat} {c : Int} {bl : Value} {n : Nat} {A : Nat → Int} {mn : Nat} {D : DataW Unit} {S : Nat → Prop}
theorem owns_same {w w' : World} {B : Nat} {e : TypeId} {sz : Nat} {v : Value} {n : Nat} {xs : List Value} (h : w.ownsRow B e sz v n xs) (hk : ∀ g, v.ownBlock = some g → w'.heap[g]? = w.heap[g]?) : w'.ownsRow B e sz v n xs := by
  refine ⟨h.1, ?_⟩
  rcases h.2 with h2 | ⟨g, c, cur, hv, hge, hh, rest⟩
  · exact .inl h2
  · exact .inr ⟨g, c, cur, hv, hge, (hk g (by rw [hv]; rfl)).trans hh, rest⟩
theorem owns_lt {w : World} {B : Nat} {e : TypeId} {sz : Nat} {v : Value} {n : Nat} {xs : List Value} (h : w.ownsRow B e sz v n xs) {g : Nat} (hg : v.ownBlock = some g) : g < w.heap.size ∧ B ≤ g := by
  rcases h.2 with ⟨rfl, _⟩ | ⟨g', c, cur, hv, hge, hh, rest⟩
  · cases hg
  · have e : g' = g := by rw [hv] at hg; simpa [Value.ownBlock] using hg
    subst e
    exact ⟨lt_of_some hh, hge⟩
theorem map_same (h : w.ownsMap Try.prog 30 (plainElem Try.prog 30) q mn D) (e : w'.heap[q]? = w.heap[q]?) : w'.ownsMap Try.prog 30 (plainElem Try.prog 30) q mn D := by
  obtain ⟨es, clock, hb, r⟩ := h
  exact ⟨es, clock, e.trans hb, r⟩
namespace MvM
theorem frame (h : MvM w p ob q c bl n A mn D) (k : Only S w w') (h1 : ¬ S q) (h2 : ¬ S (q + 1)) (h3 : ∀ g, bl.ownBlock = some g → ¬ S g) : MvM w' p ob q c bl n A mn D :=
  ⟨(k.block _ (lt_of_some h.hm) h2).trans h.hm, owns_same h.row (fun g hg => k.block g (owns_lt h.row hg).1 (h3 g hg)), map_same h.map (k.block _ h.map.lt h1), h.pl⟩
theorem below (h : MvM w p ob q c bl n A mn D) (k : Below w.heap.size w w') : MvM w' p ob q c bl n A mn D := h.frame (S := fun _ => False) (Only.of_below k) id id (fun _ _ => id)
theorem drewN (h : MvM w p ob q c bl n A mn D) (m : Nat) : MvM (w.drewN m) p ob q c bl n A mn D := ⟨h.hm, h.row, h.map, h.pl⟩
theorem cells (h : MvM w p ob q c bl n A mn D) : w.cell? ⟨q + 1, 0, none⟩ = some (.pointer (some ⟨p.a, 0, none⟩)) ∧ w.cell? ⟨q + 1, 1, none⟩ = some (.int .i64 ob) ∧ w.cell? ⟨q + 1, 2, none⟩ = some (.int .i64 c) ∧
    w.cell? ⟨q + 1, 3, none⟩ = some bl ∧ w.cell? ⟨q + 1, 4, none⟩ = some (.map (some q)) := by
  have := h.hm
  refine ⟨?_, ?_, ?_, ?_, ?_⟩ <;> simp [World.cell?, this]
theorem frozen (h : MvM w p ob q c bl n A mn D) (i : Nat) : w.frozen? ⟨q + 1, i, none⟩ = false := by
  simp [World.frozen?, h.hm]
theorem ws (h : MvM w p ob q c bl n A mn D) (lo : ∀ i, i < n → 0 ≤ A i) (hi : ∀ i, i < n → A i ≤ 18446744073709551615) : ∃ al cb, bl = .slice al n cb ∧ WS w al n cb A ∧ (∀ ad, al = some ad → q + 2 ≤ ad.block) := by
  obtain ⟨al, cb, e, h1, h2⟩ := own_any h.row
  refine ⟨al, cb, e, ?_, fun ad had => ?_⟩
  · cases al with
    | none => obtain ⟨rfl, rfl⟩ := h1 rfl
              exact ⟨fun _ => ⟨rfl, rfl⟩, fun i hi => absurd hi (Nat.not_lt_zero _), lo, hi⟩
    | some ad => obtain ⟨g, rfl, _, ho⟩ := h2 ad rfl
                 exact ws_own ho lo hi
  · obtain ⟨g, rfl, hg, _⟩ := h2 ad had
    exact hg
/-- A word is put into the map. -/
theorem mapped {mn' : Nat} {D' : DataW Unit} (h : MvM w p ob q c bl n A mn D) (gr : w.grownBy w' (some q)) (hm' : w'.ownsMap Try.prog 30 (plainElem Try.prog 30) q mn' D') : MvM w' p ob q c bl n A mn' D' ∧ Only (Tk q bl) w w' := by
  have o : Only (fun k => k = q) w w' := ⟨gr.os, gr.tape, gr.output, gr.size, fun k hk hs => gr.block k hk (fun e => hs (by cases e; rfl))⟩
  refine ⟨⟨(o.block _ (lt_of_some h.hm) (by omega)).trans h.hm, owns_same h.row (fun g hg => o.block g (owns_lt h.row hg).1 (by have := (owns_lt h.row hg).2; omega)), hm', h.pl⟩, o.mono (fun k _ hk => Or.inl hk)⟩
/-- A cell of the plan is written. -/
theorem hm_set (h : MvM w p ob q c bl n A mn D) (i : Nat) (v : Value) : (w.setCell ⟨q + 1, i, none⟩ v).heap[q + 1]? = some (.cells (#[.pointer (some ⟨p.a, 0, none⟩), .int .i64 ob, .int .i64 c, bl, .map (some q)].setIfInBounds i v) 119 (0, 0)) := by
  simp [World.setCell, Array.getElem?_modify, h.hm]
theorem counted (h : MvM w p ob q c bl n A mn D) (c' : Int) : MvM (w.setCell ⟨q + 1, 2, none⟩ (.int .i64 c')) p ob q c' bl n A mn D ∧ Only (Tk q bl) w (w.setCell ⟨q + 1, 2, none⟩ (.int .i64 c')) := by
  have o : Only (fun k => k = q + 1) w (w.setCell ⟨q + 1, 2, none⟩ (.int .i64 c')) := (Only.refl (fun k => k = q + 1) w).setCell (a := ⟨q + 1, 2, none⟩) (Or.inr rfl) _
  refine ⟨⟨hm_set h 2 _, owns_same h.row (fun g hg => o.block g (owns_lt h.row hg).1 (by have := (owns_lt h.row hg).2; omega)), map_same h.map (o.block _ h.map.lt (by omega)), h.pl⟩, o.mono (fun k _ hk => Or.inr (Or.inl hk))⟩
/-- A block is put behind the others. -/
theorem appended {o : Obj} {g cap : Nat} {u : Int} {A' : Nat → Int} (h : MvM w p ob q c bl n A mn D) (gr : (w.alloc o).grownBy w' bl.ownBlock) (ho : w'.ownsRow (q + 2) 30 1 (.slice (some ⟨g, 0, none⟩) (n + 1) cap) (n + 1) (((List.range n).map fun j => .int .u64 (A j)) ++ [.int .u64 u]))
    (hat : bl.ownBlock = some g ∨ g = (w.alloc o).heap.size) (hA : ∀ j, j < n → A' j = A j) (hu : A' n = u) :
    MvM (w'.setCell ⟨q + 1, 3, none⟩ (.slice (some ⟨g, 0, none⟩) (n + 1) cap)) p ob q c (.slice (some ⟨g, 0, none⟩) (n + 1) cap) (n + 1) A' mn D ∧ Only (Tk q bl) w (w'.setCell ⟨q + 1, 3, none⟩ (.slice (some ⟨g, 0, none⟩) (n + 1) cap)) := by
  have o1 : Only (fun k => bl.ownBlock = some k) w w' := ⟨gr.os, gr.tape, gr.output, Nat.le_trans (by rw [nblk_alloc]; omega) gr.size, fun k hk hs => (gr.block k (by rw [nblk_alloc]; omega) (fun e => hs e.symm)).trans (blk_alloc_lt _ _ _ hk)⟩
  have n1 : ∀ k, bl.ownBlock = some k → q + 2 ≤ k := fun k hk => (owns_lt h.row hk).2
  have hm' : w'.heap[q + 1]? = _ := (o1.block _ (lt_of_some h.hm) (fun e => by have := n1 _ e; omega)).trans h.hm
  have o2 : Only (fun k => k = q + 1) w' (w'.setCell ⟨q + 1, 3, none⟩ (.slice (some ⟨g, 0, none⟩) (n + 1) cap)) := (Only.refl (fun k => k = q + 1) w').setCell (a := ⟨q + 1, 3, none⟩) (Or.inr rfl) _
  have hg : q + 2 ≤ g := (owns_lt ho (g := g) rfl).2
  have e1 : ((List.range (n + 1)).map fun j => Value.int .u64 (A' j)) = ((List.range n).map fun j => .int .u64 (A j)) ++ [.int .u64 u] := by
    rw [List.range_succ, List.map_append, List.map_singleton, hu]
    congr 1
    refine List.map_congr_left (fun j hj => ?_)
    rw [hA j (List.mem_range.1 hj)]
  refine ⟨⟨?_, ?_, ?_, h.pl⟩, ?_⟩
  · simp [World.setCell, Array.getElem?_modify, hm']
  · rw [e1]
    exact owns_same ho (fun g' hg' => o2.block g' (owns_lt ho hg').1 (by have := (owns_lt ho hg').2; omega))
  · exact map_same h.map ((o2.block _ (Nat.lt_of_lt_of_le h.map.lt o1.size) (by omega)).trans (o1.block _ h.map.lt (fun e => by have := n1 _ e; omega)))
  · exact (o1.mono (fun k _ hk => Or.inr (Or.inr hk))).trans (Only.mono o2 (fun k hk he => Or.inr (Or.inl he)))
end MvM
end
/-- The key of a block. -/
def keyI (r : RS) (i : Nat) : Lit := .int .u64 (2 * ((blkAt r i).ad : Int))
def adW (r : RS) (G : List Nat) (j : Nat) : Int := 2 * ((blkAt r (G.getD j 0)).ad : Int)
/-- The plan's map: which blocks have a place, and which. -/
def PlanD (r : RS) (G : List Nat) (D : DataW Unit) : Prop := (∀ i, i < r.L.length → Maps.has D (keyI r i) = decide (i ∈ G)) ∧
  ∀ i, i ∈ G → D.atKey (keyI r i) (.lit (.int .u64 0)) = .lit (.int .u64 (2 * ((placeG r (otherB r) G (G.idxOf i) : Nat) : Int)))
def Mv (w : World) (p : Pl) (r : RS) (q : Nat) (bl : Value) (G : List Nat) (D : DataW Unit) : Prop :=
  MvM w p (otherB r) q (lenG r G : Nat) bl G.length (adW r G) G.length D ∧ PlanD r G D
theorem plan_nil (r : RS) : PlanD r [] (.map []) := ⟨fun i _ => rfl, fun i hi => by cases hi⟩
theorem key_inj {s : St} {r : RS} (hr : Rep s r) {i j : Nat} (hi : i < r.L.length) (hj : j < r.L.length) (e : keyI r i = keyI r j) : i = j := by
  unfold keyI at e
  have e2 : (blkAt r i).ad = (blkAt r j).ad := by
    have := (Lit.int.inj e).2
    omega
  have h1 : r.L[i]? = some (blkAt r i) := by unfold blkAt; rw [List.getD_eq_getElem?_getD, List.getElem?_eq_getElem hi]; rfl
  have h2 : r.L[j]? = some (blkAt r j) := by unfold blkAt; rw [List.getD_eq_getElem?_getD, List.getElem?_eq_getElem hj]; rfl
  exact hr.inj h1 h2 e2
theorem plan_put {s : St} {r : RS} (hr : Rep s r) {G : List Nat} {D : DataW Unit} (h : PlanD r G D) (hD : Maps.IsMap D) (hG : GoodG r G) {i : Nat} (hi : i < r.L.length) (hn : ¬ i ∈ G) {u : Int} (hu : u = 2 * ((otherB r + lenG r G + 1 : Nat) : Int)) :
    PlanD r (G ++ [i]) (D.put (keyI r i) (.lit (.int .u64 u))) := by
  refine ⟨fun j hj => ?_, fun j hj => ?_⟩
  · by_cases e : j = i
    · subst e
      rw [Maps.has_put_same hD (show WideAt.IsKeyLit (keyI r j) from trivial)]
      simp
    · rw [Maps.has_put_other (fun e2 => e (key_inj hr hj hi e2)), h.1 j hj]
      simp [e]
  · by_cases e : j = i
    · subst e
      rw [Maps.atKey_put_same hD (show WideAt.IsKeyLit (keyI r j) from trivial), hu]
      have : (G ++ [j]).idxOf j = G.length := by
        rw [List.idxOf_append, if_neg hn, List.idxOf_cons_self]; omega
      rw [this]
      unfold placeG
      rw [List.take_left]
    · have hjG : j ∈ G := by
        rw [List.mem_append] at hj
        rcases hj with hj | hj
        · exact hj
        · simp at hj; exact absurd hj e
      rw [Maps.atKey_put_other (fun e2 => e (key_inj hr (hG.2 j hjG) hi e2)), h.2 j hjG]
      rw [List.idxOf_append, if_pos hjG, placeG_ext]
      exact Nat.le_of_lt (List.idxOf_lt_length_of_mem hjG)
end Go.Proofs.Ytcbgjkedmboifab

/-
  What the plan's takeAll does: each block that a word leads to gets its place behind the others, unless it has one. Condition: the arena and the plan lie in memory.
-/
namespace Go.Proofs.Ytcbgjkedmboifab
open Go.ChangeShapes Go.WideShapes Go.ChangeAt Go.RowKit Go.Deep
set_option linter.unusedVariables false
set_option maxHeartbeats 1000000
variable {p : Pl} {s : St} {r : RS} {q : Nat} {bl : Value} {G : List Nat} {D : DataW Unit}

theorem WS.frame0 {w w' : World} {al : Option Addr} {m c : Nat} {X : Nat → Int} {S : Nat → Prop} (h : WS w al m c X) (k : Only S w w') (hs : ∀ ad, al = some ad → 0 < m → ¬ S ad.block) : WS w' al m c X := by
  refine ⟨h.nil, fun i hi => ?_, h.lo, h.hi⟩
  obtain ⟨ad, e, hc⟩ := h.cell i hi
  have hl := cell_lt hc
  refine ⟨ad, e, (World.cell?_of_block (w := w) (k.block _ hl ?_)).trans hc⟩
  rw [add_block]
  exact hs ad e (by omega)
theorem Mv.frame {w w' : World} {S : Nat → Prop} (h : Mv w p r q bl G D) (k : Only S w w') (h1 : ¬ S q) (h2 : ¬ S (q + 1)) (h3 : ∀ g, bl.ownBlock = some g → ¬ S g) : Mv w' p r q bl G D := ⟨h.1.frame k h1 h2 h3, h.2⟩
theorem Mv.below {w w' : World} (h : Mv w p r q bl G D) (k : Below w.heap.size w w') : Mv w' p r q bl G D := ⟨h.1.below k, h.2⟩
theorem Mv.drewN {w : World} (h : Mv w p r q bl G D) (m : Nat) : Mv (w.drewN m) p r q bl G D := ⟨h.1.drewN m, h.2⟩
theorem tk_arena {w w' : World} (h : Ar w p s) (hM : Mv w p r q bl G D) (k : Only (Tk q bl) w w') : Ar w' p s := by
  obtain ⟨p1, p2, p3, p4⟩ := hM.1.pl
  have n1 : ∀ k, k < q → ¬ Tk q bl k := fun k hk ht => by
    rcases ht with e | e | e
    · omega
    · omega
    · have := (owns_lt hM.1.row e).2; omega
  exact h.frame k (n1 _ p1) (n1 _ p2) (n1 _ p3) (n1 _ p4)
/-- Where the plan's row lies behind a step, beside where it lay. -/
def Near (n : Nat) (bl bl' : Value) : Prop := bl'.ownBlock = bl.ownBlock ∨ ∀ k, bl'.ownBlock = some k → n ≤ k
theorem near_tk {w w1 w2 : World} {bl' : Value} (hn : Near w.heap.size bl bl') (k1 : Only (Tk q bl) w w1) (k2 : Only (Tk q bl') w1 w2) : Only (Tk q bl) w w2 := by
  refine ⟨k2.os.trans k1.os, k2.tape.trans k1.tape, k2.output.trans k1.output, Nat.le_trans k1.size k2.size, fun k hk hs => ?_⟩
  refine (k2.block k (Nat.lt_of_lt_of_le hk k1.size) (fun ht => ?_)).trans (k1.block k hk hs)
  rcases ht with e | e | e
  · exact hs (Or.inl e)
  · exact hs (Or.inr (Or.inl e))
  · rcases hn with e2 | e2
    · exact hs (Or.inr (Or.inr (e2 ▸ e)))
    · have := e2 k e; omega
theorem mv_drew {w w1 : World} {k : Nat} (h : Mv w p r q bl G D) (e : w1 = w.drewN k) : Mv w1 p r q bl G D := by rw [e]; exact h.drewN k
theorem only_drew {w w0 w1 : World} {S : Nat → Prop} {k : Nat} (h : Only S w w0) (e : w1 = w0.drewN k) : Only S w w1 := by rw [e]; exact h.drewN k
theorem mvm_drew {w w1 : World} {k : Nat} {ob n mn : Nat} {c : Int} {A : Nat → Int} (h : MvM w p ob q c bl n A mn D) (e : w1 = (w.drewN 1).drewN k) : MvM w1 p ob q c bl n A mn D := by rw [e]; exact (h.drewN 1).drewN k
theorem near_trans {n n' : Nat} {bl bl1 bl2 : Value} (h1 : Near n bl bl1) (h2 : Near n' bl1 bl2) (hn : n ≤ n') : Near n bl bl2 := by
  rcases h2 with e | e
  · unfold Near; rw [e]; exact h1
  · exact Or.inr (fun k hk => Nat.le_trans hn (e k hk))
def TookAs (w : World) (p : Pl) (r : RS) (q : Nat) (bl : Value) (G : List Nat) (e : Ending) (w' : World) : Prop :=
  e = .returned (.tuple #[]) ∧ ∃ bl' D', Mv w' p r q bl' G D' ∧ Only (Tk q bl) w w' ∧ Near w.heap.size bl bl'
theorem listX_more (X : Nat → Int) (j : Nat) : listX X (j + 1) = listX X j ++ [X j] := by unfold listX; rw [List.range_succ, List.map_append]; rfl
theorem visits_more (s : St) (r : RS) (G : List Nat) (X : Nat → Int) (j : Nat) : visits s r G (listX X (j + 1)) = visit s r (visits s r G (listX X j)) (X j) := by rw [listX_more, visits_append]; rfl
theorem good_bound {w : World} (h : Ar w p s) (hr : Rep s r) (hG : GoodG r G) : lenG r G ≤ 32768 ∧ G.length ≤ 32768 ∧ otherB r ≤ 32768 := by
  have n2 := h.n2; have t1 := h.t1; have t2 := h.t2; have htop := hr.top; have hn := hr.n; have hwh := hr.wh
  obtain ⟨g1, g2⟩ := goodG_len hG
  have hll := lenB_length' r.L
  refine ⟨by omega, by omega, ?_⟩
  unfold otherB
  rcases Nat.le_one_iff_eq_zero_or_eq_one.1 hwh with e | e <;> rw [e] <;> omega
theorem adW_old (r : RS) (G : List Nat) (i : Nat) {j : Nat} (hj : j < G.length) : adW r (G ++ [i]) j = adW r G j := by
  unfold adW
  rw [List.getD_eq_getElem?_getD, List.getElem?_append_left hj, ← List.getD_eq_getElem?_getD]
theorem adW_new (r : RS) (G : List Nat) (i : Nat) : adW r (G ++ [i]) G.length = 2 * ((blkAt r i).ad : Int) := by
  unfold adW
  rw [List.getD_eq_getElem?_getD, List.getElem?_append_right (Nat.le_refl _)]
  simp
/-- A block gets its place: the three steps. -/
theorem mv_step {w w1 w2 : World} {o : Obj} {g cap i : Nat} {u : Int} (hr : Rep s r) (hM : Mv w p r q bl G D) (hG : GoodG r G) (hi : i < r.L.length) (hn : ¬ i ∈ G) {y : Int} (hy : y = 2 * ((blkAt r i).ad : Int)) (hu : u = 2 * ((otherB r + lenG r G + 1 : Nat) : Int))
    (h1 : MvM w1 p (otherB r) q (lenG r G : Nat) bl G.length (adW r G) (G.length + 1) (D.put (.int .u64 y) (.lit (.int .u64 u)))) (gr : (w1.alloc o).grownBy w2 bl.ownBlock)
    (ho : w2.ownsRow (q + 2) 30 1 (.slice (some ⟨g, 0, none⟩) (G.length + 1) cap) (G.length + 1) (((List.range G.length).map fun j => .int .u64 (adW r G j)) ++ [.int .u64 y])) (hat : bl.ownBlock = some g ∨ g = (w1.alloc o).heap.size) :
    MvM (w2.setCell ⟨q + 1, 3, none⟩ (.slice (some ⟨g, 0, none⟩) (G.length + 1) cap)) p (otherB r) q (lenG r G : Nat) (.slice (some ⟨g, 0, none⟩) (G.length + 1) cap) (G ++ [i]).length (adW r (G ++ [i])) (G ++ [i]).length (D.put (.int .u64 y) (.lit (.int .u64 u))) ∧
    Only (Tk q bl) w1 (w2.setCell ⟨q + 1, 3, none⟩ (.slice (some ⟨g, 0, none⟩) (G.length + 1) cap)) ∧ Near w1.heap.size bl (.slice (some ⟨g, 0, none⟩) (G.length + 1) cap) ∧ PlanD r (G ++ [i]) (D.put (.int .u64 y) (.lit (.int .u64 u))) := by
  have el : (G ++ [i]).length = G.length + 1 := by simp
  obtain ⟨a1, a2⟩ := h1.appended (A' := adW r (G ++ [i])) gr ho hat (fun j hj => adW_old r G i hj) (by rw [adW_new, hy])
  refine ⟨by rw [el]; exact a1, a2, ?_, ?_⟩
  · rcases hat with e | e
    · exact Or.inl (by rw [e]; rfl)
    · refine Or.inr (fun k hk => ?_)
      have : g = k := by simpa [Value.ownBlock] using hk
      rw [nblk_alloc] at e
      omega
  · rw [hy]
    exact plan_put hr hM.2 hM.1.map.isMap hG hi hn hu
theorem five_cells {w : World} {b : Nat} {x0 x1 x2 x3 x4 : Value} {t : TypeId} (h : w.heap[b]? = some (.cells #[x0, x1, x2, x3, x4] t (0, 0))) : (w.cell? ⟨b, 0, none⟩ = some x0 ∧ w.cell? ⟨b, 1, none⟩ = some x1 ∧ w.cell? ⟨b, 2, none⟩ = some x2 ∧ w.cell? ⟨b, 3, none⟩ = some x3 ∧ w.cell? ⟨b, 4, none⟩ = some x4) ∧ ∀ i, w.frozen? ⟨b, i, none⟩ = false := by
  refine ⟨⟨?_, ?_, ?_, ?_, ?_⟩, fun i => ?_⟩ <;> simp [World.cell?, World.frozen?, h]
theorem mv_blk {w w' : World} {o : Obj} {ob n mn : Nat} {c : Int} {A : Nat → Int} (h : MvM w p ob q c bl n A mn D) (gr : (w.alloc o).grownBy w' bl.ownBlock) : w'.heap[q + 1]? = some (.cells #[.pointer (some ⟨p.a, 0, none⟩), .int .i64 ob, .int .i64 c, bl, .map (some q)] 119 (0, 0)) := by
  have hl := lt_of_some h.hm
  refine ((gr.block (q + 1) (by rw [nblk_alloc]; omega) (fun e => ?_)).trans (blk_alloc_lt _ _ _ hl)).trans h.hm
  have := (owns_lt h.row e.symm).2; omega
theorem Rep.sizeOf {w : World} (ha : Ar w p s) (h : Rep s r) {i : Nat} {b : Blk} (hb : r.L[i]? = some b) : s.size (2 * (b.ad : Int)) = b.F.length := by
  have hin := h.inside hb
  have n2 := ha.n2; have t2 := ha.t2; have b1 := ha.b1
  obtain ⟨hf, _⟩ := h.word hb (by omega)
  unfold St.size
  rw [hf, if_neg (by show ¬ ((b.ad : Int) = 0); omega)]
  exact (h.tagAt hb).2
theorem lenG_snoc (r : RS) (G : List Nat) (i : Nat) : lenG r (G ++ [i]) = lenG r G + (1 + (blkAt r i).F.length) := by rw [lenG_append, lenG_one]
set_option maxRecDepth 100000 in
theorem takeAll_any {al : Option Addr} {m c : Nat} {X : Nat → Int} (w : World) (h : Ar w p s) (hr : Rep s r) (hx : WS w al m c X) (hm : m ≤ 100000) (hM : Mv w p r q bl G D) (hG : GoodG r G) (hoff : ∀ ad, al = some ad → 0 < m → ¬ Tk q bl ad.block) :
    Calls Try.prog 69 #[.pointer (some ⟨q + 1, 0, none⟩), .slice al m c] w fun e w' => TookAs w p r q bl (visits s r G (listX X m)) e w' := by
  have HAR : Hid (∀ wr, Only (Tk q bl) w wr → Ar wr p s) := fun wr k => tk_arena h hM k
  have HWS : Hid (∀ wr, Only (Tk q bl) w wr → WS wr al m c X) := fun wr k => hx.frame0 k hoff
  have HR : Hid _ := hr
  have HM : Hid _ := hM
  have HB : Hid (∀ j, GoodG r (visits s r G (listX X j))) := fun j => visits_good hr _ hG
  have HBD : Hid (∀ G', GoodG r G' → lenG r G' ≤ 32768 ∧ G'.length ≤ 32768 ∧ otherB r ≤ 32768) := fun G' hG' => good_bound h hr hG'
  clear h hr hx hM hG hoff
  go_enter Try.func69, Try.ntmps69
  go_wp2
  go_loopw [12] (fun i wr => ∃ (j : Nat) (bl' : Value) (D' : DataW Unit), j ≤ m ∧ i = .int .i64 j ∧ Mv wr p r q bl' (visits s r G (listX X j)) D' ∧ Only (Tk q bl) w wr ∧ Near w.heap.size bl bl') (fun i _ => m - (intOf i).toNat)
  case atStart => exact ⟨0, bl, D, Nat.zero_le _, rfl, HM.out, Only.refl _ _, Or.inl rfl⟩
  case round =>
    clear HM
    obtain ⟨j, bl', D', hj, rfl, hM, ho, hnear⟩ := hrel
    have h := HAR.out wr ho
    have hx := HWS.out wr ho
    have hG := HB.out j
    have HVS : Hid _ := visits_more s r G X j
    have HO : Hid _ := ho
    have HN : Hid _ := hnear
    clear ho hnear
    obtain ⟨c0, c1, c2, c3, c4⟩ := hM.1.cells
    by_cases hlt : j < m
    · obtain ⟨x, rfl, hxc⟩ := hx.cell j hlt
      have z0 := hx.lo j hlt
      have z1 := hx.hi j hlt
      have x1 : (0 : Int) ≤ (j : Int) := by omega
      have x2 : (j : Int) < (m : Int) := by omega
      generalize hGj : visits s r G (listX X j) = Gj at *
      generalize hXj : X j = xj at *
      rcases lead_cases HR.out xj with ⟨f0, l0⟩ | ⟨i, b, hb, f0, l0⟩
      · have HF : Hid _ := f0
        have HV : Hid (visits s r G (listX X (j + 1)) = Gj) := by show _ = _; rw [HVS.out, visit_none l0]
        clear f0 l0 hGj hXj
        go_wp2_with (first
          | (go_at_call 86; refine (leads_any xj _ h z0 z1).mono ?_; rintro e w1 ⟨rfl, k, hw1⟩; rw [HF.out]; have M1 := mv_drew hM hw1; have O1 := hidden (only_drew HO.out hw1); clear hw1; obtain ⟨d0, d1, d2, d3, d4⟩ := M1.1.cells)
          | (at_lookup; refine wpList_lookup_own_ok_int _ rfl _ _ 117 rfl 30 30 .u64 word_keyed Try.underlying117 Try.underlying30 (word_zero _) q _ _ rfl M1.1.map _ _ rfl (Maps.keyOf_int_mk Try.underlying30 (by decide)) ?_; intro cc hat hwc; generalize Maps.has D' _ = hb; clear hat hwc))
        go_roundw
        case rel => exact ⟨j + 1, bl', D', by omega, by go_num, by rw [HV.out]; exact M1, O1.out, HN.out⟩
        case measure => simp [intOf]; omega
      · have ebi := blkAt_of hb
        have hil := (List.getElem?_eq_some_iff.1 hb).1
        have hin := HR.out.inside hb
        have n2 := h.n2
        have t2 := h.t2
        have b1 := h.b1
        obtain ⟨y, hy⟩ : ∃ y : Int, y = 2 * (b.ad : Int) := ⟨_, rfl⟩
        have HF : Hid (2 * (s.find xj).1 = y) := by show _ = _; rw [f0, hy]
        have y0 : 0 < y := by omega
        have y1 : y ≤ 18446744073709551615 := by omega
        have yb : (y == 0) = false := beq_eq_false_iff_ne.2 (by omega)
        have HK : Hid (keyI r i = .int .u64 y) := by show _ = _; unfold keyI; rw [ebi, hy]
        by_cases hiG : i ∈ Gj
        · have HV : Hid (visits s r G (listX X (j + 1)) = Gj) := by show _ = _; rw [HVS.out, visit_old l0 hiG]
          have HH : Hid (Maps.has D' (.int .u64 y) = true) := by show _ = _; rw [← HK.out, hM.2.1 i hil]; simp [hiG]
          clear f0 l0 hGj hXj hb ebi hin n2 t2 b1 hy
          go_wp2_with (first
            | (go_at_call 86; refine (leads_any xj _ h z0 z1).mono ?_; rintro e w1 ⟨rfl, k, hw1⟩; rw [HF.out]; have M1 := mv_drew hM hw1; have O1 := hidden (only_drew HO.out hw1); clear hw1; obtain ⟨d0, d1, d2, d3, d4⟩ := M1.1.cells)
            | (at_lookup; refine wpList_lookup_own_ok_int _ rfl _ _ 117 rfl 30 30 .u64 word_keyed Try.underlying117 Try.underlying30 (word_zero _) q _ _ rfl M1.1.map _ _ rfl (Maps.keyOf_int_mk Try.underlying30 (word_wf (Int.le_of_lt y0) y1)) ?_; intro cc hat hwc; rw [HH.out]; clear hat hwc))
          go_roundw
          case rel => exact ⟨j + 1, bl', D', by omega, by go_num, by rw [HV.out]; exact M1, O1.out, HN.out⟩
          case measure => simp [intOf]; omega
        · have HV : Hid (visits s r G (listX X (j + 1)) = Gj ++ [i]) := by show _ = _; rw [HVS.out, visit_new l0 hiG]
          have HH : Hid (Maps.has D' (.int .u64 y) = false) := by show _ = _; rw [← HK.out, hM.2.1 i hil]; simp [hiG]
          have HSZ : Hid (s.size y = b.F.length) := by show _ = _; rw [hy]; exact Rep.sizeOf h HR.out hb
          have HY : Hid (y = 2 * ((blkAt r i).ad : Int)) := by show _ = _; rw [ebi, hy]
          have HGN : Hid (GoodG r (Gj ++ [i])) := by have := HB.out (j + 1); rw [HV.out] at this; exact this
          have HLN : Hid ((lenG r Gj : Nat) + (1 + (b.F.length : Int)) = ((lenG r (Gj ++ [i]) : Nat) : Int)) := by show _ = _; rw [lenG_snoc, ebi]; omega
          obtain ⟨g1, g2, g3⟩ := HBD.out _ hG
          obtain ⟨u, hu⟩ : ∃ u, u = 2 * ((otherB r + lenG r Gj + 1 : Nat) : Int) := ⟨_, rfl⟩
          have u0 : 0 ≤ u := by omega
          have u1 : u ≤ 18446744073709551615 := by omega
          have HP : Hid (ptrW ((otherB r : Nat) + (lenG r Gj : Nat) + 1) = u) := by show _ = _; unfold ptrW; rw [if_neg (by omega), hu]; omega
          have HU : Hid _ := hu
          have e1 := wrapId ((otherB r : Nat) + (lenG r Gj : Nat) : Int) (by omega) (by omega)
          have e2 := wrapId ((otherB r : Nat) + (lenG r Gj : Nat) + 1 : Int) (by omega) (by omega)
          have hfl := (HR.out.tag i b hb).2.2
          clear f0 l0 hGj hXj hb ebi hin hy hu
          go_wp2_with (first
            | (go_at_call 86; refine (leads_any xj _ h z0 z1).mono ?_; rintro e w1 ⟨rfl, k, hw1⟩; rw [HF.out]; have M1 := mv_drew hM hw1; have O1 := hidden (only_drew HO.out hw1); clear hw1; obtain ⟨d0, d1, d2, d3, d4⟩ := M1.1.cells)
            | (at_lookup; refine wpList_lookup_own_ok_int _ rfl _ _ 117 rfl 30 30 .u64 word_keyed Try.underlying117 Try.underlying30 (word_zero _) q _ _ rfl M1.1.map _ _ rfl (Maps.keyOf_int_mk Try.underlying30 (word_wf (Int.le_of_lt y0) y1)) ?_; intro cc hat hwc; rw [HH.out]; clear hat hwc))
          clear c0 c1 c2 c3 c4 hxc
          obtain ⟨w2, hup, hown2, gr2⟩ := (show w1.drew.ownsMap Try.prog 30 (plainElem Try.prog 30) q Gj.length D' from M1.1.map).update word_keyed Try.underlying117 (by unfold maxLen; omega) (Maps.keyOf_int_mk Try.underlying30 (word_wf (Int.le_of_lt y0) y1)) (plainElem_int Try.underlying30 (word_wf u0 u1))
          obtain ⟨m2, o2⟩ := (show MvM w1.drew p (otherB r) q (lenG r Gj : Nat) bl' Gj.length (adW r Gj) Gj.length D' from M1.1.drewN 1).mapped gr2 hown2
          have O2 : Hid (Only (Tk q bl) w w2) := near_tk HN.out (O1.out.drewN 1) o2
          obtain ⟨f0, f1, f2, f3, f4⟩ := m2.cells
          have M2 : Hid _ := m2
          clear m2 o2 gr2 hown2
          go_cut [12] from 12 to 79 (fun i' wx => i' = .int .i64 j ∧ wx = w2)
          case first =>
            go_region_held3 (fun w' => w'.cell? ⟨q + 1, 4, none⟩ = some (.map (some q)) ∧ w'.cell? ⟨q + 1, 1, none⟩ = some (.int .i64 (otherB r : Nat)) ∧ w'.cell? ⟨q + 1, 2, none⟩ = some (.int .i64 (lenG r Gj : Nat))) (go_keep) (first
              | (go_at_call 52; refine (ptr_any _ _ (by omega) (by omega)).mono ?_; rintro e w3 ⟨rfl, hw3⟩; rw [hw3, HP.out]; clear hw3 w3))
            all_goals (go_wp2_with fail; go_meet; exact ⟨rfl, rfl⟩)
          case rest =>
            obtain ⟨rfl, rfl⟩ := hcut
            clear hup d0 d1 d2 d3 d4 e1 e2
            have m2 := M2.out
            have hq2 : q + 1 < wc.heap.size := lt_of_some m2.hm
            go_wp2_with (at_builtin; refine wpList_append_lie rfl (.tmp 59) (.tmp 61) rfl (q + 2) bl' Gj.length _ rfl (m2.row.alloc _) ⟨wc.heap.size, 0, none⟩ 1 y rfl (by simp [Addr.add]) (by omega) (by rw [nblk_alloc]; omega) ?_; intro g cap w3 ho3 gr3 hat3; obtain ⟨⟨t0, t1, t2', t3, t4⟩, t5⟩ := five_cells (mv_blk m2 gr3); obtain ⟨s1, s2, s3, s4⟩ := mv_step HR.out M1 hG hil hiG HY.out HU.out m2 gr3 ho3 hat3; have S1 := hidden s1; have S2 := hidden (near_tk HN.out O2.out s2); have S3 := hidden (near_trans HN.out s3 O2.out.size); have S4 := hidden s4; clear s1 s2 s3 s4 ho3 gr3 hat3)
            have m4 := S1.out
            have h4 := HAR.out _ S2.out
            clear t0 t1 t2' t3 t4 t5 f0 f1 f2 f3 f4 m2 M2 O2 O1
            generalize w3.setCell ⟨q + 1, 3, none⟩ (.slice (some ⟨g, 0, none⟩) (Gj.length + 1) cap) = w4 at *
            obtain ⟨c0, c1, c2, c3, c4⟩ := m4.cells
            have c5 := m4.frozen 2
            have e3 := wrapId (1 + (b.F.length : Int)) (by omega) (by omega)
            have e4 := wrapId ((lenG r Gj : Nat) + (1 + (b.F.length : Int))) (by omega) (by omega)
            go_region_with (go_at_call 44; refine (size_of y _ (h4.drewN 1) (by omega) y1).mono ?_; rintro e w5 ⟨rfl, k, hw5⟩; rw [HSZ.out]; have m5 := hidden (mvm_drew m4 hw5); have o5 := hidden (only_drew (S2.out.drewN 1) hw5); clear hw5; obtain ⟨k0, k1, k2, k3, k4⟩ := m5.out.cells; have k5 := m5.out.frozen 2)
            all_goals
              go_wp2_with fail
              go_roundw
              case rel => exact ⟨j + 1, _, _, by omega, by go_num, by rw [HV.out]; exact ⟨by rw [← HLN.out]; exact (m5.out.counted _).1, S4.out⟩, near_tk S3.out o5.out (m5.out.counted _).2, S3.out⟩
              case measure => simp [intOf]; omega
    · have ej : j = m := by omega
      subst ej
      have hnl : ¬ ((j : Int) < (j : Int)) := by omega
      go_wp2
      go_end0
      exact ⟨rfl, bl', D', hM, HO.out, HN.out⟩
end Go.Proofs.Ytcbgjkedmboifab

/-
  What the plan's hasWords, fields and move tell, and how follow plans. Condition: the arena and the plan lie in memory.
  How follow plans a collection: all that is in reach, in its order. Condition: the arena lies in memory, in one state with a list of blocks.
-/
namespace Go.Proofs.Ytcbgjkedmboifab
open Go.ChangeShapes Go.WideShapes Go.ChangeAt Go.RowKit Go.Deep
set_option linter.unusedVariables false
set_option maxHeartbeats 1000000
variable {p : Pl} {s : St} {r : RS} {q : Nat} {bl : Value} {G : List Nat} {D : DataW Unit}

theorem below_is {w w1 : World} {k : Nat} (e : w1 = w.drewN k) : Below w.heap.size w w1 := by rw [e]; exact below_drewN (Below.refl _ _) k
theorem below_is2 {w w0 w1 : World} {B k : Nat} (h : Below B w w0) (e : w1 = w0.drewN k) : Below B w w1 := by rw [e]; exact below_drewN h k
theorem own_is {w w1 : World} {g n k : Nat} {X : Nat → Int} (h : Own w g n X) (e : w1 = w.drewN k) : Own w1 g n X := by rw [e]; exact h.drewN k
theorem below_set {w w0 : World} {B g : Nat} (h : Below B w w0) (hg : B ≤ g) (j : Nat) (v : Value) : Below B w (w0.setCell ⟨g, j, none⟩ v) := h.setCell (p := ⟨g, j, none⟩) hg v
theorem own_row_is {w : World} {g n : Nat} {f : Nat → Value} {t : TypeId} (h : w.rowIs g t n f) : ∃ cur, w.heap[g]? = some (.cells cur t (0, 0)) ∧ ∀ i, i < n → cur[i]? = some (f i) := by
  obtain ⟨cur, h1, _, h2⟩ := h
  exact ⟨cur, h1, h2⟩
theorem hasWords_any {i : Nat} (y : Int) (w : World) (h : Ar w p s) (hr : Rep s r) (hM : Mv w p r q bl G D) (hi : i < r.L.length) (hy : y = 2 * ((blkAt r i).ad : Int)) :
    Calls Try.prog 70 #[.pointer (some ⟨q + 1, 0, none⟩), .int .u64 y] w fun e w' => e = .returned (.bool ((blkAt r i).tag != 202)) ∧ ∃ k, w' = w.drewN k := by
  have hb := blkAt_some hi
  have hin := hr.inside hb
  have n2 := h.n2; have t2 := h.t2; have b1 := h.b1
  have HT : Hid (s.tag y = (blkAt r i).tag) := by show _ = _; rw [hy]; exact hr.tagOf hb (by omega)
  have y0 : 0 ≤ y := by omega
  have y1 : y ≤ 18446744073709551615 := by omega
  obtain ⟨c0, c1, c2, c3, c4⟩ := hM.1.cells
  generalize (blkAt r i).tag = t at *
  clear hy hb hin
  go_enter Try.func70, Try.ntmps70
  go_wp2_with (go_at_call 42; refine (tag_of y _ h y0 y1).mono ?_; rintro e w' ⟨rfl, k, rfl⟩; rw [HT.out])
  go_ret
  exact ⟨rfl, _, rfl⟩
theorem own_made (w : World) (n : Nat) : Own (w.alloc (.cells (madeCells #[.int .u64 0] n) 30)) w.heap.size n (fun _ => 0) := by
  obtain ⟨cur, h1, h2⟩ := own_row_is (World.rowIs_made w (.int .u64 0) n 30)
  exact ⟨cur, h1, h2⟩
/-- The fields that have been read so far. -/
def upTo (F : List Int) (j k : Nat) : Int := if k < j then F.getD k 0 else 0
theorem upTo_step {w : World} {g n j : Nat} {F : List Int} (h : Own w g n (upTo F j)) : Own (w.setCell ⟨g, j, none⟩ (.int .u64 (F.getD j 0))) g n (upTo F (j + 1)) := by
  refine (h.set j (F.getD j 0)).congr (fun k hk => ?_)
  unfold upTo
  by_cases e : k = j
  · subst e; rw [if_pos rfl, if_pos (by omega)]
  · rw [if_neg e]
    by_cases e2 : k < j
    · rw [if_pos e2, if_pos (by omega)]
    · rw [if_neg e2, if_neg (by omega)]
def FieldsAs (w : World) (F : List Int) (e : Ending) (w' : World) : Prop := ∃ g, e = .returned (.slice (some ⟨g, 0, none⟩) F.length F.length) ∧ w.heap.size ≤ g ∧ Own w' g F.length (fun j => F.getD j 0) ∧ Below w.heap.size w w'
theorem fields_any {i : Nat} (y : Int) (w : World) (h : Ar w p s) (hr : Rep s r) (hM : Mv w p r q bl G D) (hi : i < r.L.length) (hy : y = 2 * ((blkAt r i).ad : Int)) :
    Calls Try.prog 71 #[.pointer (some ⟨q + 1, 0, none⟩), .int .u64 y] w fun e w' => FieldsAs w (blkAt r i).F e w' := by
  have hb := blkAt_some hi
  have hin := hr.inside hb
  have n2 := h.n2; have t2 := h.t2; have b1 := h.b1
  have hlen := (hr.tag i _ hb).2.2
  have HS : Hid (s.size y = (blkAt r i).F.length) := by show _ = _; rw [hy]; exact Rep.sizeOf h hr hb
  have HF : Hid (∀ j, j < (blkAt r i).F.length → s.get y j = (blkAt r i).F.getD j 0) := by intro j hj; rw [hy]; exact (hr.fieldOf hb (by omega) hj).1
  have HFI : Hid s.Fits := hr.fits
  have HAR : Hid (∀ wr, Below w.heap.size w wr → Ar wr p s) := fun wr k => h.frame (S := fun _ => False) (Only.of_below k) id id id id
  have HMV : Hid (∀ wr, Below w.heap.size w wr → Mv wr p r q bl G D) := fun wr k => hM.below k
  have y0 : 0 ≤ y := by omega
  have y1 : y ≤ 18446744073709551615 := by omega
  obtain ⟨c0, c1, c2, c3, c4⟩ := hM.1.cells
  generalize (blkAt r i).F = F at *
  clear hy hb hin
  obtain ⟨n, hn⟩ : ∃ n, n = F.length := ⟨_, rfl⟩
  rw [← hn] at hlen HS HF
  have HN : Hid _ := hn
  clear hn
  have hmk : ∀ w : World, (Instr.makeSlice 37 (.int .i64 (n : Int)) (.int .i64 (n : Int))).run Try.prog w = .ok (.slice (some ⟨w.heap.size, 0, none⟩) n n) (w.alloc (.cells (madeCells #[.int .u64 0] n) 30)) :=
    run_make_row' (P := Try.prog) 37 30 (.int .u64 0) 8 Try.underlying37 Try.info30 rfl .i64 .i64 n (by omega) (by omega)
  go_enter Try.func71, Try.ntmps71
  go_wp2_with (go_at_call 44; refine (size_of y _ h y0 y1).mono ?_; rintro e w1 ⟨rfl, k, hw1⟩; rw [HS.out]; have hb1 := hidden (below_is hw1); clear hw1)
  have hb2 := hb1.out.alloc hb1.out.size (.cells (madeCells #[.int .u64 0] n) 30)
  have ho2 := own_made w1 n
  have HG := hidden hb1.out.size
  clear hb1
  generalize w1.alloc (.cells (madeCells #[.int .u64 0] n) 30) = w2 at *
  generalize w1.heap.size = g at *
  go_loopw [16] (fun i wr => ∃ j : Nat, j ≤ n ∧ i = .int .i64 j ∧ Own wr g n (upTo F j) ∧ Below w.heap.size w wr) (fun i _ => n - (intOf i).toNat)
  case atStart => exact ⟨0, Nat.zero_le _, rfl, ho2.congr (fun k _ => rfl), hb2⟩
  case round =>
    clear ho2 hb2 c0 c1 c2 c3 c4
    obtain ⟨j, hj, rfl, ho, hbr⟩ := hrel
    have h := HAR.out wr hbr
    have hM := HMV.out wr hbr
    obtain ⟨c0, c1, c2, c3, c4⟩ := hM.1.cells
    by_cases hlt : j < n
    · have x1 : (0 : Int) ≤ (j : Int) := by omega
      have x2 : (j : Int) < (n : Int) := by omega
      have HV : Hid (s.get y j = F.getD j 0) := HF.out j hlt
      have HO := hidden ho
      have HBR := hidden hbr
      clear ho hbr
      go_wp2_with (go_at_call 62; refine (get_any y j _ h HFI.out y0 y1).mono ?_; rintro e w3 ⟨rfl, k3, hw3⟩; rw [HV.out]; have ho3 := hidden (own_is HO.out hw3); have hb3 := hidden (below_is2 HBR.out hw3); clear hw3; have k1 := ho3.out.cell hlt; have k2 := ho3.out.frozen j)
      go_roundw
      case rel => exact ⟨j + 1, by omega, by go_num, upTo_step ho3.out, below_set hb3.out HG.out _ _⟩
      case measure => simp [intOf]; omega
    · have ej : j = n := by omega
      subst ej
      have hnl : ¬ ((j : Int) < (j : Int)) := by omega
      go_wp2
      go_ret
      exact ⟨g, by rw [← HN.out]; rfl, HG.out, by rw [← HN.out]; exact ho.congr (fun k hk => by unfold upTo; rw [if_pos hk]), hbr⟩
end Go.Proofs.Ytcbgjkedmboifab

namespace Go.Proofs.Ytcbgjkedmboifab
open Go.ChangeShapes Go.WideShapes Go.ChangeAt Go.RowKit Go.Deep
set_option linter.unusedVariables false
set_option maxHeartbeats 1000000
variable {p : Pl} {s : St} {r : RS} {q : Nat} {bl : Value} {G : List Nat} {D : DataW Unit}

theorem listX_getD (F : List Int) : listX (fun j => F.getD j 0) F.length = F := by
  unfold listX
  refine List.ext_getElem? (fun i => ?_)
  rw [List.getElem?_map]
  by_cases h : i < F.length
  · rw [List.getElem?_range h, List.getElem?_eq_getElem h]
    simp [List.getD_eq_getElem?_getD, h]
  · rw [List.getElem?_eq_none (l := F) (by omega), List.getElem?_eq_none (l := List.range F.length) (by simp; omega)]
    rfl
theorem Rep.fieldLo {w : World} (ha : Ar w p s) (h : Rep s r) {i : Nat} {b : Blk} (hb : r.L[i]? = some b) (j : Nat) : 0 ≤ b.F.getD j 0 ∧ b.F.getD j 0 ≤ 18446744073709551615 := by
  rw [List.getD_eq_getElem?_getD]
  by_cases hj : j < b.F.length
  · have e := h.fld i b hb j _ (List.getElem?_eq_getElem hj)
    rw [List.getElem?_eq_getElem hj]
    have h1 := ha.lo (b.ad + j)
    have h2 := ha.hi (b.ad + j)
    rw [e] at h1 h2
    exact ⟨h1, h2⟩
  · rw [List.getElem?_eq_none (by omega)]
    exact ⟨Int.le_refl _, by decide⟩
theorem tk_below {w w' : World} (hM : Mv w p r q bl G D) (k : Only (Tk q bl) w w') : Below q w w' := by
  refine k.below (Nat.le_of_lt (Nat.lt_of_lt_of_le (Nat.lt_succ_self q) (Nat.le_of_lt (lt_of_some hM.1.hm)))) (fun k hk ht => ?_)
  rcases ht with e | e | e
  · omega
  · omega
  · have := (owns_lt hM.1.row e).2; omega
theorem cell_is {w w1 : World} {a : Addr} {v : Value} {k : Nat} (h : w.cell? a = some v) (e : w1 = w.drewN k) : w1.cell? a = some v := by rw [e]; exact h
theorem off_row {w : World} {g m : Nat} (hM : Mv w p r q bl G D) (hg : w.heap.size ≤ g) : ∀ ad, some (Addr.mk g 0 none) = some ad → 0 < m → ¬ Tk q bl ad.block := by
  intro ad had _ ht
  cases had
  have h1 := lt_of_some hM.1.hm
  rcases ht with e | e | e
  · simp at e; omega
  · simp at e; omega
  · have := (owns_lt hM.1.row e).1; simp at this; omega
def FollowAs (w : World) (p : Pl) (r : RS) (G : List Nat) (e : Ending) (w' : World) : Prop := ∃ bl D, e = .returned (.pointer (some ⟨w.heap.size + 1, 0, none⟩)) ∧ Mv w' p r w.heap.size bl G D ∧ Below w.heap.size w w'
theorem mv_new {w : World} (h : Ar w p s) (r : RS) : Mv ((w.alloc (.map #[] 0)).alloc (.cells #[.pointer (some ⟨p.a, 0, none⟩), .int .i64 (otherB r : Nat), .int .i64 0, .slice none 0 0, .map (some w.heap.size)] 119)) p r w.heap.size (.slice none 0 0) [] (.map []) := by
  refine ⟨⟨?_, ⟨rfl, .inl ⟨rfl, rfl⟩⟩, ?_, lt_of_some h.ha, lt_of_some h.hh, h.hc.lt, h.hb.lt⟩, plan_nil r⟩
  · have := blk_alloc_new (w.alloc (.map #[] 0)) (.cells #[.pointer (some ⟨p.a, 0, none⟩), .int .i64 (otherB r : Nat), .int .i64 0, .slice none 0 0, .map (some w.heap.size)] 119)
    rw [nblk_alloc] at this
    exact this
  · exact (World.ownsMap_made w Try.prog 30 _).alloc _
theorem otherB_is {s : St} {r : RS} (hr : Rep s r) : (s.n : Int) - s.base = (otherB r : Nat) := by
  have hn := hr.n; have hwh := hr.wh; have hb := hr.base
  unfold otherB
  rcases Nat.le_one_iff_eq_zero_or_eq_one.1 hwh with e | e <;> rw [e] at hb ⊢ <;> omega
theorem mv_bl {w : World} (h : Ar w p s) (hr : Rep s r) (hG : GoodG r G) (hM : Mv w p r q bl G D) : ∃ al cb, bl = .slice al G.length cb ∧ WS w al G.length cb (adW r G) ∧ (∀ ad, al = some ad → q + 2 ≤ ad.block) := by
  refine hM.1.ws (fun i hi => by unfold adW; omega) (fun i hi => ?_)
  have n2 := h.n2; have t2 := h.t2; have b1 := h.b1
  have hg : G.getD i 0 ∈ G := by rw [List.getD_eq_getElem?_getD, List.getElem?_eq_getElem hi]; exact List.getElem_mem hi
  have hin := hr.inside (blkAt_some (hG.2 _ hg))
  unfold adW
  omega
theorem scan_text {s : St} {r : RS} {xs : List Int} {k i : Nat} (hk : (scans s r xs k)[k]? = some i) (ht : (blkAt r i).tag = 202) : scans s r xs (k + 1) = scans s r xs k := by
  rw [scans_succ]; unfold scan1; rw [hk]
  show visits s r _ (wordsOf (blkAt r i)) = _
  unfold wordsOf; rw [if_pos ht]; rfl
theorem scan_words {s : St} {r : RS} {xs : List Int} {k i : Nat} (hk : (scans s r xs k)[k]? = some i) (ht : ¬ (blkAt r i).tag = 202) : scans s r xs (k + 1) = visits s r (scans s r xs k) (blkAt r i).F := by
  rw [scans_succ]; unfold scan1; rw [hk]
  show visits s r _ (wordsOf (blkAt r i)) = _
  unfold wordsOf; rw [if_neg ht]
set_option maxRecDepth 100000 in
theorem follow_any {al : Option Addr} {m c : Nat} {X : Nat → Int} (w : World) (h : Ar w p s) (hr : Rep s r) (hx : WS w al m c X) (hm : m ≤ 100000) :
    Calls Try.prog 31 #[.pointer (some ⟨p.a, 0, none⟩), .slice al m c] w fun e w' => FollowAs w p r (reachG s r (listX X m)) e w' := by
  have HAR : Hid (∀ wr, Below w.heap.size w wr → Ar wr p s) := fun wr k => h.frame (S := fun _ => False) (Only.of_below k) id id id id
  have HWS : Hid (∀ wr, Below w.heap.size w wr → WS wr al m c X) := fun wr k => hx.below k
  have HR : Hid _ := hr
  have n2 := h.n2; have t2 := h.t2; have b1 := h.b1
  have HOB : Hid _ := otherB_is hr
  have hmm := @run_makeMap Try.prog
  have HNEW : Hid (Mv ((w.alloc (.map #[] 0)).alloc (.cells #[.pointer (some ⟨p.a, 0, none⟩), .int .i64 ((s.n : Int) - s.base), .int .i64 0, .slice none 0 0, .map (some w.heap.size)] 119)) p r w.heap.size (.slice none 0 0) [] (.map [])) := by
    show Mv _ _ _ _ _ _ _
    rw [HOB.out]; exact mv_new h r
  have HB2 : Hid (∀ o, Below w.heap.size w ((w.alloc (.map #[] 0)).alloc o)) := fun o => ((Below.refl w.heap.size w).alloc (Nat.le_refl _) _).alloc (by rw [nblk_alloc]; omega) o
  have HOFF : Hid (∀ ad, al = some ad → 0 < m → ¬ Tk w.heap.size (.slice none 0 0) ad.block) := fun ad had hm0 ht => by
    obtain ⟨ad', e, hc⟩ := hx.cell 0 hm0
    rw [had] at e; cases e
    have := cell_lt hc
    rw [add_block] at this
    rcases ht with e | e | e
    · omega
    · omega
    · cases e
  clear hr hx
  go_enter Try.func31, Try.ntmps31
  go_wp2_with fail
  go_step3
  go_wp2_with (first | (go_at_call 67; refine (half_any _ h).mono ?_; rintro e w1 ⟨rfl, hw1⟩; rw [hw1]; clear hw1 w1) | (go_at_call 68; refine (base_any _ h).mono ?_; rintro e w1 ⟨rfl, hw1⟩; rw [hw1]; clear hw1 w1) | (go_at_call 69; refine (takeAll_any _ (HAR.out _ (HB2.out _)) HR.out (HWS.out _ (HB2.out _)) hm HNEW.out (goodG_nil r) HOFF.out).mono ?_; rintro e w2 ⟨rfl, bl, D, hM, ho, hnear⟩; have hb2 := hidden ((HB2.out _).trans (tk_below HNEW.out ho)); clear ho hnear))
  go_step3
  go_wp2_with fail
  have HM2 : Hid _ := hM
  clear hM h HNEW HB2 HOFF
  go_loopw [6] (fun i wr => ∃ (k : Nat) (bl : Value) (D : DataW Unit), i = .int .i64 k ∧ k ≤ (scans s r (listX X m) k).length ∧ Mv wr p r w.heap.size bl (scans s r (listX X m) k) D ∧ Below w.heap.size w wr) (fun i _ => r.L.length - (intOf i).toNat)
  case atStart => exact ⟨0, bl, D, rfl, Nat.zero_le _, HM2.out, hb2.out⟩
  case round =>
    clear HM2 hb2 bl D
    obtain ⟨k, bl, D, rfl, hk, hM, hb⟩ := hrel
    have h := HAR.out wr hb
    have hG := scans_good HR.out (listX X m) k
    obtain ⟨g1, g2⟩ := goodG_len hG
    have hbd := (good_bound h HR.out hG).2.1
    obtain ⟨al', cb, rfl, hws, hal⟩ := mv_bl h HR.out hG hM
    obtain ⟨c0, c1, c2, c3, c4⟩ := hM.1.cells
    have HEND : Hid ((scans s r (listX X m) k).length ≤ k → reachG s r (listX X m) = scans s r (listX X m) k) := reach_end HR.out (listX X m) k
    have HST : Hid (∀ i, (scans s r (listX X m) k)[k]? = some i → (blkAt r i).tag = 202 → scans s r (listX X m) (k + 1) = scans s r (listX X m) k) := fun i hi ht => scan_text hi ht
    have HSW : Hid (∀ i, (scans s r (listX X m) k)[k]? = some i → ¬ (blkAt r i).tag = 202 → scans s r (listX X m) (k + 1) = visits s r (scans s r (listX X m) k) (blkAt r i).F) := fun i hi ht => scan_words hi ht
    generalize scans s r (listX X m) k = Gk at *
    clear g1
    by_cases hlt : k < Gk.length
    · obtain ⟨i, hi⟩ : ∃ i, Gk[k]? = some i := ⟨_, List.getElem?_eq_getElem hlt⟩
      have hil : i < r.L.length := hG.2 i (List.mem_of_getElem? hi)
      have hgi : Gk.getD k 0 = i := by rw [List.getD_eq_getElem?_getD, hi]; rfl
      obtain ⟨x, rfl, hxc⟩ := hws.cell k hlt
      obtain ⟨y, hy⟩ : ∃ y : Int, y = 2 * ((blkAt r i).ad : Int) := ⟨_, rfl⟩
      have hay : adW r Gk k = y := by unfold adW; rw [hgi, hy]
      rw [hay] at hxc
      have hne : ((k : Int) == (Gk.length : Int)) = false := beq_eq_false_iff_ne.2 (by omega)
      have x1 : (0 : Int) ≤ (k : Int) := by omega
      have x2 : (k : Int) < (Gk.length : Int) := by omega
      have HY : Hid _ := hy
      have HG : Hid _ := hG
      have HI : Hid _ := hi
      have HBR : Hid _ := hb
      have HXB : Hid (x.block < wr.heap.size) := by have := cell_lt hxc; rw [add_block] at this; exact this
      clear hy hay hgi hi hb hG hws hal HEND
      by_cases ht : (blkAt r i).tag = 202
      · have HT : Hid (((blkAt r i).tag != 202) = false) := by show _ = _; rw [ht]; rfl
        have HV : Hid (scans s r (listX X m) (k + 1) = Gk) := HST.out i HI.out ht
        clear ht HST HSW
        go_wp2_with (go_at_call 70; refine (hasWords_any y _ h HR.out hM hil HY.out).mono ?_; rintro e w1 ⟨rfl, k1, hw1⟩; rw [HT.out]; have M1 := hidden (mv_drew hM hw1); have B1 := hidden (below_is2 HBR.out hw1); clear hw1)
        go_roundw
        case rel => exact ⟨k + 1, _, D, by go_num, by rw [HV.out]; omega, by rw [HV.out]; exact M1.out, B1.out⟩
        case measure => simp [intOf]; omega
      · have HT : Hid (((blkAt r i).tag != 202) = true) := by show _ = _; rw [bne_iff_ne]; exact ht
        have HV : Hid (scans s r (listX X m) (k + 1) = visits s r Gk (listX (fun j => (blkAt r i).F.getD j 0) (blkAt r i).F.length)) := by show _ = _; rw [listX_getD]; exact HSW.out i HI.out ht
        have HVL : Hid (k + 1 ≤ (scans s r (listX X m) (k + 1)).length) := by
          show _ ≤ _
          rw [HV.out]
          obtain ⟨T, hT⟩ := visits_ext (s := s) (r := r) (listX (fun j => (blkAt r i).F.getD j 0) (blkAt r i).F.length) Gk
          rw [hT, List.length_append]; omega
        have HLO : Hid (∀ j, j < (blkAt r i).F.length → 0 ≤ (blkAt r i).F.getD j 0) := fun j _ => (Rep.fieldLo h HR.out (blkAt_some hil) j).1
        have HHI : Hid (∀ j, j < (blkAt r i).F.length → (blkAt r i).F.getD j 0 ≤ 18446744073709551615) := fun j _ => (Rep.fieldLo h HR.out (blkAt_some hil) j).2
        have HFL : Hid ((blkAt r i).F.length ≤ 100000) := by have := (HR.out.tag i _ (blkAt_some hil)).2.2; show _ ≤ _; omega
        clear ht HST HSW
        go_wp2_with (first
          | (go_at_call 70; refine (hasWords_any y _ h HR.out hM hil HY.out).mono ?_; rintro e w1 ⟨rfl, k1, hw1⟩; rw [HT.out]; have M1 := mv_drew hM hw1; have B1 := hidden (below_is2 HBR.out hw1); have hxc1 := cell_is hxc hw1; clear hw1; obtain ⟨d0, d1, d2, d3, d4⟩ := M1.1.cells)
          | (go_at_call 71; refine (fields_any y _ (HAR.out _ B1.out) HR.out M1 hil HY.out).mono ?_; rintro e w3 ⟨g, rfl, hg, ho3, hb3⟩; have M3 := hidden (M1.below hb3); have B3 := hidden (B1.out.trans (hb3.mono B1.out.size)); have OFF := hidden (off_row (m := (blkAt r i).F.length) M1 hg); have W3 := hidden (ws_own (c := (blkAt r i).F.length) ho3 HLO.out HHI.out); clear ho3 hb3 hg)
          | (go_at_call 69; refine (takeAll_any _ (HAR.out _ B3.out) HR.out W3.out HFL.out M3.out HG.out OFF.out).mono ?_; rintro e w4 ⟨rfl, bl4, D4, hM4, ho4, hnear4⟩; have B4 := hidden (B3.out.trans (tk_below M3.out ho4)); have M4 := hidden hM4; clear hM4 ho4 hnear4))
        go_roundw
        case rel => exact ⟨k + 1, bl4, D4, by go_num, HVL.out, by rw [HV.out]; exact M4.out, B4.out⟩
        case measure => simp [intOf]; omega
    · have hle : Gk.length ≤ k := by omega
      have heq : ((k : Int) == (Gk.length : Int)) = true := by rw [beq_iff_eq]; omega
      have HE : Hid _ := HEND.out hle
      clear hle hlt
      go_wp2
      first | rw [Exit.noGoto_ret] | skip
      go_ret
      exact ⟨_, D, rfl, by rw [HE.out]; exact hM, hb⟩
end Go.Proofs.Ytcbgjkedmboifab

/-
  How what the document's own collection has moved lies in memory: a block of three cells (which arena was, which is, which blocks went), the arena that is, the row of those that went. No program is named here but by its types' numbers.
-/
namespace Go.Proofs.Ytcbgjkedmboifab
open Go.ChangeShapes Go.WideShapes Go.ChangeAt Go.RowKit Go.Deep
set_option linter.unusedVariables false
set_option maxHeartbeats 400000

/-- No two blocks' fields lie in one row. -/
def Dis (m : Nat) (V : Nat → Value) : Prop := ∀ i j, i < j → j < m → ∀ ad n c ad' n' c', V i = .slice (some ad) n c → V j = .slice (some ad') n' c' → ad.block ≠ ad'.block
/-- What has moved, told by the blocks that went: where each lies, its tag and size. -/
def LG (r : RS) (B : Nat) (G : List Nat) (L : List Blk) : Prop := L.length = G.length ∧ ∀ k i, G[k]? = some i → ∃ b, L[k]? = some b ∧ b.ad = placeG r B G k ∧ b.tag = (blkAt r i).tag ∧ b.F.length = (blkAt r i).F.length
theorem LG.map {r : RS} {B : Nat} {G : List Nat} {L : List Blk} (h : LG r B G L) : L.map (fun b => b.F.length) = (G.map (blkAt r)).map (fun b => b.F.length) := by
  apply List.ext_getElem
  · simp [h.1]
  · intro k h1 h2
    simp only [List.length_map] at h1 h2
    obtain ⟨b, e1, _, _, e4⟩ := h.2 k _ (List.getElem?_eq_getElem h2)
    have e5 : L[k] = b := by rw [List.getElem?_eq_getElem h1] at e1; simpa using e1
    simp [e5, e4]
theorem LG.len {r : RS} {B : Nat} {G : List Nat} {L : List Blk} (h : LG r B G L) : lenB L = lenG r G := lenB_congr _ _ h.map
theorem LG.nil (r : RS) (B : Nat) : LG r B [] [] := ⟨rfl, fun k i h => by simp at h⟩
theorem placeG_end (r : RS) (B : Nat) (G : List Nat) (i : Nat) : placeG r B (G ++ [i]) G.length = B + lenG r G + 1 := by
  unfold placeG; rw [List.take_append_of_le_length (Nat.le_refl _), List.take_length]
theorem LG.snoc {r : RS} {B : Nat} {G : List Nat} {L : List Blk} (h : LG r B G L) (i : Nat) (b : Blk) (h1 : b.ad = B + lenG r G + 1) (h2 : b.tag = (blkAt r i).tag) (h3 : b.F.length = (blkAt r i).F.length) : LG r B (G ++ [i]) (L ++ [b]) := by
  refine ⟨by simp [h.1], fun k j hj => ?_⟩
  rcases snoc_some hj with ⟨hj', hk⟩ | ⟨rfl, rfl⟩
  · obtain ⟨c, e1, e2, e3, e4⟩ := h.2 k j hj'
    exact ⟨c, by rw [List.getElem?_append_left (by rw [h.1]; exact hk)]; exact e1, by rw [e2, placeG_ext r B G [i] (by omega)], e3, e4⟩
  · exact ⟨b, by rw [← h.1]; simp, by rw [placeG_end]; exact h1, h2, h3⟩
theorem rptr_eq (x v : Int) (w : World) (h : -9223372036854775808 ≤ x) (h' : x ≤ 9223372036854775807) (hv : ptrW x = v) :
    Calls Try.prog 55 #[.int .i64 x] w fun e w' => e = .returned (.int .u64 v) ∧ w' = w := by
  subst hv; exact rptr_any x w h h'
/-- A word's distance. -/
theorem find_dist {s : St} {r : RS} (h : Rep s r) (x : Int) : 0 ≤ (s.find x).2 ∧ (s.find x).2 ≤ 4096 := by
  unfold St.find
  split
  · exact ⟨Int.le_refl _, by show (0 : Int) ≤ 4096; omega⟩
  · split
    · exact ⟨Int.le_refl _, by show (0 : Int) ≤ 4096; omega⟩
    · split
      · rename_i h1
        obtain ⟨_, h2⟩ := h1
        unfold St.isInr at h2
        simp only [Bool.and_eq_true, decide_eq_true_eq] at h2
        obtain ⟨i, b, hb, e⟩ := (h.blk _).1 h2.1.1
        have h3 := h2.2
        rw [← e, (h.tagAt hb).2] at h3
        have := (h.tag i b hb).2.2
        have := sizeW_lo (s.C ((addrW x).toNat - 1))
        unfold St.sizeAt at h3 ⊢
        show 0 ≤ sizeW _ ∧ sizeW _ ≤ 4096
        omega
      · exact ⟨Int.le_refl _, by show (0 : Int) ≤ 4096; omega⟩
/-- Where a number of the row of those that went lies. -/
theorem ints_cell {w : World} {B : Nat} {v : Value} {G : List Nat} (h : w.ownsRow B 3 1 v G.length (G.map fun i : Nat => Value.int .i64 (i : Int))) : ∃ (al : Option Addr) (c : Nat), v = .slice al G.length c ∧ ∀ (k i : Nat), G[k]? = some i → ∃ g, al = some ⟨g, 0, none⟩ ∧ w.cell? ⟨g, k, none⟩ = some (.int .i64 (i : Int)) := by
  rcases h.2 with ⟨e, e0⟩ | ⟨g, cap, cur, hv, hb, hg, hnc, _, hcs, htake⟩
  · refine ⟨none, 0, by rw [e, e0], fun k i hk => ?_⟩
    have := (List.getElem?_eq_some_iff.1 hk).1
    omega
  · refine ⟨some ⟨g, 0, none⟩, cap, hv, fun k i hk => ⟨g, rfl, ?_⟩⟩
    have hl := (List.getElem?_eq_some_iff.1 hk).1
    have : (cur.toList.take (G.length * 1))[k]? = some (.int .i64 (i : Int)) := by rw [htake]; simp [hk]
    rw [List.getElem?_take, if_pos (by omega)] at this
    have e2 : cur[k]? = some (.int .i64 (i : Int)) := by simpa using this
    simp [World.cell?, hg, e2]
end Go.Proofs.Ytcbgjkedmboifab

/-
  What a word will be, by the plan: move and moveAll; and what Reach tells. Condition: the arena and the plan lie in memory, and all that the words lead to has its place.
-/
namespace Go.Proofs.Ytcbgjkedmboifab
open Go.ChangeShapes Go.WideShapes Go.ChangeAt Go.RowKit Go.Deep
set_option linter.unusedVariables false
set_option maxHeartbeats 1000000
variable {p : Pl} {s : St} {r : RS} {q : Nat} {bl : Value} {G : List Nat} {D : DataW Unit}

theorem place_bound {w : World} (h : Ar w p s) (hr : Rep s r) (hG : GoodG r G) (k : Nat) : placeG r (otherB r) G k ≤ 65537 := by
  obtain ⟨g1, g2, g3⟩ := good_bound h hr hG
  have e : lenG r G = lenG r (G.take k) + lenG r (G.drop k) := by rw [← lenG_append, List.take_append_drop]
  unfold placeG
  omega
theorem newW_rng {w : World} (h : Ar w p s) (hr : Rep s r) (hG : GoodG r G) (x : Int) (h0 : 0 ≤ x) (h1 : x ≤ 18446744073709551615) : 0 ≤ newW s r (otherB r) G x ∧ newW s r (otherB r) G x ≤ 18446744073709551615 := by
  unfold newW
  cases e : leadI s r x with
  | none => exact ⟨h0, h1⟩
  | some i =>
    have := place_bound h hr hG (G.idxOf i)
    obtain ⟨d0, d1⟩ := find_dist hr x
    show 0 ≤ 2 * (_ + _) ∧ 2 * (_ + _) ≤ _
    omega
theorem move_any (x : Int) (w : World) (h : Ar w p s) (hr : Rep s r) (hM : Mv w p r q bl G D) (hG : GoodG r G) (h0 : 0 ≤ x) (h1 : x ≤ 18446744073709551615) (hin : ∀ i, leadI s r x = some i → i ∈ G) :
    Calls Try.prog 72 #[.pointer (some ⟨q + 1, 0, none⟩), .int .u64 x] w fun e w' => e = .returned (.int .u64 (newW s r (otherB r) G x)) ∧ ∃ k, w' = w.drewN k := by
  obtain ⟨c0, c1, c2, c3, c4⟩ := hM.1.cells
  rcases lead_cases hr x with ⟨f0, l0⟩ | ⟨i, b, hb, f0, l0⟩
  · have HF : Hid _ := f0
    have HV : Hid (x = newW s r (otherB r) G x) := by show _ = _; unfold newW; rw [l0]
    clear f0 l0 hin
    go_enter Try.func72, Try.ntmps72
    go_wp2_with (go_at_call 86; refine (leads_any x _ h h0 h1).mono ?_; rintro e w1 ⟨rfl, k, rfl⟩; rw [HF.out])
    go_ret
    exact ⟨ret_int HV.out, _, rfl⟩
  · have ebi := blkAt_of hb
    have hil := (List.getElem?_eq_some_iff.1 hb).1
    have hnb := hr.inside hb
    have n2 := h.n2; have t2 := h.t2; have b1 := h.b1
    have hpb := place_bound h hr hG (G.idxOf i)
    obtain ⟨d0, d1⟩ := find_dist hr x
    obtain ⟨y, hy⟩ : ∃ y : Int, y = 2 * (b.ad : Int) := ⟨_, rfl⟩
    have HF : Hid (2 * (s.find x).1 = y) := by show _ = _; rw [f0, hy]
    have y0 : 0 < y := by omega
    have y1 : y ≤ 18446744073709551615 := by omega
    have yb : (y == 0) = false := beq_eq_false_iff_ne.2 (by omega)
    have HK : Hid (keyI r i = .int .u64 y) := by show _ = _; unfold keyI; rw [ebi, hy]
    obtain ⟨P, hP⟩ : ∃ P, P = placeG r (otherB r) G (G.idxOf i) := ⟨_, rfl⟩
    have HA : Hid (∀ c : Int, D.atKey (.int .u64 y) (.lit (.int .u64 0)) = .lit (.int .u64 c) → c = 2 * (P : Int)) := fun c hc => by
      have := hM.2.2 i (hin i l0)
      rw [HK.out, hc] at this
      rw [hP]
      have e := (Lit.int.inj (DataW.lit.inj this)).2
      exact e
    have HV : Hid (2 * ((P : Int) + (s.find x).2) = newW s r (otherB r) G x) := by show _ = _; unfold newW; rw [l0, hP]
    rw [← hP] at hpb
    have HAD : Hid (addrW (2 * (P : Int)) = P) := by show _ = _; unfold addrW; rw [if_neg (by omega)]; omega
    have HPT : Hid (ptrW ((P : Int) + (s.find x).2) = 2 * ((P : Int) + (s.find x).2)) := by show _ = _; unfold ptrW; rw [if_neg (by omega)]
    clear f0 l0 hin hb ebi hnb hy hP
    obtain ⟨d, hd⟩ : ∃ d, (s.find x).2 = d := ⟨_, rfl⟩
    have HD : Hid _ := hd
    rw [hd] at HPT HV d0 d1
    clear hd
    go_enter Try.func72, Try.ntmps72
    go_wp2_with (first
      | (go_at_call 86; refine (leads_at x y d _ h h0 h1 HF.out HD.out).mono ?_; rintro e w1 ⟨rfl, k, hw1⟩; have M1 := mv_drew hM hw1; have HW := hidden hw1; clear hw1; obtain ⟨k0, k1, k2, k3, k4⟩ := M1.1.cells)
      | (at_lookup; refine wpList_lookup_own_int _ rfl _ _ 117 rfl 30 30 .u64 word_keyed Try.underlying117 Try.underlying30 (word_zero _) q _ _ rfl M1.1.map _ _ rfl (Maps.keyOf_int_mk Try.underlying30 (word_wf (Int.le_of_lt y0) y1)) ?_; intro cc hat hwc; rw [HA.out cc hat]; clear hat hwc)
      | (go_at_call 87; refine (addr_any _ _ (by omega) (by omega)).mono ?_; rintro e w' ⟨rfl, hw'⟩; rw [hw', HAD.out]; clear hw' w')
      | (go_at_call 52; refine (ptr_any _ _ (by omega) (by omega)).mono ?_; rintro e w' ⟨rfl, hw'⟩; rw [hw', HPT.out]; clear hw' w'))
    go_ret
    exact ⟨ret_int HV.out, _, HW.out⟩
/-- What has been moved so far. -/
def movedTo (Y : Nat → Int) (j k : Nat) : Int := if k < j then Y k else 0
theorem movedTo_step {w : World} {g n j : Nat} {Y : Nat → Int} (h : Own w g n (movedTo Y j)) : Own (w.setCell ⟨g, j, none⟩ (.int .u64 (Y j))) g n (movedTo Y (j + 1)) := by
  refine (h.set j (Y j)).congr (fun k hk => ?_)
  unfold movedTo
  by_cases e : k = j
  · subst e; rw [if_pos rfl, if_pos (by omega)]
  · rw [if_neg e]
    by_cases e2 : k < j
    · rw [if_pos e2, if_pos (by omega)]
    · rw [if_neg e2, if_neg (by omega)]
def AllAs (w : World) (m : Nat) (Y : Nat → Int) (e : Ending) (w' : World) : Prop := ∃ g, e = .returned (.slice (some ⟨g, 0, none⟩) m m) ∧ w.heap.size ≤ g ∧ Own w' g m Y ∧ Below w.heap.size w w'
theorem moveAll_any {al : Option Addr} {m c : Nat} {X : Nat → Int} (w : World) (h : Ar w p s) (hr : Rep s r) (hM : Mv w p r q bl G D) (hG : GoodG r G) (hx : WS w al m c X) (hm : m ≤ 100000) (hin : ∀ j, j < m → ∀ i, leadI s r (X j) = some i → i ∈ G) :
    Calls Try.prog 32 #[.pointer (some ⟨q + 1, 0, none⟩), .slice al m c] w fun e w' => AllAs w m (fun j => newW s r (otherB r) G (X j)) e w' := by
  have HAR : Hid (∀ wr, Below w.heap.size w wr → Ar wr p s) := fun wr k => h.frame (S := fun _ => False) (Only.of_below k) id id id id
  have HMV : Hid (∀ wr, Below w.heap.size w wr → Mv wr p r q bl G D) := fun wr k => hM.below k
  have HWS : Hid (∀ wr, Below w.heap.size w wr → WS wr al m c X) := fun wr k => hx.below k
  have HR : Hid _ := hr
  have HGG : Hid _ := hG
  have HIN : Hid _ := hin
  clear hr hM hG hx hin
  have hmk : ∀ w : World, (Instr.makeSlice 37 (.int .i64 (m : Int)) (.int .i64 (m : Int))).run Try.prog w = .ok (.slice (some ⟨w.heap.size, 0, none⟩) m m) (w.alloc (.cells (madeCells #[.int .u64 0] m) 30)) :=
    run_make_row' (P := Try.prog) 37 30 (.int .u64 0) 8 Try.underlying37 Try.info30 rfl .i64 .i64 m (by omega) (by omega)
  go_enter Try.func32, Try.ntmps32
  go_wp2_with fail
  have hb2 : Below w.heap.size w (w.alloc (.cells (madeCells #[.int .u64 0] m) 30)) := (Below.refl _ _).alloc (Nat.le_refl _) _
  have ho2 := own_made w m
  obtain ⟨g, hg⟩ : ∃ g, g = w.heap.size := ⟨_, rfl⟩
  have HG : Hid (w.heap.size ≤ g) := by show _ ≤ _; omega
  rw [← hg] at ho2 ⊢
  clear hg
  generalize w.alloc (.cells (madeCells #[.int .u64 0] m) 30) = w2 at *
  go_loopw [13] (fun i wr => ∃ j : Nat, j ≤ m ∧ i = .int .i64 j ∧ Own wr g m (movedTo (fun j => newW s r (otherB r) G (X j)) j) ∧ Below w.heap.size w wr) (fun i _ => m - (intOf i).toNat)
  case atStart => exact ⟨0, Nat.zero_le _, rfl, ho2.congr (fun k _ => rfl), hb2⟩
  case round =>
    clear ho2 hb2
    obtain ⟨j, hj, rfl, ho, hbr⟩ := hrel
    have h := HAR.out wr hbr
    have hM := HMV.out wr hbr
    have hx := HWS.out wr hbr
    by_cases hlt : j < m
    · obtain ⟨x, rfl, hxc⟩ := hx.cell j hlt
      have z0 := hx.lo j hlt
      have z1 := hx.hi j hlt
      have x1 : (0 : Int) ≤ (j : Int) := by omega
      have x2 : (j : Int) < (m : Int) := by omega
      have HIJ : Hid _ := HIN.out j hlt
      have HO := hidden ho
      have HBR := hidden hbr
      obtain ⟨y, hy⟩ : ∃ y, y = newW s r (otherB r) G (X j) := ⟨_, rfl⟩
      have HY : Hid (newW s r (otherB r) G (X j) = y) := hy.symm
      clear ho hbr hx hy
      go_wp2_with (go_at_call 72; refine (move_any _ _ h HR.out hM HGG.out z0 z1 HIJ.out).mono ?_; rintro e w3 ⟨rfl, k3, hw3⟩; rw [HY.out]; have ho3 := hidden (own_is HO.out hw3); have hb3 := hidden (below_is2 HBR.out hw3); clear hw3; have k1 := ho3.out.cell hlt; have k2 := ho3.out.frozen j)
      go_roundw
      case rel => exact ⟨j + 1, by omega, by go_num, by rw [← HY.out]; exact movedTo_step ho3.out, below_set hb3.out HG.out _ _⟩
      case measure => simp [intOf]; omega
    · have ej : j = m := by omega
      subst ej
      have hnl : ¬ ((j : Int) < (j : Int)) := by omega
      go_wp2
      go_ret
      exact ⟨g, rfl, HG.out, ho.congr (fun k hk => by unfold movedTo; rw [if_pos hk]), hbr⟩
theorem adW_eq (r : RS) (G : List Nat) : adW r G = fun i => 2 * ((blkAt r (G.getD i 0)).ad : Int) := rfl
end Go.Proofs.Ytcbgjkedmboifab

/-
  A block as it will lie in the other half: twin and twins. Condition: the arena and the plan lie in memory, and all that the block's words lead to has its place.
  All blocks as they will lie in the other half, in a row of their own. Condition: the arena and the plan of all that is in reach lie in memory.
  A block is laid as it is to be: the twin's lay. Condition: the arena lies in memory, and there is room.
-/
namespace Go.Proofs.Ytcbgjkedmboifab
open Go.ChangeShapes Go.WideShapes Go.ChangeAt Go.RowKit Go.Deep
set_option linter.unusedVariables false
set_option maxHeartbeats 1000000
variable {p : Pl} {s : St} {r : RS} {q : Nat} {bl : Value} {G : List Nat} {D : DataW Unit}

theorem two_cells {w : World} {b : Nat} {x0 x1 : Value} {t : TypeId} (h : w.heap[b]? = some (.cells #[x0, x1] t (0, 0))) : (w.cell? ⟨b, 0, none⟩ = some x0 ∧ w.cell? ⟨b, 1, none⟩ = some x1) ∧ ∀ i, w.frozen? ⟨b, i, none⟩ = false := by
  refine ⟨⟨?_, ?_⟩, fun i => ?_⟩ <;> simp [World.cell?, World.frozen?, h]
theorem two_store {w : World} {b : Nat} {x0 x1 : Value} {t : TypeId} (h : w.heap[b]? = some (.cells #[x0, x1] t (0, 0))) (y0 y1 : Value) : ((w.setCell ⟨b, 0, none⟩ y0).setCell ⟨b, 1, none⟩ y1).heap[b]? = some (.cells #[y0, y1] t (0, 0)) := by
  simp [World.setCell, Array.getElem?_modify, h]
/-- The fields of a block as they will be. -/
def newF (s : St) (r : RS) (G : List Nat) (i : Nat) : List Int := if (blkAt r i).tag = 202 then (blkAt r i).F else (blkAt r i).F.map (newW s r (otherB r) G)
theorem newF_len (s : St) (r : RS) (G : List Nat) (i : Nat) : (newF s r G i).length = (blkAt r i).F.length := by unfold newF; split <;> simp
structure TwS (w0 wr : World) (p : Pl) (s : St) (r : RS) (q : Nat) (bl : Value) (G : List Nat) (D : DataW Unit) : Prop where
  mv : Mv wr p r q bl G D
  ar : Ar wr p s
  be : Below w0.heap.size w0 wr
  hb : wr.heap[w0.heap.size]? = some (.cells #[.int .i64 0, .slice none 0 0] 74 (0, 0))
theorem TwS.step {w0 wr w2 : World} (h : TwS w0 wr p s r q bl G D) (k : Below wr.heap.size wr w2) : TwS w0 w2 p s r q bl G D :=
  ⟨h.mv.below k, h.ar.frame (S := fun _ => False) (Only.of_below k) id id id id, h.be.trans (k.mono h.be.size), (k.block _ (lt_of_some h.hb)).trans h.hb⟩
theorem tws_start {w : World} (h : Ar w p s) (hM : Mv w p r q bl G D) : TwS w (w.alloc (.cells #[.int .i64 0, .slice none 0 0] 74)) p s r q bl G D :=
  have k : Below w.heap.size w (w.alloc (.cells #[.int .i64 0, .slice none 0 0] 74)) := (Below.refl _ _).alloc (Nat.le_refl _) _
  ⟨hM.below k, h.alloc _, k, blk_alloc_new _ _⟩
def TwinAs (w : World) (t : Int) (F : List Int) (e : Ending) (w' : World) : Prop := ∃ g, e = .returned (.agg #[.int .i64 t, .slice (some ⟨g, 0, none⟩) F.length F.length]) ∧ w.heap.size ≤ g ∧ Own w' g F.length (fun j => F.getD j 0) ∧ Below w.heap.size w w'
theorem own_two {w : World} {g b n : Nat} {X : Nat → Int} (h : Own w g n X) (hne : g ≠ b) (y0 y1 : Value) : Own ((w.setCell ⟨b, 0, none⟩ y0).setCell ⟨b, 1, none⟩ y1) g n X :=
  h.frame (S := fun k => k = b) (((Only.refl (fun k => k = b) _).setCell (a := ⟨b, 0, none⟩) (Or.inr rfl) y0).setCell (a := ⟨b, 1, none⟩) (Or.inr rfl) y1) hne
theorem below_two' {w w0 : World} {B b : Nat} (h : Below B w w0) (hb : B ≤ b) (y0 y1 : Value) : Below B w ((w0.setCell ⟨b, 0, none⟩ y0).setCell ⟨b, 1, none⟩ y1) := (h.setCell (p := ⟨b, 0, none⟩) hb y0).setCell (p := ⟨b, 1, none⟩) hb y1
theorem below_alloc (w : World) (o : Obj) : Below w.heap.size w (w.alloc o) := (Below.refl _ _).alloc (Nat.le_refl _) o
theorem Own.below' {w : World} {g n : Nat} {X : Nat → Int} (h : Own w g n X) (o : Obj) : Own (w.alloc o) g n X := h.of_block (blk_alloc_lt _ _ _ h.lt)
theorem blk_is {w w1 : World} {b k : Nat} {o : Obj} (h : w.heap[b]? = some o) (e : w1 = w.drewN k) : w1.heap[b]? = some o := by rw [e]; exact h
theorem twin_text {i : Nat} (y : Int) (w : World) (h : Ar w p s) (hr : Rep s r) (hM : Mv w p r q bl G D) (hi : i < r.L.length) (hy : y = 2 * ((blkAt r i).ad : Int)) (ht : (blkAt r i).tag = 202) :
    Calls Try.prog 73 #[.pointer (some ⟨q + 1, 0, none⟩), .int .u64 y] w fun e w' => TwinAs w (blkAt r i).tag (newF s r G i) e w' := by
  have hb := blkAt_some hi
  have hin := hr.inside hb
  have n2 := h.n2; have t2 := h.t2; have b1 := h.b1
  have HY : Hid _ := hy
  have y0 : 0 ≤ y := by omega
  have y1 : y ≤ 18446744073709551615 := by omega
  have HT : Hid (s.tag y = (blkAt r i).tag) := by show _ = _; rw [hy]; exact hr.tagOf hb (by omega)
  have HTF : Hid (((blkAt r i).tag != 202) = false) := by show _ = _; rw [ht]; rfl
  have HNF : Hid (newF s r G i = (blkAt r i).F) := by show _ = _; unfold newF; rw [if_pos ht]
  have HR : Hid _ := hr
  have HS : Hid _ := tws_start h hM
  obtain ⟨c0, c1, c2, c3, c4⟩ := HS.out.mv.1.cells
  clear hy hb hin ht hr hM h
  go_enter Try.func73, Try.ntmps73
  go_wp2_with (first
    | (go_at_call 42; refine (tag_of y _ HS.out.ar y0 y1).mono ?_; rintro e w1 ⟨rfl, k, hw1⟩; rw [HT.out]; have S1 := hidden (HS.out.step (below_is hw1)); clear hw1)
    | (go_at_call 71; refine (fields_any y _ S1.out.ar HR.out S1.out.mv hi HY.out).mono ?_; rintro e w2 ⟨g, rfl, hg, ho2, hb2⟩; have S2 := hidden (S1.out.step hb2); have G2 := hidden (Nat.lt_of_lt_of_le (lt_of_some S1.out.hb) hg); have O2 := hidden ho2; have K2 := hidden (Nat.le_of_lt ho2.lt); clear ho2 hb2 hg)
    | (go_at_call 70; refine (hasWords_any y _ (S2.out.step (below_alloc _ _)).ar HR.out (S2.out.step (below_alloc _ _)).mv hi HY.out).mono ?_; rintro e w3 ⟨rfl, k, hw3⟩; rw [HTF.out]; have S3 := hidden ((S2.out.step (below_alloc _ _)).step (below_is hw3)); have O3 := hidden (own_is (O2.out.below' _) hw3); have h5 := blk_is (blk_alloc_new _ _) hw3; clear hw3; obtain ⟨⟨k0, k1⟩, k2⟩ := two_cells h5; obtain ⟨⟨k3, k4⟩, k5⟩ := two_cells S3.out.hb))
  refine bodyPost_ret (results_cell_row rfl _ _ w.heap.size 74 #[.int .i64 (blkAt r i).tag, .slice (some ⟨g, 0, none⟩) (blkAt r i).F.length (blkAt r i).F.length] (0, 0) _ rfl (two_store S3.out.hb _ _) Try.underlying74 rfl (by kernel_rfl)) rfl ?_
  unfold TwinAs
  rw [HNF.out]
  exact ⟨g, rfl, Nat.le_of_lt G2.out, own_two O3.out (by have := G2.out; omega) _ _, below_two' S3.out.be (Nat.le_refl _) _ _⟩
theorem own_three {w : World} {g b c n : Nat} {X : Nat → Int} (h : Own w g n X) (hb : g ≠ b) (hc : g ≠ c) (v y0 y1 : Value) : Own (((w.setCell ⟨c, 1, none⟩ v).setCell ⟨b, 0, none⟩ y0).setCell ⟨b, 1, none⟩ y1) g n X :=
  own_two (h.frame (S := fun k => k = c) ((Only.refl (fun k => k = c) _).setCell (a := ⟨c, 1, none⟩) (Or.inr rfl) v) hc) hb y0 y1
theorem blk_set {w : World} {b c : Nat} {o : Obj} (h : w.heap[b]? = some o) (hne : b ≠ c) (v : Value) : (w.setCell ⟨c, 1, none⟩ v).heap[b]? = some o :=
  ((Only.refl (fun k => k = c) w).setCell (a := ⟨c, 1, none⟩) (Or.inr rfl) v).block b (lt_of_some h) hne |>.trans h
theorem newF_words {s : St} {r : RS} {G : List Nat} {i : Nat} (ht : ¬ (blkAt r i).tag = 202) {j : Nat} (hj : j < (blkAt r i).F.length) : (newF s r G i).getD j 0 = newW s r (otherB r) G ((blkAt r i).F.getD j 0) := by
  unfold newF
  rw [if_neg ht, List.getD_eq_getElem?_getD, List.getD_eq_getElem?_getD, List.getElem?_map, List.getElem?_eq_getElem hj]
  rfl
theorem twin_words {i : Nat} (y : Int) (w : World) (h : Ar w p s) (hr : Rep s r) (hM : Mv w p r q bl G D) (hG : GoodG r G) (hi : i < r.L.length) (hy : y = 2 * ((blkAt r i).ad : Int)) (ht : ¬ (blkAt r i).tag = 202) (hfl : ∀ x, x ∈ wordsOf (blkAt r i) → ∀ j, leadI s r x = some j → j ∈ G) :
    Calls Try.prog 73 #[.pointer (some ⟨q + 1, 0, none⟩), .int .u64 y] w fun e w' => TwinAs w (blkAt r i).tag (newF s r G i) e w' := by
  have hb := blkAt_some hi
  have hin := hr.inside hb
  have n2 := h.n2; have t2 := h.t2; have b1 := h.b1
  have HY : Hid _ := hy
  have y0 : 0 ≤ y := by omega
  have y1 : y ≤ 18446744073709551615 := by omega
  have HT : Hid (s.tag y = (blkAt r i).tag) := by show _ = _; rw [hy]; exact hr.tagOf hb (by omega)
  have HTF : Hid (((blkAt r i).tag != 202) = true) := by show _ = _; rw [bne_iff_ne]; exact ht
  have HNF : Hid (∀ j, j < (blkAt r i).F.length → newW s r (otherB r) G ((blkAt r i).F.getD j 0) = (newF s r G i).getD j 0) := fun j hj => (newF_words ht hj).symm
  have HNL : Hid ((newF s r G i).length = (blkAt r i).F.length) := newF_len s r G i
  have HLO : Hid (∀ j, j < (blkAt r i).F.length → 0 ≤ (blkAt r i).F.getD j 0) := fun j _ => (Rep.fieldLo h hr hb j).1
  have HHI : Hid (∀ j, j < (blkAt r i).F.length → (blkAt r i).F.getD j 0 ≤ 18446744073709551615) := fun j _ => (Rep.fieldLo h hr hb j).2
  have HFL : Hid ((blkAt r i).F.length ≤ 100000) := by have := (hr.tag i _ hb).2.2; show _ ≤ _; omega
  have HIN : Hid (∀ j, j < (blkAt r i).F.length → ∀ k, leadI s r ((blkAt r i).F.getD j 0) = some k → k ∈ G) := fun j hj k hk => by
    refine hfl _ ?_ k hk
    unfold wordsOf
    rw [if_neg ht, List.getD_eq_getElem?_getD, List.getElem?_eq_getElem hj]
    exact List.getElem_mem hj
  have HR : Hid _ := hr
  have HG : Hid (GoodG r G) := hG
  have HS : Hid _ := tws_start h hM
  obtain ⟨c0, c1, c2, c3, c4⟩ := HS.out.mv.1.cells
  clear hy hb hin ht hr hM h hfl hG
  go_enter Try.func73, Try.ntmps73
  go_wp2_with (first
    | (go_at_call 42; refine (tag_of y _ HS.out.ar y0 y1).mono ?_; rintro e w1 ⟨rfl, k, hw1⟩; rw [HT.out]; have S1 := hidden (HS.out.step (below_is hw1)); clear hw1)
    | (go_at_call 71; refine (fields_any y _ S1.out.ar HR.out S1.out.mv hi HY.out).mono ?_; rintro e w2 ⟨g, rfl, hg, ho2, hb2⟩; have S2 := hidden (S1.out.step hb2); have O2 := hidden ho2; clear ho2 hb2 hg)
    | (go_at_call 70; refine (hasWords_any y _ (S2.out.step (below_alloc _ _)).ar HR.out (S2.out.step (below_alloc _ _)).mv hi HY.out).mono ?_; rintro e w3 ⟨rfl, k, hw3⟩; rw [HTF.out]; have S3 := hidden ((S2.out.step (below_alloc _ _)).step (below_is hw3)); have O3 := hidden (own_is (O2.out.below' _) hw3); have h5 := blk_is (blk_alloc_new _ _) hw3; clear hw3; have q5 := lt_of_some S2.out.hb; obtain ⟨⟨k0, k1⟩, k2⟩ := two_cells h5; obtain ⟨⟨k3, k4⟩, k5⟩ := two_cells S3.out.hb)
    | (go_at_call 32; refine (moveAll_any _ S3.out.ar HR.out S3.out.mv HG.out (ws_own (c := (blkAt r i).F.length) O3.out HLO.out HHI.out) HFL.out HIN.out).mono ?_; rintro e w4 ⟨g4, rfl, hg4, ho4, hb4⟩; have S4 := hidden (S3.out.step hb4); have G4 := hidden hg4; have O4 := hidden ho4; have h6 := (hb4.block _ (lt_of_some h5)).trans h5; have G6 := hidden (lt_of_some h5); obtain ⟨⟨l0, l1⟩, l2⟩ := two_cells h6; obtain ⟨⟨l3, l4⟩, l5⟩ := two_cells S4.out.hb; have ne1 : w.heap.size ≠ w2.heap.size := Nat.ne_of_lt q5; have ne2 : w2.heap.size ≠ w.heap.size := fun e => ne1 e.symm; clear ho4 hb4 hg4 h6 h5 k0 k1 k2 k3 k4 k5))
  refine bodyPost_ret (results_cell_row rfl _ _ w.heap.size 74 #[.int .i64 (blkAt r i).tag, .slice (some ⟨g4, 0, none⟩) (blkAt r i).F.length (blkAt r i).F.length] (0, 0) _ rfl (two_store (blk_set S4.out.hb ne1 _) _ _) Try.underlying74 rfl (by kernel_rfl)) rfl ?_
  have i1 := G4.out
  have i2 := G6.out
  have i3 := S3.out.be.size
  have i4 := lt_of_some S3.out.hb
  unfold TwinAs
  rw [HNL.out]
  refine ⟨g4, rfl, by omega, own_three (O4.out.congr HNF.out) (by omega) (by omega) _ _ _, below_two' (S4.out.be.setCell (p := ⟨w2.heap.size, 1, none⟩) ?_ _) (Nat.le_refl _) _ _⟩
  show w.heap.size ≤ w2.heap.size
  omega
theorem twin_any {i : Nat} (y : Int) (w : World) (h : Ar w p s) (hr : Rep s r) (hM : Mv w p r q bl G D) (hG : GoodG r G) (hi : i < r.L.length) (hy : y = 2 * ((blkAt r i).ad : Int)) (hfl : ∀ x, x ∈ wordsOf (blkAt r i) → ∀ j, leadI s r x = some j → j ∈ G) :
    Calls Try.prog 73 #[.pointer (some ⟨q + 1, 0, none⟩), .int .u64 y] w fun e w' => TwinAs w (blkAt r i).tag (newF s r G i) e w' := by
  by_cases ht : (blkAt r i).tag = 202
  · exact twin_text y w h hr hM hi hy ht
  · exact twin_words y w h hr hM hG hi hy ht hfl
end Go.Proofs.Ytcbgjkedmboifab

namespace Go.Proofs.Ytcbgjkedmboifab
open Go.ChangeShapes Go.WideShapes Go.ChangeAt Go.RowKit Go.Deep
set_option linter.unusedVariables false
set_option maxHeartbeats 1000000
variable {p : Pl} {s : St} {r : RS} {q : Nat} {bl : Value} {G : List Nat} {D : DataW Unit}

theorem Try.info74 : (Try.prog.info? 74).map (fun i => (i.zero, i.size, i.bytes)) = some (some (.agg #[.int .i64 0, .slice none 0 0]), 2, 32) := by kernel_rfl
theorem run_make_twins (n : Nat) (hn : n ≤ 1000000) (w : World) :
    (Instr.makeSlice 71 (.int .i64 (n : Int)) (.int .i64 (n : Int))).run Try.prog w = .ok (.slice (some ⟨w.heap.size, 0, none⟩) n n) (w.alloc (.cells (madeCells #[.int .i64 0, .slice none 0 0] (n * 2)) 74)) := by
  obtain ⟨i, hi, hz0, hz1, hz2⟩ := info_parts Try.info74
  have hr := run_make (P := Try.prog) w 71 74 i _ Try.underlying71 hi hz0 .i64 .i64 n n (by omega) (Int.le_refl _) (by rw [hz2]; omega) (by omega)
  simp only [Int.toNat_natCast, hz1] at hr
  exact hr
/-- A row of n twins, the first j as they are to be. -/
def TwRow (w : World) (g n j B : Nat) (T : Nat → Int) (F : Nat → List Int) : Prop := ∃ (f : Nat → Value) (gs : Nat → Nat), w.rowIs g 74 (n * 2) f ∧
  ∀ k, k < j → f (k * 2) = .int .i64 (T k) ∧ f (k * 2 + 1) = .slice (some ⟨gs k, 0, none⟩) (F k).length (F k).length ∧ B ≤ gs k ∧ gs k ≠ g ∧ Own w (gs k) (F k).length (fun i => (F k).getD i 0)
theorem twrow_start (w : World) (n B : Nat) (T : Nat → Int) (F : Nat → List Int) : TwRow (w.alloc (.cells (madeCells #[.int .i64 0, .slice none 0 0] (n * 2)) 74)) w.heap.size n 0 B T F := by
  refine ⟨fun c => (madeCells #[.int .i64 0, .slice none 0 0] (n * 2)).getD c undef, fun _ => 0, ⟨_, blk_alloc_new _ _, size_madeCells _ _, fun i hi => ?_⟩, fun k hk => absurd hk (Nat.not_lt_zero _)⟩
  have hs : i < (madeCells #[.int .i64 0, .slice none 0 0] (n * 2)).size := by rw [size_madeCells]; exact hi
  rw [Array.getElem?_eq_getElem hs]
  simp [Array.getD, hs]
theorem TwRow.frame {w w' : World} {g n j B : Nat} {T : Nat → Int} {F : Nat → List Int} {S : Nat → Prop} (h : TwRow w g n j B T F) (k : Only S w w') (h1 : ¬ S g) (h2 : ∀ c, B ≤ c → c < w.heap.size → ¬ S c) : TwRow w' g n j B T F := by
  obtain ⟨f, gs, hr, hk⟩ := h
  refine ⟨f, gs, k.row hr h1, fun i hi => ?_⟩
  obtain ⟨a1, a2, a3, a4, a5⟩ := hk i hi
  exact ⟨a1, a2, a3, a4, a5.frame k (h2 _ a3 a5.lt)⟩
theorem TwRow.below {w w' : World} {g n j B : Nat} {T : Nat → Int} {F : Nat → List Int} (h : TwRow w g n j B T F) (k : Below w.heap.size w w') : TwRow w' g n j B T F := h.frame (S := fun _ => False) (Only.of_below k) id (fun _ _ _ => id)
theorem TwRow.is {w : World} {g n j B : Nat} {T : Nat → Int} {F : Nat → List Int} (h : TwRow w g n j B T F) : ∃ f, w.rowIs g 74 (n * 2) f := by
  obtain ⟨f, gs, hr, _⟩ := h
  exact ⟨f, hr⟩
def updN (gs : Nat → Nat) (j gn k : Nat) : Nat := if k = j then gn else gs k
theorem updN_same (gs : Nat → Nat) (j gn : Nat) : updN gs j gn j = gn := if_pos rfl
theorem updN_ne (gs : Nat → Nat) {j gn k : Nat} (h : k ≠ j) : updN gs j gn k = gs k := if_neg h
theorem TwRow.step {w : World} {g n j B gn : Nat} {T : Nat → Int} {F : Nat → List Int} (h : TwRow w g n j B T F) (hj : j < n) (hB : B ≤ gn) (hne : gn ≠ g) (ho : Own w gn (F j).length (fun i => (F j).getD i 0)) :
    TwRow ((w.setCell ⟨g, j * 2, none⟩ (.int .i64 (T j))).setCell ⟨g, j * 2 + 1, none⟩ (.slice (some ⟨gn, 0, none⟩) (F j).length (F j).length)) g n (j + 1) B T F := by
  obtain ⟨f, gs, hr, hk⟩ := h
  have o : Only (fun k => k = g) w ((w.setCell ⟨g, j * 2, none⟩ (.int .i64 (T j))).setCell ⟨g, j * 2 + 1, none⟩ (.slice (some ⟨gn, 0, none⟩) (F j).length (F j).length)) :=
    ((Only.refl (fun k => k = g) w).setCell (a := ⟨g, j * 2, none⟩) (Or.inr rfl) _).setCell (a := ⟨g, j * 2 + 1, none⟩) (Or.inr rfl) _
  refine ⟨_, updN gs j gn, (hr.set (j * 2) (.int .i64 (T j))).set (j * 2 + 1) (.slice (some ⟨gn, 0, none⟩) (F j).length (F j).length), fun k hkj => ?_⟩
  by_cases e : k = j
  · subst e
    refine ⟨?_, ?_, ?_, ?_, ?_⟩
    · show (if k * 2 = k * 2 + 1 then _ else if k * 2 = k * 2 then _ else _) = _
      rw [if_neg (by omega), if_pos rfl]
    · show (if k * 2 + 1 = k * 2 + 1 then _ else _) = _
      rw [if_pos rfl, updN_same]
    · rw [updN_same]; exact hB
    · rw [updN_same]; exact hne
    · rw [updN_same]; exact ho.frame o hne
  · obtain ⟨a1, a2, a3, a4, a5⟩ := hk k (by omega)
    refine ⟨?_, ?_, ?_, ?_, ?_⟩
    · show (if k * 2 = j * 2 + 1 then _ else if k * 2 = j * 2 then _ else f (k * 2)) = _
      rw [if_neg (by omega), if_neg (by omega)]; exact a1
    · show (if k * 2 + 1 = j * 2 + 1 then _ else if k * 2 + 1 = j * 2 then _ else f (k * 2 + 1)) = _
      rw [if_neg (by omega), if_neg (by omega), updN_ne gs e]; exact a2
    · rw [updN_ne gs e]; exact a3
    · rw [updN_ne gs e]; exact a4
    · rw [updN_ne gs e]; exact a5.frame o a4
theorem TwRow.cells {w : World} {g n j B k : Nat} {T : Nat → Int} {F : Nat → List Int} (h : TwRow w g n j B T F) (hj : j ≤ n) (hk : k < j) : ∃ gk, w.cell? ⟨g, k * 2, none⟩ = some (.int .i64 (T k)) ∧ w.cell? ⟨g, k * 2 + 1, none⟩ = some (.slice (some ⟨gk, 0, none⟩) (F k).length (F k).length) ∧ B ≤ gk ∧ Own w gk (F k).length (fun i => (F k).getD i 0) := by
  obtain ⟨f, gs, hr, h2⟩ := h
  obtain ⟨a1, a2, a3, a4, a5⟩ := h2 k hk
  exact ⟨gs k, (hr.cell (by omega)).trans (congrArg some a1), (hr.cell (by omega)).trans (congrArg some a2), a3, a5⟩
def TwinsAs (w : World) (n : Nat) (T : Nat → Int) (F : Nat → List Int) (e : Ending) (w' : World) : Prop := ∃ g, e = .returned (.slice (some ⟨g, 0, none⟩) n n) ∧ w.heap.size ≤ g ∧ TwRow w' g n n w.heap.size T F ∧ Below w.heap.size w w'
def tagG (r : RS) (G : List Nat) (k : Nat) : Int := (blkAt r (G.getD k 0)).tag
def fldG (s : St) (r : RS) (G : List Nat) (k : Nat) : List Int := newF s r G (G.getD k 0)
theorem twins_any (w : World) (h : Ar w p s) (hr : Rep s r) (hM : Mv w p r q bl G D) (hG : GoodG r G) (hfl : ∀ i, i ∈ G → ∀ x, x ∈ wordsOf (blkAt r i) → ∀ j, leadI s r x = some j → j ∈ G) :
    Calls Try.prog 33 #[.pointer (some ⟨q + 1, 0, none⟩)] w fun e w' => TwinsAs w G.length (tagG r G) (fldG s r G) e w' := by
  have HAR : Hid (∀ wr, Below w.heap.size w wr → Ar wr p s) := fun wr k => h.frame (S := fun _ => False) (Only.of_below k) id id id id
  have HMV : Hid (∀ wr, Below w.heap.size w wr → Mv wr p r q bl G D) := fun wr k => hM.below k
  have hbd := (good_bound h hr hG).2.1
  have HR : Hid _ := hr
  have HGG : Hid (GoodG r G) := hG
  have HFL : Hid _ := hfl
  obtain ⟨al, cb, ebl, hws, hal⟩ := mv_bl h hr hG hM
  have HWS : Hid (∀ wr, Below w.heap.size w wr → WS wr al G.length cb (adW r G)) := fun wr k => hws.below k
  obtain ⟨c0, c1, c2, c3, c4⟩ := hM.1.cells
  rw [ebl] at c3
  have hmk := run_make_twins G.length (by omega)
  have HS : Hid (∀ o, (w.alloc o).cell? ⟨q + 1, 3, none⟩ = some (.slice al G.length cb)) := fun o => by
    have := (hM.below (below_alloc w o)).1.cells.2.2.2.1
    rw [ebl] at this; exact this
  have k3 := HS.out (.cells (madeCells #[.int .i64 0, .slice none 0 0] (G.length * 2)) 74)
  clear hr hM hG hfl hws hal
  go_enter Try.func33, Try.ntmps33
  go_wp2_with fail
  have hb2 : Below w.heap.size w (w.alloc (.cells (madeCells #[.int .i64 0, .slice none 0 0] (G.length * 2)) 74)) := (Below.refl _ _).alloc (Nat.le_refl _) _
  have ho2 := fun B => twrow_start w G.length B (tagG r G) (fldG s r G)
  obtain ⟨g, hg⟩ : ∃ g, g = w.heap.size := ⟨_, rfl⟩
  have HG : Hid (w.heap.size ≤ g) := by show _ ≤ _; omega
  have HG2 : Hid (g < (w.alloc (.cells (madeCells #[.int .i64 0, .slice none 0 0] (G.length * 2)) 74)).heap.size) := by show _ < _; rw [nblk_alloc]; omega
  rw [← hg] at ho2 ⊢
  clear hg k3
  generalize w.alloc (.cells (madeCells #[.int .i64 0, .slice none 0 0] (G.length * 2)) 74) = w2 at *
  go_loopw [17] (fun i wr => ∃ j : Nat, j ≤ G.length ∧ i = .int .i64 j ∧ TwRow wr g G.length j w.heap.size (tagG r G) (fldG s r G) ∧ Below w.heap.size w wr) (fun i _ => G.length - (intOf i).toNat)
  case atStart => exact ⟨0, Nat.zero_le _, rfl, ho2 _, hb2⟩
  case round =>
    clear ho2 hb2 HG2
    obtain ⟨j, hj, rfl, ho, hbr⟩ := hrel
    have h := HAR.out wr hbr
    have hM := HMV.out wr hbr
    by_cases hlt : j < G.length
    · obtain ⟨x, rfl, hxc⟩ := (HWS.out wr hbr).cell j hlt
      obtain ⟨i, hi⟩ : ∃ i, G[j]? = some i := ⟨_, List.getElem?_eq_getElem hlt⟩
      have hiG := List.mem_of_getElem? hi
      have hil : i < r.L.length := HGG.out.2 i hiG
      have hgi : G.getD j 0 = i := by rw [List.getD_eq_getElem?_getD, hi]; rfl
      obtain ⟨y, hy⟩ : ∃ y : Int, y = 2 * ((blkAt r i).ad : Int) := ⟨_, rfl⟩
      have hay : adW r G j = y := by unfold adW; rw [hgi, hy]
      rw [hay] at hxc
      have x1 : (0 : Int) ≤ (j : Int) := by omega
      have x2 : (j : Int) < (G.length : Int) := by omega
      have HY : Hid _ := hy
      have HT : Hid ((blkAt r i).tag = tagG r G j) := by show _ = _; unfold tagG; rw [hgi]
      have HF : Hid (newF s r G i = fldG s r G j) := by show _ = _; unfold fldG; rw [hgi]
      have HFI : Hid _ := HFL.out i hiG
      have HO := hidden ho
      have HBR := hidden hbr
      have hgl := (HO.out.is).choose_spec.lt
      clear hy hay hgi hi hiG ho hbr
      go_wp2_with (go_at_call 73; refine (twin_any y _ h HR.out hM HGG.out hil HY.out HFI.out).mono ?_; rw [HT.out, HF.out]; rintro e w3 ⟨gn, rfl, hgn, ho3, hb3⟩; have R3 := hidden (HO.out.below hb3); have B3 := hidden (HBR.out.trans (hb3.mono HBR.out.size)); have O3 := hidden ho3; have GN := hidden (Nat.le_trans HBR.out.size hgn); have NE := hidden (Nat.ne_of_gt (Nat.lt_of_lt_of_le hgl hgn)); obtain ⟨f3, hf3⟩ := R3.out.is; have k1 := hf3.cell (i := j * 2) (by omega); have k2 := hf3.cell (i := j * 2 + 1) (by omega); have k3 := hf3.frozen (j * 2); have k4 := hf3.frozen (j * 2 + 1); clear hf3 ho3 hb3 hgn)
      go_roundw
      case rel => exact ⟨j + 1, by omega, by go_num, R3.out.step hlt GN.out NE.out O3.out, below_set (below_set B3.out HG.out _ _) HG.out _ _⟩
      case measure => simp [intOf]; omega
    · have ej : j = G.length := by omega
      have HE : Hid _ := ej
      have hnl : ¬ ((j : Int) < (G.length : Int)) := by omega
      clear ej
      go_wp2
      go_ret
      exact ⟨g, rfl, HG.out, by rw [← HE.out]; rw [← HE.out] at ho; exact ho, hbr⟩
end Go.Proofs.Ytcbgjkedmboifab

namespace Go.Proofs.Ytcbgjkedmboifab
open Go.ChangeShapes Go.WideShapes Go.ChangeAt Go.RowKit Go.Deep
set_option linter.unusedVariables false
set_option maxHeartbeats 1000000
variable {p : Pl} {s : St} {r : RS}

/-- The first j fields are written. -/
def mixF (F : List Int) (j : Nat) : List Int := F.take j ++ List.replicate (F.length - j) 1
theorem mixF_len (F : List Int) {j : Nat} (h : j ≤ F.length) : (mixF F j).length = F.length := by unfold mixF; simp; omega
theorem mixF_zero (F : List Int) : mixF F 0 = List.replicate F.length 1 := by unfold mixF; simp
theorem mixF_all (F : List Int) : mixF F F.length = F := by unfold mixF; simp
theorem mixF_set (F : List Int) {j : Nat} (h : j < F.length) : (mixF F j).set j (F.getD j 0) = mixF F (j + 1) := by
  unfold mixF
  have e1 : F.length - j = (F.length - (j + 1)) + 1 := by omega
  have hl : (F.take j).length = j := by simp; omega
  rw [List.set_append_right _ _ (by omega), hl, Nat.sub_self, e1, List.replicate_succ, List.set_cons_zero]
  rw [List.take_add_one, List.append_assoc, List.getElem?_eq_getElem h, List.getD_eq_getElem?_getD, List.getElem?_eq_getElem h]
  rfl
def layR (r : RS) (ad : Nat) (t : Int) (F : List Int) : RS := ⟨r.n, r.which, r.L ++ [⟨ad, t, F⟩]⟩
theorem lay_put {s : St} {ad : Nat} {t : Int} {F : List Int} {j : Nat} (h : Rep s (layR r ad t (mixF F j))) (hs : s.top ≤ 100000) (hj : j < F.length) : Rep (s.put (2 * (ad : Int)) j (F.getD j 0)) (layR r ad t (mixF F (j + 1))) := by
  have hb : (layR r ad t (mixF F j)).L[r.L.length]? = some ⟨ad, t, mixF F j⟩ := by unfold layR; simp
  obtain ⟨hf, _⟩ := h.word hb hs
  have h2 := (rep_put (v := F.getD j 0) (i := j) h hb (by rw [hf]) (by show j < (mixF F j).length; rw [mixF_len F (by omega)]; exact hj)).2
  have e : (layR r ad t (mixF F j)).put r.L.length ⟨ad, t, mixF F j⟩ j (F.getD j 0) = layR r ad t (mixF F (j + 1)) := by
    unfold layR RS.put
    congr 1
    show (r.L ++ [_]).set r.L.length ⟨ad, t, (mixF F j).set j (F.getD j 0)⟩ = _
    rw [mixF_set F hj, List.set_append_right _ _ (Nat.le_refl _), Nat.sub_self, List.set_cons_zero]
  rw [← e]
  exact h2
def LaidAs (w : World) (p : Pl) (r : RS) (e : Ending) (w' : World) : Prop := e = .returned (.tuple #[]) ∧ ∃ s', Ar w' p s' ∧ Rep s' r ∧ Only p.own w w'
theorem twinLay_any {t : Int} {F : List Int} {g : Nat} (w : World) (h : Ar w p s) (hr : Rep s r) (ho : Own w g F.length (fun i => F.getD i 0)) (hg : ¬ p.own g) (hlo : ∀ j, 0 ≤ F.getD j 0 ∧ F.getD j 0 ≤ 18446744073709551615) (hE : s.allocE t F.length = 0) :
    Calls Try.prog 35 #[.agg #[.int .i64 t, .slice (some ⟨g, 0, none⟩) F.length F.length], .pointer (some ⟨p.a, 0, none⟩)] w fun e w' => LaidAs w p (layR r (s.top + 1) t F) e w' := by
  have n2 := h.n2; have t1 := h.t1; have t2 := h.t2; have b1 := h.b1
  obtain ⟨_, z0, z1, g4, t0, t1'⟩ := allocE_zero hE
  have l1 := lt_of_some h.ha
  have l2 := lt_of_some h.hh
  have l3 := h.hc.lt
  have l4 := h.hb.lt
  have HOW : Hid (∀ wr, Only p.own w wr → Own wr g F.length (fun i => F.getD i 0)) := fun wr k => ho.frame k hg
  have HBB : Hid (∀ wr, Only p.own (w.alloc (.cells #[.int .i64 t, .slice (some ⟨g, 0, none⟩) F.length F.length] 74)) wr → wr.heap[w.heap.size]? = some (.cells #[.int .i64 t, .slice (some ⟨g, 0, none⟩) F.length F.length] 74 (0, 0))) := fun wr k => by
    refine (k.block _ (by rw [nblk_alloc]; omega) (fun hs => ?_)).trans (blk_alloc_new _ _)
    rcases hs with e | e | e <;> omega
  have HO2 : Hid (Only p.own w (w.alloc (.cells #[.int .i64 t, .slice (some ⟨g, 0, none⟩) F.length F.length] 74))) := (Only.refl _ _).alloc _
  have HA : Hid (s.allocE t F.length = 0) := hE
  have HW : Hid (s.allocW t F.length = 2 * ((s.top + 1 : Nat) : Int)) := by show _ = _; unfold St.allocW; rw [if_pos hE]; omega
  have HR2 : Hid (Rep (s.alloc t F.length) (layR r (s.top + 1) t (mixF F 0))) := by
    have := rep_alloc hr h.t1 hE
    rw [mixF_zero]
    unfold RS.alloc at this
    rw [Int.toNat_natCast] at this
    exact this
  have HLO : Hid _ := hlo
  have hfl : F.length ≤ 4096 := by omega
  obtain ⟨ad, had⟩ : ∃ ad, ad = s.top + 1 := ⟨_, rfl⟩
  rw [← had] at HR2 HW ⊢
  have had2 : ad ≤ 70000 := by omega
  clear hE ho hg hr had hlo
  go_enter Try.func35, Try.ntmps35
  go_wp2_with (go_at_call 21; refine (alloc_at t (F.length : Int) (2 * (ad : Int)) 0 _ (h.alloc _) HW.out HA.out).mono ?_; rintro e w2 ⟨rfl, h2, o2⟩; have H2 := hidden h2; have O2 := hidden o2; obtain ⟨⟨k0, k1⟩, k2⟩ := two_cells (HBB.out w2 o2); clear h2 o2)
  have HRR := HR2
  clear HW HA n2 t1 t2 b1 l1 l2 l3 l4
  go_loopw [21] (fun i wr => ∃ (j : Nat) (s' : St), j ≤ F.length ∧ i = .int .i64 j ∧ Ar wr p s' ∧ Rep s' (layR r ad t (mixF F j)) ∧ Only p.own w wr) (fun i _ => F.length - (intOf i).toNat)
  case atStart => exact ⟨0, _, Nat.zero_le _, rfl, H2.out, HRR.out, HO2.out.trans O2.out⟩
  case round =>
    clear HRR HR2 H2 O2 k0 k1 k2
    obtain ⟨j, s', hj, rfl, h', hr', o'⟩ := hrel
    have n2 := h'.n2; have t2 := h'.t2; have b1 := h'.b1
    by_cases hlt : j < F.length
    · have hxc := (HOW.out wr o').cell hlt
      obtain ⟨v0, v1⟩ := HLO.out j
      have HN : Hid (Rep (s'.put (2 * (ad : Int)) j (F.getD j 0)) (layR r ad t (mixF F (j + 1)))) := lay_put hr' (by omega) hlt
      have x1 : (0 : Int) ≤ (j : Int) := by omega
      have x2 : (j : Int) < (F.length : Int) := by omega
      have HFI : Hid s'.Fits := hr'.fits
      have O' : Hid _ := o'
      clear hr' o' t2 b1
      generalize F.getD j 0 = v at *
      go_wp2_with (go_at_call 23; refine (set_any (2 * (ad : Int)) j v _ h' HFI.out (by omega) (by omega) v0 v1).mono ?_; rintro e w4 ⟨rfl, h4, o4⟩; have H4 := hidden h4; have O4 := hidden (O'.out.trans o4); clear h4 o4)
      go_roundw
      case rel => exact ⟨j + 1, _, by omega, by go_num, H4.out, HN.out, O4.out⟩
      case measure => simp [intOf]; omega
    · have ej : j = F.length := by omega
      have HE : Hid _ := ej
      have hnl : ¬ ((j : Int) < (F.length : Int)) := by omega
      clear ej
      go_wp2
      go_end0
      exact ⟨rfl, s', h', by rw [HE.out, mixF_all] at hr'; exact hr', o'⟩
end Go.Proofs.Ytcbgjkedmboifab

/-
  What Flip makes of the arena's state; nothing but the arena's own blocks is written. Condition: the arena lies in memory (Ar).
-/
namespace Go.Proofs.Ytcbgjkedmboifab
open Go.ChangeShapes Go.WideShapes Go.ChangeAt Go.RowKit Go.Deep
set_option linter.unusedVariables false
set_option maxHeartbeats 1000000

theorem zero_bools (k : Nat) : (Builtin.zeroCells #[Value.bool false] k).toList = List.replicate k (.bool false) := by
  unfold Builtin.zeroCells
  apply List.ext_getElem
  · simp
  · intro i h1 h2
    simp [Nat.mod_one]
theorem run_clear (w : World) (ty : TypeId) (b k cap : Nat) (hc : ∀ j, j < k → (w.cell? ⟨b, j, none⟩).isSome = true) (hf : ∀ j, j < k → w.frozen? ⟨b, j, none⟩ = false) :
    (Builtin.clear_ #[79] ty #[.slice (some ⟨b, 0, none⟩) k cap]).run Try.prog w = .ok (.tuple #[]) (w.setCells b 0 (List.replicate k (.bool false))) := by
  obtain ⟨i0, hi, hz0, hz1, hz2⟩ := info_parts Try.info4
  cases k with
  | zero => simp [Builtin.clear_, run_underlying Try.underlying79, World.setCells, Result.andThen]
  | succ k =>
    have hst := run_storeCells_cells (P := Try.prog) b 0 (List.replicate (k + 1) (.bool false)) 0 w (fun j hj => by simpa using hc j (by simpa using hj)) (fun j hj => by simpa using hf j (by simpa using hj)) (fun v hv => by rw [List.eq_of_mem_replicate hv]; rfl)
    have hzc : (Value.bool false).cells = #[.bool false] := rfl
    simp only [Nat.zero_add] at hst
    simp [Builtin.clear_, run_underlying Try.underlying79, zeroValue, typeInfo, hi, hz0, hzc, zero_bools, Result.andThen]
    rw [hst]
theorem step_clear {ops : Array Oper} {o : Oper} {a : Act} {w : World} {K : Act → World → Prop} {Q : Exit → Act → World → Prop} {E : Prop} (hg : o.guard = none) (x : Operand)
    (hop : o.op = Op.call { callee := Callee.builtin Builtin.clear, args := #[x], argTypes := #[79] }) (b k cap : Nat) (hx : a.eval x = .slice (some ⟨b, 0, none⟩) k cap)
    (hc : ∀ j, j < k → (w.cell? ⟨b, j, none⟩).isSome = true) (hf : ∀ j, j < k → w.frozen? ⟨b, j, none⟩ = false)
    (hK : K (a.put o.dst (.tuple #[])) (w.setCells b 0 (List.replicate k (.bool false)))) :
    if Region.wanted o (yielded ops a.tmps) = true then Oper.wp Try.prog o a w K Q else E := by
  have hw : Region.wanted o (yielded ops a.tmps) = true := by simp [Region.wanted, hg]
  rw [if_pos hw]
  have hrun := run_clear w o.type b k cap hc hf
  unfold Oper.wp
  simp [execOp, hop, resolve, invoke, builtin, hx, hrun, Result.andThen]
  exact hK
theorem Ar.clears {p : Pl} : ∀ (k o : Nat) (w : World) (s : St), Ar w p s → Ar (w.setCells p.b o (List.replicate k (.bool false))) p ⟨s.n, s.base, s.top, s.C, fun i => if o ≤ i ∧ i < o + k then false else s.H i⟩ := by
  intro k
  induction k with
  | zero =>
    intro o w s h
    have e : (fun i => if o ≤ i ∧ i < o + 0 then false else s.H i) = s.H := by
      funext i; rw [if_neg (by omega)]
    rw [e]; exact h
  | succ k ih =>
    intro o w s h
    have h2 := ih (o + 1) _ _ (h.setB o false)
    have e : (fun i => if o ≤ i ∧ i < o + (k + 1) then false else s.H i) = (fun i => if o + 1 ≤ i ∧ i < o + 1 + k then false else (if i = o then false else s.H i)) := by
      funext i
      by_cases e1 : i = o
      · subst e1
        rw [if_pos (by omega), if_neg (by omega), if_pos rfl]
      · by_cases e2 : o + 1 ≤ i ∧ i < o + 1 + k
        · rw [if_pos (by omega), if_pos e2]
        · rw [if_neg (by omega), if_neg e2, if_neg e1]
    rw [e]
    exact h2
theorem Only.clears {p : Pl} {w0 : World} : ∀ (k o : Nat) (w : World), Only p.own w0 w → Only p.own w0 (w.setCells p.b o (List.replicate k (.bool false))) := by
  intro k
  induction k with
  | zero => intro o w h; exact h
  | succ k ih => intro o w h; exact ih (o + 1) _ (h.setCell (Or.inr (Or.inr (Or.inr rfl))) _)
theorem Ar.turned {w : World} {p : Pl} {s : St} (h : Ar w p s) (b : Nat) (v : Int) (hv : v = b) (hb : b = 0 ∨ b = s.n) :
    Ar ((w.setCell ⟨p.h, 2, none⟩ (.int .i64 v)).setCell ⟨p.h, 3, none⟩ (.int .i64 v)) p ⟨s.n, b, b, s.C, s.H⟩ := by
  obtain ⟨e1, e2, e3, e4, e5, e6⟩ := h.nh
  subst hv
  exact { ha := by rw [blk_setCell_other _ _ _ _ e1, blk_setCell_other _ _ _ _ e1]; exact h.ha, hh := by simp [World.setCell, Array.getElem?_modify, h.hh], hb := (h.hb.setOther (Ne.symm e5) _).setOther (Ne.symm e5) _, hc := (h.hc.setOther (Ne.symm e4) _).setOther (Ne.symm e4) _,
          n1 := h.n1, n2 := h.n2, b1 := hb, t1 := Nat.le_refl _, t2 := Nat.le_add_right _ _, lo := h.lo, hi := h.hi }
theorem turn_any {p : Pl} {s : St} (w : World) (h : Ar w p s) :
    Calls Try.prog 74 #[.pointer (some ⟨p.h, 0, none⟩)] w fun e w' => e = .returned (.tuple #[]) ∧ Ar w' p ⟨s.n, s.n - s.base, s.n - s.base, s.C, s.H⟩ ∧ Only p.own w w' := by
  obtain ⟨c0, c1, c2, c3, c4, c5, c6⟩ := h.cells
  have n2 := h.n2; have b1 := h.b1; have t1 := h.t1; have t2 := h.t2
  have e1 := wrapId (s.n - s.base) (by omega) (by omega)
  go_enter Try.func74, Try.ntmps74
  go_wp2
  go_region
  all_goals go_wp2
  all_goals go_end0
  all_goals exact ⟨rfl, (h.turned (s.n - s.base) ((s.n : Int) - s.base) (by omega) (by omega)).drewN 1, (((Only.refl _ _).setCell (Or.inr (Or.inl rfl)) _).setCell (Or.inr (Or.inl rfl)) _).drewN 1⟩
theorem flip_any {p : Pl} {s : St} (w : World) (h : Ar w p s) :
    Calls Try.prog 34 #[.pointer (some ⟨p.a, 0, none⟩)] w fun e w' => e = .returned (.tuple #[]) ∧ Ar w' p s.flip ∧ Only p.own w w' := by
  obtain ⟨c0, c1, c2, c3, c4, c5, c6⟩ := h.cells
  have n2 := h.n2; have b1 := h.b1; have t1 := h.t1; have t2 := h.t2
  have e1 := wrapId (s.top - s.base) (by omega) (by omega)
  have x1 : (0 : Int) ≤ (s.top : Int) - s.base := by omega
  have x2 : (s.top : Int) - s.base ≤ s.n := by omega
  go_enter Try.func34, Try.ntmps34
  go_upto_region 1 with (go_at_call 48; refine (orNone_any _ h).mono ?_; rintro e w' ⟨rfl, hw'⟩; rw [hw']; clear hw' w')
  go_cut [] from 4 to 23 (fun wx => Ar wx p ⟨s.n, s.base, s.top, s.C, fun i => if 0 ≤ i ∧ i < 0 + (s.top - s.base) then false else s.H i⟩ ∧ Only p.own w wx)
  case first =>
    go_region_law (refine step_clear rfl (.tmp 23) rfl p.b (s.top - s.base) s.n (by simp [Act.eval, Act.put]) (fun j hj => by have := h.cellB j (by omega); simp [this]) (fun j hj => by have := h.frozenB j; simp [this]) ?_)
    all_goals (go_wp2_with fail; go_meet; exact ⟨Ar.clears _ _ _ _ (h.drewN 1), Only.clears _ _ _ ((Only.refl _ _).drewN 1)⟩)
  case rest =>
    obtain ⟨h2, o2⟩ := hcut
    have HS : Hid (s.flip = ⟨s.n, s.n - s.base, s.n - s.base, s.C, fun i => if 0 ≤ i ∧ i < 0 + (s.top - s.base) then false else s.H i⟩) := by
      show _ = _
      unfold St.flip
      congr 1
      funext i
      rw [Nat.zero_add]
      by_cases e : i < s.top - s.base
      · rw [if_pos e, if_pos ⟨Nat.zero_le _, e⟩]
      · rw [if_neg e, if_neg (fun c => e c.2)]
    clear c0 c1 c2 c3 c4 c5 c6
    obtain ⟨c0, c1, c2, c3, c4, c5, c6⟩ := h2.cells
    go_wp2_with (go_at_call 74; refine (turn_any _ h2).mono ?_; rintro e w3 ⟨rfl, h3, o3⟩)
    go_end0
    exact ⟨rfl, by rw [HS.out]; exact h3, o2.trans o3⟩
end Go.Proofs.Ytcbgjkedmboifab

/-
  What the program's Collect tells and makes: all that is in reach lies in the other half, in the order in which it was met. Condition: the arena lies in memory, in one state with a list of blocks.
-/
namespace Go.Proofs.Ytcbgjkedmboifab
open Go.ChangeShapes Go.WideShapes Go.ChangeAt Go.RowKit Go.Deep
set_option linter.unusedVariables false
set_option maxHeartbeats 1000000
variable {p : Pl} {s : St} {r : RS} {G : List Nat}

/-- The first j blocks lie in the other half. -/
def partR (s : St) (r : RS) (G : List Nat) (j : Nat) : RS := ⟨r.n, 1 - r.which, (List.range j).map (newB s r (otherB r) G)⟩
theorem part_len (s : St) (r : RS) (G : List Nat) : ∀ (j : Nat), j ≤ G.length → lenB (partR s r G j).L = lenG r (G.take j)
  | 0, _ => by unfold partR; simp [lenB, lenG]
  | j + 1, h => by
    have ih := part_len s r G j (by omega)
    have e : (partR s r G (j + 1)).L = (partR s r G j).L ++ [newB s r (otherB r) G j] := by unfold partR; rw [List.range_succ, List.map_append]; rfl
    have e2 : G.take (j + 1) = G.take j ++ [G.getD j 0] := by
      rw [List.take_add_one, List.getD_eq_getElem?_getD, List.getElem?_eq_getElem (by omega)]; rfl
    rw [e, lenB_append, ih, e2, lenG_append, lenG_one]
    congr 1
    show lenB [newB s r (otherB r) G j] = _
    simp only [lenB]
    rw [newB_len]
    omega
theorem part_room {w : World} (h : Ar w p s) (hr : Rep s r) (hG : GoodG r G) {j : Nat} (hj : j < G.length) : lenG r (G.take j) + 1 + (blkAt r (G.getD j 0)).F.length ≤ s.n := by
  have t1 := h.t1; have t2 := h.t2; have htop := hr.top
  have g1 := (goodG_len hG).1
  have e2 : G.take (j + 1) = G.take j ++ [G.getD j 0] := by
    rw [List.take_add_one, List.getD_eq_getElem?_getD, List.getElem?_eq_getElem hj]; rfl
  have e3 : lenG r G = lenG r (G.take (j + 1)) + lenG r (G.drop (j + 1)) := by rw [← lenG_append, List.take_append_drop]
  rw [e2, lenG_append, lenG_one] at e3
  omega
/-- There is room for the next block. -/
theorem part_fits {w : World} (h : Ar w p s) (hr : Rep s r) (hG : GoodG r G) {j : Nat} (hj : j < G.length) {s' : St} (hr' : Rep s' (partR s r G j)) : s'.allocE (tagG r G j) (fldG s r G j).length = 0 ∧ s'.top + 1 = placeG r (otherB r) G j := by
  have hmem : G.getD j 0 ∈ G := by rw [List.getD_eq_getElem?_getD, List.getElem?_eq_getElem hj]; exact List.getElem_mem hj
  have hb := blkAt_some (hG.2 _ hmem)
  have hm := hr.may _ _ hb
  have ht := hr.tag _ _ hb
  have hrm := part_room h hr hG hj
  have htop := hr'.top
  rw [part_len s r G j (by omega)] at htop
  have hbase : s'.base = otherB r := hr'.base
  have hn : s'.n = s.n := hr'.n.trans hr.n.symm
  have hlen : (fldG s r G j).length = (blkAt r (G.getD j 0)).F.length := newF_len s r G _
  refine ⟨?_, ?_⟩
  · unfold St.allocE
    unfold tagG
    rw [hlen, if_neg (by rw [hm]; simp), if_neg (by omega), if_neg (by omega)]
  · unfold placeG; omega
theorem part_next {s' : St} {j : Nat} (e : s'.top + 1 = placeG r (otherB r) G j) : layR (partR s r G j) (s'.top + 1) (tagG r G j) (fldG s r G j) = partR s r G (j + 1) := by
  unfold layR partR
  rw [List.range_succ, List.map_append, e]
  rfl
theorem fld_rng {w : World} (h : Ar w p s) (hr : Rep s r) (hG : GoodG r G) {j : Nat} (hj : j < G.length) (k : Nat) : 0 ≤ (fldG s r G j).getD k 0 ∧ (fldG s r G j).getD k 0 ≤ 18446744073709551615 := by
  have hmem : G.getD j 0 ∈ G := by rw [List.getD_eq_getElem?_getD, List.getElem?_eq_getElem hj]; exact List.getElem_mem hj
  have hb := blkAt_some (hG.2 _ hmem)
  have hf := Rep.fieldLo h hr hb k
  unfold fldG
  by_cases ht : (blkAt r (G.getD j 0)).tag = 202
  · unfold newF; rw [if_pos ht]; exact hf
  · by_cases hk : k < (blkAt r (G.getD j 0)).F.length
    · rw [newF_words ht hk]; exact newW_rng h hr hG _ hf.1 hf.2
    · rw [List.getD_eq_getElem?_getD, List.getElem?_eq_none (by rw [newF_len]; omega)]
      exact ⟨Int.le_refl _, by decide⟩
theorem own_not {w : World} (h : Ar w p s) {g : Nat} (hg : w.heap.size ≤ g) : ¬ p.own g := by
  have l2 := lt_of_some h.hh
  have l3 := h.hc.lt
  have l4 := h.hb.lt
  intro hs
  rcases hs with e | e | e <;> omega
def CollectAs (w : World) (p : Pl) (r' : RS) (m : Nat) (Y : Nat → Int) (e : Ending) (w' : World) : Prop := ∃ g s', e = .returned (.slice (some ⟨g, 0, none⟩) m m) ∧ Own w' g m Y ∧ w.heap.size ≤ g ∧ Ar w' p s' ∧ Rep s' r' ∧ Only p.own w w'
set_option maxRecDepth 100000 in
theorem collect_as {al : Option Addr} {m c : Nat} {X : Nat → Int} (w : World) (h : Ar w p s) (hr : Rep s r) (hx : WS w al m c X) (hm : m ≤ 1000) :
    Calls Try.prog 12 #[.pointer (some ⟨p.a, 0, none⟩), .slice al m c] w fun e w' => CollectAs w p (collR s r (listX X m)) m (fun i => collW s r (listX X m) (X i)) e w' := by
  have HAR : Hid (∀ wr, Below w.heap.size w wr → Ar wr p s) := fun wr k => h.frame (S := fun _ => False) (Only.of_below k) id id id id
  have HWS : Hid (∀ wr, Below w.heap.size w wr → WS wr al m c X) := fun wr k => hx.below k
  have HR : Hid _ := hr
  have HX : Hid _ := hx
  have HH : Hid _ := h
  have HG : Hid (GoodG r (reachG s r (listX X m))) := reach_good hr (listX X m)
  have HIN : Hid (∀ j, j < m → ∀ i, leadI s r (X j) = some i → i ∈ reachG s r (listX X m)) := fun j hj i hi => reach_root hr (xs := listX X m) (by unfold listX; exact List.mem_map.2 ⟨j, List.mem_range.2 hj, rfl⟩) hi
  have HFL : Hid (∀ i, i ∈ reachG s r (listX X m) → ∀ x, x ∈ wordsOf (blkAt r i) → ∀ j, leadI s r x = some j → j ∈ reachG s r (listX X m)) := fun i hi x hx' j hj => by
    obtain ⟨k, hk⟩ := List.getElem?_of_mem hi
    exact reach_field hr hk hx' hj
  have HPR : Hid (Rep s.flip (partR s r (reachG s r (listX X m)) 0)) := rep_flip hr
  have HCR : Hid (collR s r (listX X m) = partR s r (reachG s r (listX X m)) (reachG s r (listX X m)).length) := rfl
  have hbd := (good_bound h hr (reach_good hr (listX X m))).2.1
  clear hr hx
  go_enter Try.func12, Try.ntmps12
  go_wp2_with (first
    | (go_at_call 31; refine (follow_any _ HH.out HR.out HX.out (by omega)).mono ?_; rintro e w1 ⟨bl, D, rfl, hM, hb⟩; have M1 := hidden hM; have B1 := hidden hb; clear hM hb)
    | (go_at_call 32; refine (moveAll_any _ (HAR.out _ B1.out) HR.out M1.out HG.out (HWS.out _ B1.out) (by omega) HIN.out).mono ?_; rintro e w2 ⟨gN, rfl, hgN, hoN, hb2⟩; have M2 := hidden (M1.out.below hb2); have B2 := hidden (B1.out.trans (hb2.mono B1.out.size)); have ON := hidden hoN; have GN := hidden (Nat.le_trans B1.out.size hgN); clear hgN hoN hb2)
    | (go_at_call 33; refine (twins_any _ (HAR.out _ B2.out) HR.out M2.out HG.out HFL.out).mono ?_; rintro e w3 ⟨gT, rfl, hgT, hoT, hb3⟩; have B3 := hidden (B2.out.trans (hb3.mono B2.out.size)); have ON3 := hidden (ON.out.frame (S := fun _ => False) (Only.of_below hb3) id); have OT := hidden hoT; have GT := hidden (Nat.le_trans B2.out.size hgT); have BS := hidden B2.out.size; clear hgT hoT hb3)
    | (go_at_call 34; refine (flip_any _ (HAR.out _ B3.out)).mono ?_; rintro e w4 ⟨rfl, h4, o4⟩; have H4 := hidden h4; have O4 := hidden o4; clear h4 o4))
  clear M1 B1 M2 B2 ON HX h
  go_loopw [22] (fun i wr => ∃ (j : Nat) (s' : St), j ≤ (reachG s r (listX X m)).length ∧ i = .int .i64 j ∧ Ar wr p s' ∧ Rep s' (partR s r (reachG s r (listX X m)) j) ∧ Only p.own w3 wr) (fun i _ => (reachG s r (listX X m)).length - (intOf i).toNat)
  case atStart => exact ⟨0, _, Nat.zero_le _, rfl, H4.out, HPR.out, O4.out⟩
  case round =>
    clear HPR H4 O4
    obtain ⟨j, s', hj, rfl, h', hr', o'⟩ := hrel
    by_cases hlt : j < (reachG s r (listX X m)).length
    · have hT := OT.out.frame o' (own_not HH.out GT.out) (fun c hc _ => own_not HH.out (Nat.le_trans BS.out hc))
      obtain ⟨gk, k0, k1, k2, k3⟩ := hT.cells (Nat.le_refl _) hlt
      have HO := hidden k3
      have HN : Hid (¬ p.own gk) := own_not HH.out (Nat.le_trans BS.out k2)
      obtain ⟨hE, hP⟩ := part_fits HH.out HR.out HG.out hlt hr'
      have HE : Hid _ := hE
      have HNX : Hid (layR (partR s r (reachG s r (listX X m)) j) (s'.top + 1) (tagG r (reachG s r (listX X m)) j) (fldG s r (reachG s r (listX X m)) j) = partR s r (reachG s r (listX X m)) (j + 1)) := part_next hP
      have HRG : Hid (∀ k, 0 ≤ (fldG s r (reachG s r (listX X m)) j).getD k 0 ∧ (fldG s r (reachG s r (listX X m)) j).getD k 0 ≤ 18446744073709551615) := fld_rng HH.out HR.out HG.out hlt
      have x1 : (0 : Int) ≤ (j : Int) := by omega
      have x2 : (j : Int) < ((reachG s r (listX X m)).length : Int) := by omega
      have O' : Hid _ := o'
      have HR' : Hid _ := hr'
      clear hT k2 k3 hE hP o' hr' HIN HFL HCR
      generalize reachG s r (listX X m) = G at *
      generalize tagG r G j = t at *
      generalize fldG s r G j = F at *
      go_wp2_with (go_at_call 35; refine (twinLay_any _ (h'.alloc _) HR'.out (HO.out.below' _) HN.out HRG.out HE.out).mono ?_; rw [HNX.out]; rintro e w5 ⟨rfl, s5, h5, r5, o5⟩; have H5 := hidden h5; have R5 := hidden r5; have O5 := hidden ((O'.out.alloc _).trans o5); clear h5 r5 o5)
      go_roundw
      case rel => exact ⟨j + 1, s5, by omega, by go_num, H5.out, R5.out, O5.out⟩
      case measure => simp [intOf]; omega
    · have ej : j = (reachG s r (listX X m)).length := by omega
      have HE : Hid _ := ej
      have hnl : ¬ ((j : Int) < ((reachG s r (listX X m)).length : Int)) := by omega
      clear ej hlt
      go_wp2
      go_ret
      refine ⟨gN, s', rfl, ON3.out.frame o' (own_not HH.out GN.out), GN.out, h', ?_, (Only.of_below B3.out).trans o'⟩
      rw [HCR.out, ← HE.out]; exact hr'
theorem collect_any {al : Option Addr} {m c : Nat} {X : Nat → Int} (w : World) (h : Ar w p s) (hr : Rep s r) (hx : WS w al m c X) (hm : m ≤ 1000) :
    Calls Try.prog 12 #[.pointer (some ⟨p.a, 0, none⟩), .slice al m c] w fun e w' => ∃ al' c' s', e = .returned (.slice al' m c') ∧
      WS w' al' m c' (fun i => collW s r (listX X m) (X i)) ∧ (∀ ad, al' = some ad → w.heap.size ≤ ad.block) ∧ Ar w' p s' ∧ Rep s' (collR s r (listX X m)) ∧ Only p.own w w' := by
  refine (collect_as w h hr hx hm).mono ?_
  rintro e w' ⟨g, s', rfl, ho, hg, ha, hrp, hon⟩
  have hG := reach_good hr (listX X m)
  exact ⟨some ⟨g, 0, none⟩, m, s', rfl, ws_own ho (fun i hi => (newW_rng h hr hG _ (hx.lo i hi) (hx.hi i hi)).1) (fun i hi => (newW_rng h hr hG _ (hx.lo i hi) (hx.hi i hi)).2), fun ad had => by cases had; exact hg, ha, hrp, hon⟩
end Go.Proofs.Ytcbgjkedmboifab
