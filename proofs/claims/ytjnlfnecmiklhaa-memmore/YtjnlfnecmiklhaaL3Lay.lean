/-
  Layer 3's statements: what their helper lay makes of a list of blocks: two arenas in one state, which a plain function tells. Condition: the blocks lie in memory.
-/
import Derived.Test.YtjnlfnecmiklhaaL3Words
import Derived.Test.YtjnlfnecmiklhaaTwoMem
import Derived.Test.YtjnlfnecmiklhaaLibA
import Derived.Deep.RegionHeld3
import Derived.Deep.AppendLies
namespace Go.Proofs.Ytjnlfnecmiklhaa
open Go.ChangeShapes Go.WideShapes Go.ChangeAt Go.RowKit Go.Deep
set_option linter.unusedVariables false
set_option maxHeartbeats 2000000

/-- A block as it came in: a tag, and a slice of words. -/
structure BI where
  tag : Int
  fa : Option Addr
  (fl fc : Nat)
  F : Nat → Int
def BlocksIn (w : World) (Bd : Nat) (al : Option Addr) (len : Nat) (I : Nat → BI) : Prop :=
  ∀ i, i < len → ∃ x : Addr, al = some x ∧ (x.add (i * 2)).block < Bd ∧ w.cell? (x.add (i * 2)) = some (.int .i64 (I i).tag) ∧ w.cell? ⟨(x.add (i * 2)).block, (x.add (i * 2)).off + 1, none⟩ = some (.slice (I i).fa (I i).fl (I i).fc) ∧
    WS w (I i).fa (I i).fl (I i).fc (I i).F ∧ (0 < (I i).fl → ∀ ad, (I i).fa = some ad → ad.block < Bd) ∧ (I i).fl ≤ maxLen
theorem ws_below {w w' : World} {Bd : Nat} {al : Option Addr} {m c : Nat} {X : Nat → Int} (h : WS w al m c X) (hb : 0 < m → ∀ ad, al = some ad → ad.block < Bd) (k : Below Bd w w') : WS w' al m c X := by
  refine ⟨h.nil, fun i hi => ?_, h.lo, h.hi⟩
  obtain ⟨ad, e, hc⟩ := h.cell i hi
  exact ⟨ad, e, (k.cell (by rw [add_block]; exact hb (by omega) ad e)).trans hc⟩
theorem BlocksIn.below {w w' : World} {Bd : Nat} {al : Option Addr} {len : Nat} {I : Nat → BI} (h : BlocksIn w Bd al len I) (k : Below Bd w w') : BlocksIn w' Bd al len I := by
  intro i hi
  obtain ⟨x, e, x0, y0, y1, y2, y3, y4⟩ := h i hi
  exact ⟨x, e, x0, (k.cell x0).trans y0, (k.cell (p := ⟨(x.add (i * 2)).block, (x.add (i * 2)).off + 1, none⟩) x0).trans y1, ws_below y2 y3 k, y3, y4⟩
theorem BlocksIn.mono {w : World} {Bd Bd' : Nat} {al : Option Addr} {len : Nat} {I : Nat → BI} (h : BlocksIn w Bd al len I) (k : Bd ≤ Bd') : BlocksIn w Bd' al len I := by
  intro i hi
  obtain ⟨x, e, x0, y0, y1, y2, y3, y4⟩ := h i hi
  exact ⟨x, e, by omega, y0, y1, y2, fun hp ad had => by have := y3 hp ad had; omega, y4⟩
/-- The state behind k blocks that were asked for; the word of block k, 0 if there was no room. -/
def layA (n : Nat) (I : Nat → BI) : Nat → St
  | 0 => St.new n
  | k + 1 => (layA n I k).alloc (I k).tag (min (I k).fl 60 : Nat)
def layW (n : Nat) (I : Nat → BI) (k : Nat) : Int := (layA n I k).allocW (I k).tag (min (I k).fl 60 : Nat)
/-- The state behind k fields more of block i. -/
def layC (n m : Nat) (I : Nat → BI) (s : St) (i : Nat) : Nat → St
  | 0 => s
  | k + 1 => (layC n m I s i k).put (layW n I i) k (wordV ((I i).F k) m (layW n I))
def layN (n : Nat) (I : Nat → BI) (i : Nat) : Nat := if layW n I i = 0 then 0 else min (I i).fl 60
def layB (n m : Nat) (I : Nat → BI) : Nat → St
  | 0 => layA n I m
  | i + 1 => layC n m I (layB n m I i) i (layN n I i)
theorem allocW_rng {w : World} {p : Pl} {s : St} (h : Ar w p s) (t z : Int) : 0 ≤ s.allocW t z ∧ s.allocW t z ≤ 18446744073709551615 := by
  have := h.t2; have := h.n2; have := h.b1
  unfold St.allocW; split <;> omega
variable {w : World} {p : Pl} {s : St} {rb : Nat} {r : RS} {a : Option Addr} {cap : Nat} {V : Nat → Value}
theorem own_left {wr w4 : World} {gB k : Nat} {v : Value} {xs : List Value} (h : Two wr p s rb r a cap V) (ho : wr.ownsRow gB 54 1 v k xs) (o4 : Only p.own wr w4) (hg : rb < gB) : w4.ownsRow gB 54 1 v k xs := by
  obtain ⟨b1, b2, b3, b4⟩ := h.bo.below
  refine ⟨ho.1, ?_⟩
  rcases ho.2 with h2 | ⟨g, c, cur, hv, hge, hh, rest⟩
  · exact .inl h2
  · exact .inr ⟨g, c, cur, hv, hge, (o4.block g (lt_of_some hh) (by unfold Pl.own; omega)).trans hh, rest⟩
theorem own_right {w4 w5 : World} {gB k : Nat} {v : Value} {xs : List Value} (h : Both w4 p s rb r a cap V) (ho : w4.ownsRow gB 54 1 v k xs) (o5 : Only (Rown rb a) w4 w5) : w5.ownsRow gB 54 1 v k xs := by
  refine ⟨ho.1, ?_⟩
  rcases ho.2 with h2 | ⟨g, c, cur, hv, hge, hh, rest⟩
  · exact .inl h2
  · refine .inr ⟨g, c, cur, hv, hge, (o5.block g (lt_of_some hh) ?_).trans hh, rest⟩
    rintro (rfl | hs)
    · have := h.rf.hr
      rw [hh] at this
      simp at this
    · obtain ⟨g', cur', e, _, hg', _⟩ := h.rf.hl.2.2.2 _ hs
      have : g = g' := by simpa using e
      subst this
      rw [hh] at hg'
      simp at hg'
theorem own_size {w5 : World} {gB k : Nat} {g cp : Nat} {xs : List Value} (ho : w5.ownsRow gB 54 1 (.slice (some ⟨g, 0, none⟩) k cp) k xs) : gB ≤ w5.heap.size := by
  rcases ho.2 with ⟨h2, _⟩ | ⟨g', c, cur, hv, hge, hh, rest⟩
  · cases h2
  · have := lt_of_some hh; omega
theorem lay_below {w4 w5 : World} {Bd : Nat} (hb : Below Bd w w4) (h : Both w4 p s rb r a cap V) (o5 : Only (Rown rb a) w4 w5) (hrb : Bd ≤ rb) : Below Bd w w5 := by
  have := lt_of_some h.rf.hr
  exact hb.trans (o5.below (by omega) (fun q hq hs => by have := (rown_old h q hs).1; omega))
/-- No block's row of fields is block g. -/
def Off (m : Nat) (V : Nat → Value) (g : Nat) : Prop := ∀ i, i < m → ∀ ad n c, V i = .slice (some ad) n c → ad.block ≠ g
theorem Off.fresh {m m' g B : Nat} {V V' : Nat → Value} (h : Off m V g) (f : Fresh B m V m' V') (hg : g < B) : Off m' V' g := by
  intro i hi ad n c e
  rcases f i hi with ⟨h1, h2⟩ | h1
  · exact h i h1 ad n c (by rw [← h2]; exact e)
  · have := h1 ad n c e; omega
theorem off_new {g : Nat} (h : Rf w rb r a cap V) (hg : w.heap.size ≤ g) : Off r.L.length V g := by
  intro i hi ad n c e
  obtain ⟨ga, _, _, _, _, h5⟩ := h.row (by omega)
  obtain ⟨_, _, _, a', cap', e2, _, h6⟩ := h5 i _ (List.getElem?_eq_getElem hi)
  rw [e] at e2
  simp only [Value.slice.injEq] at e2
  obtain ⟨g', e3, _, h7⟩ := h6 ad e2.1.symm
  have := h7.lt
  rw [e3]
  show g' ≠ g
  omega
theorem own_blk {w : World} {gB g k cp : Nat} {xs : List Value} (ho : w.ownsRow gB 54 1 (.slice (some ⟨g, 0, none⟩) k cp) k xs) : ∃ cur, w.heap[g]? = some (.cells cur 54 (0, 0)) := own_row ho g rfl
theorem two_only {w5 w6 : World} {g : Nat} {cur : Array Value} (h : Two w5 p s rb r a cap V) (hc : w5.heap[g]? = some (.cells cur 54 (0, 0))) (hg : rb < g) (hoff : Off r.L.length V g) (k : Only (fun q => q = g) w5 w6) : Two w6 p s rb r a cap V := by
  obtain ⟨b1, b2, b3, b4⟩ := h.bo.below
  refine ⟨h.ar.frame k (by omega) (by omega) (by omega) (by omega), ⟨h.bo.ar, ⟨(k.block _ (lt_of_some h.bo.rf.hr) (by omega)).trans h.bo.rf.hr, h.bo.rf.hl.1, h.bo.rf.hl.2.1, h.bo.rf.hl.2.2.1, fun ad had => ?_⟩, h.bo.rep, h.bo.below⟩⟩
  obtain ⟨ga, cur', e, hb, hga, hcs, hcell⟩ := h.bo.rf.hl.2.2.2 ad had
  have hne : ga ≠ g := by
    rintro rfl
    rw [hc] at hga
    simp at hga
  refine ⟨ga, cur', e, hb, (k.block _ (lt_of_some hga) hne).trans hga, hcs, fun i b hib => ?_⟩
  obtain ⟨c1, c2, c3, a', cap', e2, hn, hf⟩ := hcell i b hib
  refine ⟨c1, c2, c3, a', cap', e2, hn, fun ad' had' => ?_⟩
  obtain ⟨g', e3, hb', ho⟩ := hf ad' had'
  have hi := (List.getElem?_eq_some_iff.1 hib).1
  have := hoff i hi ad' _ _ (by rw [e2, had'])
  rw [e3] at this
  exact ⟨g', e3, hb', ho.frame k this⟩
theorem only_grown {w5 w6 : World} {g : Nat} {o : Obj} (gr : (w5.alloc o).grownBy w6 (some g)) : Only (fun q => q = g) w5 w6 :=
  ⟨gr.os, gr.tape, gr.output, Nat.le_trans (by rw [nblk_alloc]; omega) gr.size, fun q hq hs => (gr.block q (by rw [nblk_alloc]; omega) (by simpa using hs)).trans (blk_alloc_lt _ _ _ hq)⟩
/-- Behind an append to the row of words: both arenas are as they were; no block's fields lie in the new row. -/
theorem two_grown {w5 w6 : World} {gB g g6 k cp : Nat} {xs : List Value} {o : Obj} (h : Two w5 p s rb r a cap V) (ho : w5.ownsRow gB 54 1 (.slice (some ⟨g, 0, none⟩) k cp) k xs) (hg : rb < gB) (hoff : Off r.L.length V g) (gr : (w5.alloc o).grownBy w6 (some g)) (hat : some g = some g6 ∨ g6 = (w5.alloc o).heap.size) : Two w6 p s rb r a cap V ∧ Off r.L.length V g6 := by
  obtain ⟨cur, hc⟩ := own_blk ho
  have hge := own_ge ho g rfl
  refine ⟨two_only h hc (by omega) hoff (only_grown gr), ?_⟩
  rcases hat with e | e
  · cases e; exact hoff
  · rw [nblk_alloc] at e
    exact off_new h.bo.rf (by omega)
theorem wpList_append_lie {w : World} {ops : Array Oper} {rest : List Oper} {o : Oper} {a : Act} {Q : Exit → Act → World → Prop} (hgd : o.guard = none) (s x : Operand)
    (ho : o.op = .call { callee := .builtin .append, args := #[s, x], argTypes := #[28, 28] }) (B : Nat) (v : Value) (n : Nat) (xs : List Value) (hs : a.eval s = v) (hown : w.ownsRow B 54 1 v n xs)
    (ad : Addr) (c : Nat) (u : Int) (hx : a.eval x = .slice (some ad) 1 c) (hu : w.cell? (ad.add 0) = some (.int .u64 u)) (hn : n ≤ 1000000) (hB : B ≤ w.heap.size)
    (h : ∀ g cap w', w'.ownsRow B 54 1 (.slice (some ⟨g, 0, none⟩) (n + 1) cap) (n + 1) (xs ++ [.int .u64 u]) → w.grownBy w' v.ownBlock → (v.ownBlock = some g ∨ g = w.heap.size) → wpList Try.prog ops Q rest (a.put o.dst (.slice (some ⟨g, 0, none⟩) (n + 1) cap)) w') : wpList Try.prog ops Q (o :: rest) a w := by
  obtain ⟨i0, hi, hz0, hz1, hz2⟩ := info_parts Try.info54
  refine wpList_append_lies w hgd s x 28 ho B 54 i0 (.int .u64 0) 1 8 Try.underlying28 hi hz0 hz1 hz2 rfl (by decide) v n xs hs hown ad 1 c [.int .u64 u] hx rfl ?_ ?_ (by omega) (by unfold maxLen; omega) (by omega) hB _ rfl ?_
  · intro j y hy
    match j, hy with
    | 0, hy => simp at hy; subst hy; exact hu
  · intro y hy; simp at hy; subst hy; rfl
  · intro g cap w' h1 h2 h3 _
    exact h g cap w' h1 h2 h3
theorem own_keepL {wr w4 : World} {g k gB : Nat} {X : Nat → Int} (h : Two wr p s rb r a cap V) (ho : Own wr g k X) (hg : rb < gB) (hgg : gB ≤ g) (o4 : Only p.own wr w4) : Own w4 g k X := by
  obtain ⟨b1, b2, b3, b4⟩ := h.bo.below
  exact ho.frame o4 (by unfold Pl.own; omega)
theorem own_keepR {w4 w5 : World} {g k : Nat} {X : Nat → Int} (h : Both w4 p s rb r a cap V) (ho : Own w4 g k X) (o5 : Only (Rown rb a) w4 w5) : Own w5 g k X := by
  refine ho.frame o5 ?_
  obtain ⟨cur, hc, _⟩ := ho
  rintro (rfl | hs)
  · have := h.rf.hr
    rw [hc] at this
    simp at this
  · obtain ⟨g', cur', e, _, hg', _⟩ := h.rf.hl.2.2.2 _ hs
    have : g = g' := by simpa using e
    subst this
    rw [hc] at hg'
    simp at hg'
theorem layN_zero {n : Nat} {I : Nat → BI} {i : Nat} (h : layW n I i = 0) : layN n I i = 0 := by unfold layN; rw [if_pos h]
theorem layN_pos {n : Nat} {I : Nat → BI} {i : Nat} (h : layW n I i ≠ 0) : layN n I i = min (I i).fl 60 := by unfold layN; rw [if_neg h]
theorem lay_lt {wr w4 : World} {S : Nat → Prop} {gB g k cp : Nat} {xs : List Value} (ho : wr.ownsRow gB 54 1 (.slice (some ⟨g, 0, none⟩) k cp) k xs) (o4 : Only S wr w4) : g < w4.heap.size := by
  obtain ⟨cur, hc⟩ := own_blk ho
  have := lt_of_some hc
  exact Nat.lt_of_lt_of_le this o4.size
end Go.Proofs.Ytjnlfnecmiklhaa
