/-
  What the document's own Collect tells and makes: by the plain collection. Condition: its arena lies in memory.
  What the document's own Reach tells: the cells in reach, and the blocks, by the plain collection. Condition: its arena lies in memory.
-/
import Derived.Test.YtlhcleocdlnbdaaR3Moved
import Derived.Deep.AppendLies
import Derived.Deep.RegionHeld3
import Derived.Deep.CutRange
import Derived.BigQuiet
namespace Go.Proofs.Ytlhcleocdlnbdaa
open Go.ChangeShapes Go.WideShapes Go.ChangeAt Go.RowKit Go.Deep
set_option linter.unusedVariables false
set_option maxHeartbeats 1000000
variable {w : World} {p : Pl} {s : St} {rb : Nat} {r : RS} {a : Option Addr} {cap : Nat} {V : Nat → Value} {B0 mb nb : Nat} {G : List Nat} {L : List Blk} {aN : Option Addr} {capN : Nat} {VN : Nat → Value} {vg : Value}

theorem blocks_set {w : World} {B B' o : Nat} {x : Value} (h : BlocksOf w B aN capN L VN) (hB : B' + 1 ≤ B) : BlocksOf (w.setCell ⟨B', o, none⟩ x) (B' + 1) aN capN L VN := by
  refine ⟨h.1, h.2.1, h.2.2.1, fun ad had => ?_⟩
  obtain ⟨g, cur, e, hb, hg, hcs, hcell⟩ := h.2.2.2 ad had
  refine ⟨g, cur, e, by omega, by rw [blk_setCell_other _ _ _ _ (by show g ≠ B'; omega)]; exact hg, hcs, fun i b hib => ?_⟩
  obtain ⟨c1, c2, c3, a', cap', e2, hn, hf⟩ := hcell i b hib
  refine ⟨c1, c2, c3, a', cap', e2, hn, fun ad' had' => ?_⟩
  obtain ⟨g', e3, hb', ho⟩ := hf ad' had'
  exact ⟨g', e3, by omega, ho.of_block (blk_setCell_other _ _ _ _ (by show g' ≠ B'; omega))⟩
theorem blocks_lo {w : World} {B : Nat} (h : BlocksOf w B aN capN L VN) : (∀ x, aN = some x → B ≤ x.block) ∧ ∀ i, i < L.length → ∀ ad n c, VN i = .slice (some ad) n c → B ≤ ad.block := by
  refine ⟨fun x hx => ?_, fun i hi ad n c hv => ?_⟩
  · obtain ⟨g, cur, e, hb, _⟩ := h.2.2.2 x hx
    rw [e]; exact hb
  · cases ha : aN with
    | none => have := (h.1 ha).1; omega
    | some x =>
      obtain ⟨g, cur, e, hb, _, _, hcell⟩ := h.2.2.2 x ha
      obtain ⟨_, _, _, a', cap', e2, _, hf⟩ := hcell i _ (List.getElem?_eq_getElem hi)
      rw [hv] at e2
      simp only [Value.slice.injEq] at e2
      obtain ⟨g', e3, hb', _⟩ := hf ad e2.1.symm
      rw [e3]; exact hb'
/-- What Collect hands back, and how all lies in memory. -/
def CollAs (s : St) (r : RS) (X : Nat → Int) (m rb : Nat) (w : World) (e : Ending) (w' : World) : Prop := ∃ go co aN capN VN, e = .returned (.slice (some ⟨go, 0, none⟩) m co) ∧ Rf w' rb (collR s r (listX X m)) aN capN VN ∧ Own w' go m (fun i => collW s r (listX X m) (X i)) ∧ w.heap.size ≤ go ∧ Only (fun q => q = rb) w w' ∧ Off (collR s r (listX X m)).L.length VN go ∧ (∀ x, aN = some x → w.heap.size ≤ x.block) ∧ ∀ i, i < (collR s r (listX X m)).L.length → ∀ ad n c, VN i = .slice (some ad) n c → w.heap.size ≤ ad.block
theorem rcollect_any {al : Option Addr} {m c : Nat} {X : Nat → Int} (w : World) (h : Both w p s rb r a cap V) (hx : WS w al m c X) (hm : m ≤ 1000) :
    Calls Try.prog 79 #[.pointer (some ⟨rb, 0, none⟩), .slice al m c] w fun e w' => CollAs s r X m rb w e w' := by
  have hrb := lt_of_some h.rf.hr
  go_enter Try.func79, Try.ntmps79
  go_wp2_with fail
  refine (moved_any _ h hx hm).mono ?_
  rintro e w1 ⟨mb, nb, go, co, aN, capN, VN, vg, rfl, n1, o1, hg1, b1, off1⟩
  have hrf := rf_below h b1
  obtain ⟨c0, c1, c2, c3⟩ := n1.cells
  obtain ⟨e0, e1, e2, e3⟩ := n1.now.cells
  obtain ⟨f0, f1, f2, f3⟩ := hrf.cells
  have hlo := n1.lo
  have hrn : rb < nb := by omega
  have hrm : rb < mb := by omega
  have k1 : ∀ x, (w1.setCell ⟨rb, 1, none⟩ x).cell? ⟨mb, 1, none⟩ = some (.pointer (some ⟨nb, 0, none⟩)) := fun x => (World.cell?_of_block (w := w1) (blk_setCell_other _ _ _ _ (by show mb ≠ rb; omega))).trans c1
  have k2 : ∀ x, (w1.setCell ⟨rb, 1, none⟩ x).cell? ⟨nb, 2, none⟩ = some (.slice aN (collR s r (listX X m)).L.length capN) := fun x => (World.cell?_of_block (w := w1) (blk_setCell_other _ _ _ _ (by show nb ≠ rb; omega))).trans e2
  have HRF : Hid _ := hrf
  have HN : Hid _ := n1
  have HO : Hid _ := o1
  have HB1 : Hid _ := b1
  have HOFF1 : Hid _ := off1
  clear h hrf n1 o1 b1 hx off1
  go_wp2_with fail
  go_ret
  refine ⟨go, co, aN, capN, VN, rfl, ⟨?_, ?_⟩, ?_, hg1, ?_, HOFF1.out, fun x hx => ?_, fun i hi ad n c hv => ?_⟩
  · have := HRF.out.hr
    show _ = some (Obj.cells #[.int .i64 r.n, .int .i64 ((1 - r.which : Nat) : Int), .slice aN (collR s r (listX X m)).L.length capN] 88 (0, 0))
    simp [World.setCell, Array.getElem?_modify, this]
  · have h1 := blocks_set (o := 1) (x := .int .i64 ((1 - r.which : Nat) : Int)) (B' := rb) HN.out.now.hl (by omega)
    exact blocks_set (o := 2) (B' := rb) h1 (Nat.le_refl _)
  · refine Own.of_block (w := w1) HO.out ?_
    rw [blk_setCell_other _ _ _ _ (by show go ≠ rb; omega), blk_setCell_other _ _ _ _ (by show go ≠ rb; omega)]
  · exact ((Only.of_below (S := fun q => q = rb) HB1.out).setCell (a := ⟨rb, 1, none⟩) (Or.inr rfl) _).setCell (a := ⟨rb, 2, none⟩) (Or.inr rfl) _
  · have := (blocks_lo HN.out.now.hl).1 x hx
    omega
  · have := (blocks_lo HN.out.now.hl).2 i hi ad n c hv
    omega
end Go.Proofs.Ytlhcleocdlnbdaa

namespace Go.Proofs.Ytlhcleocdlnbdaa
open Go.ChangeShapes Go.WideShapes Go.ChangeAt Go.RowKit Go.Deep
set_option linter.unusedVariables false
set_option maxHeartbeats 1000000
variable {w : World} {p : Pl} {s : St} {rb : Nat} {r : RS} {a : Option Addr} {cap : Nat} {V : Nat → Value} {B0 mb nb : Nat} {G : List Nat} {L : List Blk} {aN : Option Addr} {capN : Nat} {VN : Nat → Value} {vg : Value}

theorem gone_cell {w : World} {B : Nat} {v : Value} {G : List Nat} (h : w.ownsRow B 3 1 v G.length (G.map fun i : Nat => Value.int .i64 (i : Int))) : ∃ (al : Option Addr) (c : Nat), v = .slice al G.length c ∧ ∀ (k i : Nat), G[k]? = some i → ∃ g, al = some ⟨g, 0, none⟩ ∧ w.cell? ⟨g, k, none⟩ = some (.int .i64 (i : Int)) ∧ B ≤ g := by
  rcases h.2 with ⟨e, e0⟩ | ⟨g, cap, cur, hv, hb, hg, hnc, _, hcs, htake⟩
  · refine ⟨none, 0, by rw [e, e0], fun k i hk => ?_⟩
    have := (List.getElem?_eq_some_iff.1 hk).1
    omega
  · refine ⟨some ⟨g, 0, none⟩, cap, hv, fun k i hk => ⟨g, rfl, ?_, hb⟩⟩
    have hl := (List.getElem?_eq_some_iff.1 hk).1
    have : (cur.toList.take (G.length * 1))[k]? = some (.int .i64 (i : Int)) := by rw [htake]; simp [hk]
    rw [List.getElem?_take, if_pos (by omega)] at this
    simp [World.cell?, hg]
    simpa using this
theorem step_word {w : World} {ops : Array Oper} {o : Oper} {a : Act} {K : Act → World → Prop} {Q : Exit → Act → World → Prop} {E : Prop} (hgd : o.guard = none) (s x : Operand)
    (ho : o.op = .call { callee := .builtin .append, args := #[s, x], argTypes := #[27, 27] }) (B g0 n c0 : Nat) (xs : List Value) (hs : a.eval s = .slice (some ⟨g0, 0, none⟩) n c0) (hown : w.ownsRow B 29 1 (.slice (some ⟨g0, 0, none⟩) n c0) n xs)
    (gx c : Nat) (u : Int) (hx : a.eval x = .slice (some ⟨gx, 0, none⟩) 1 c) (hu : w.cell? ⟨gx, 0, none⟩ = some (.int .u64 u)) (hn : n ≤ 1000000) (hB : B ≤ w.heap.size)
    (h : ∀ g cap w', w'.ownsRow B 29 1 (.slice (some ⟨g, 0, none⟩) (n + 1) cap) (n + 1) (xs ++ [.int .u64 u]) → w.grownBy w' (some g0) → (g0 = g ∨ g = w.heap.size) → K (a.put o.dst (.slice (some ⟨g, 0, none⟩) (n + 1) cap)) w') : if Region.wanted o (yielded ops a.tmps) = true then o.wp Try.prog a w K Q else E := by
  obtain ⟨i0, hi, hz0, hz1, hz2⟩ := info_parts Try.info29
  refine step_append_lies (w := w) (E := E) hgd s x 27 ho B 29 i0 _ 1 8 Try.underlying27 hi hz0 hz1 hz2 rfl (by decide) _ n _ hs hown ⟨gx, 0, none⟩ 1 c [.int .u64 u] hx rfl ?_ ?_ (by omega) (by unfold maxLen; omega) (by omega) hB _ rfl ?_
  · intro j y hy
    match j, hy with
    | 0, hy => simp at hy; subst hy; exact hu
  · intro y hy; simp at hy; subst hy; rfl
  · intro g cap w' h1 h2 h3 _
    exact h g cap w' h1 h2 (h3.imp (fun e => by simpa [Value.ownBlock] using e) id)
theorem Now.below0 {w' : World} (h : Now w B0 mb nb rb r G L aN capN VN vg) (hb : Below w.heap.size w w') : Now w' B0 mb nb rb r G L aN capN VN vg := h.below hb
theorem below_row {w w3 w4 : World} {B g : Nat} {o : Obj} (h : Below B w w3) (hB : B ≤ w.heap.size) (gr : (w3.alloc o).grownBy w4 (some g)) (hg : B ≤ g) : Below B w w4 :=
  h.trans ((only_grown gr).below (Nat.le_trans hB h.size) (fun k hk e => by omega))
theorem row_drew {w w3 : World} {B : Nat} {e : TypeId} {sz n : Nat} {v : Value} {xs : List Value} (h : w.ownsRow B e sz v n xs) (hw : w3 = w.drew) : w3.ownsRow B e sz v n xs := by rw [hw]; exact h
theorem below_drew1 {w w0 w3 : World} {B : Nat} (h : Below B w w0) (hw : w3 = w0.drew) : Below B w w3 := by rw [hw]; exact below_drewN h 1
theorem one3 {w : World} {b : Nat} {x : Value} {t : TypeId} (h : w.heap[b]? = some (.cells #[x] t (0, 0))) : w.cell? ⟨b, 0, none⟩ = some x := by simp [World.cell?, h]
theorem one_new3 (w : World) (u : Value) (t : TypeId) : (w.alloc (.cells #[u] t)).cell? ⟨w.heap.size, 0, none⟩ = some u := one3 (blk_alloc_new _ _)
def reachW (r : RS) (G : List Nat) (j : Nat) : Int := 2 * ((blkAt r (G.getD j 0)).ad : Int)
def reachL (r : RS) (G : List Nat) (k : Nat) : List Value := (List.range k).map fun j => .int .u64 (reachW r G j)
theorem reachL_succ (r : RS) (G : List Nat) (k : Nat) : reachL r G (k + 1) = reachL r G k ++ [.int .u64 (reachW r G k)] := by unfold reachL; rw [List.range_succ, List.map_append]; rfl
def RReachAs (s : St) (r : RS) (X : Nat → Int) (m : Nat) (w : World) (e : Ending) (w' : World) : Prop := ∃ g c, e = .returned (.tuple #[.int .i64 (lenG r (reachG s r (listX X m)) : Nat), .slice (some ⟨g, 0, none⟩) (reachG s r (listX X m)).length c]) ∧
  Own w' g (reachG s r (listX X m)).length (reachW r (reachG s r (listX X m))) ∧ Below w.heap.size w w'
set_option maxRecDepth 100000 in
theorem rreach_any {al : Option Addr} {m c : Nat} {X : Nat → Int} (w : World) (h : Both w p s rb r a cap V) (hx : WS w al m c X) (hm : m ≤ 1000) :
    Calls Try.prog 53 #[.pointer (some ⟨rb, 0, none⟩), .slice al m c] w fun e w' => RReachAs s r X m w e w' := by
  have hrb := lt_of_some h.rf.hr
  have HR := hidden h.rep
  have HGD : Hid (GoodG r (reachG s r (listX X m))) := reach_good h.rep (listX X m)
  obtain ⟨z1, z2, z3, z4, z5⟩ := h.sizes
  have HH := hidden h
  go_enter Try.func53, Try.ntmps53
  go_wp2_with fail
  refine (moved_any _ h hx hm).mono ?_
  rintro e w1 ⟨mb, nb, go, co, aN, capN, VN, vg, rfl, n1, o1, hg1, b1, _⟩
  have HRF : Hid (∀ W, Below w1.heap.size w1 W → Rf W rb r a cap V) := fun W hW => rf_below h (b1.trans (hW.mono b1.size))
  have HNW : Hid (∀ W, Below w1.heap.size w1 W → Now W w.heap.size mb nb rb r (reachG s r (listX X m)) (collR s r (listX X m)).L aN capN VN vg) := fun W hW => n1.below hW
  have HLT : Hid (mb < w1.heap.size ∧ (∀ k, vg.ownBlock = some k → k < w1.heap.size) ∧ (∀ k, a = some ⟨k, 0, none⟩ → r.L.length ≠ 0 → k < w1.heap.size) ∧ rb < w1.heap.size) := by
    refine ⟨lt_of_some n1.hm, fun k hk => ?_, fun k hk hl => ?_, Nat.lt_of_lt_of_le hrb b1.size⟩
    · obtain ⟨cur, hc⟩ := own_row n1.hg k hk
      exact lt_of_some hc
    · obtain ⟨g', e', _, hg', _⟩ := h.rf.row hl
      rw [hk] at e'
      have : k = g' := by simpa using e'
      subst this
      exact Nat.lt_of_lt_of_le hg' b1.size
  have HB1 := hidden b1
  have h0 : Hid ((w1.alloc (.cells #[] 29)).ownsRow w1.heap.size 29 1 (.slice (some ⟨w1.heap.size, 0, none⟩) 0 0) 0 (reachL r (reachG s r (listX X m)) 0)) := ⟨rfl, .inr ⟨w1.heap.size, 0, #[], rfl, Nat.le_refl _, blk_alloc_new _ _, Nat.le_refl _, Nat.zero_le _, rfl, rfl⟩⟩
  have hlen : (reachG s r (listX X m)).length ≤ 100000 := by have := (goodG_len HGD.out).2; omega
  clear h hx n1 o1 hg1 b1
  go_wp2_with fail
  go_loopw [8, 9] (fun lv iv wr => ∃ i g c : Nat, iv = .int .i64 i ∧ lv = .slice (some ⟨g, 0, none⟩) i c ∧ i ≤ (reachG s r (listX X m)).length ∧ wr.ownsRow w1.heap.size 29 1 (.slice (some ⟨g, 0, none⟩) i c) i (reachL r (reachG s r (listX X m)) i) ∧ Below w1.heap.size w1 wr) (fun _ i _ => (reachG s r (listX X m)).length - (intOf i).toNat)
  case atStart => exact ⟨0, w1.heap.size, 0, rfl, rfl, Nat.zero_le _, h0.out, (Below.refl _ _).alloc (Nat.le_refl _) _⟩
  case round =>
    clear h0
    obtain ⟨i, g, c', rfl, rfl, hi, hrow, hb⟩ := hrel
    have hN := HNW.out wr hb
    have hF := HRF.out wr hb
    obtain ⟨c0, c1, c2, c3⟩ := hN.cells
    obtain ⟨gal, gc, rfl, hgc⟩ := gone_cell hN.hg
    by_cases hlt : i < (reachG s r (listX X m)).length
    · obtain ⟨q, hq⟩ : ∃ q, (reachG s r (listX X m))[i]? = some q := ⟨_, List.getElem?_eq_getElem hlt⟩
      obtain ⟨gg, rfl, hcg, hgB⟩ := hgc i q hq
      have hql : q < r.L.length := HGD.out.2 q (List.mem_of_getElem? hq)
      have hbq := blkAt_some hql
      have hin := HR.out.inside hbq
      obtain ⟨ga, rfl, gl1, gl2, gl3, gl4⟩ := hF.row (by omega)
      obtain ⟨e0, e1, e2, e3⟩ := hF.cells
      obtain ⟨f0, _⟩ := gl4 q _ hbq
      have HQ : Hid (reachW r (reachG s r (listX X m)) i = 2 * ((blkAt r q).ad : Int)) := by
        show _ = _
        unfold reachW
        rw [List.getD_eq_getElem?_getD, hq]; rfl
      have HP : Hid (ptrW ((blkAt r q).ad : Int) = 2 * ((blkAt r q).ad : Int)) := by show _ = _; unfold ptrW; rw [if_neg (by omega)]
      have hA0 : (blkAt r q).ad ≤ 100000 := by omega
      have x1 : (0 : Int) ≤ (i : Int) := by omega
      have x2 : (i : Int) < ((reachG s r (listX X m)).length : Int) := by omega
      have x3 : (0 : Int) ≤ (q : Int) := by omega
      have x4 : (q : Int) < (r.L.length : Int) := by omega
      have HRW := hidden hrow
      have HBR := hidden hb
      have hg1 := own_ge hrow g rfl
      have HG1 := hidden hg1
      generalize (blkAt r q).ad = A at *
      clear hgc hq hbq hin gl4 hrow hb hg1 e3 c3
      obtain ⟨k1, k2, k3, k4⟩ : wr.drew.cell? ⟨rb, 2, none⟩ = some (.slice (some ⟨ga, 0, none⟩) r.L.length cap) ∧ wr.drew.cell? ⟨mb, 2, none⟩ = some (.slice (some ⟨gg, 0, none⟩) (reachG s r (listX X m)).length gc) ∧ wr.drew.cell? ⟨gg, i, none⟩ = some (.int .i64 (q : Int)) ∧ wr.drew.cell? ⟨ga, q * 3, none⟩ = some (.int .i64 (A : Int)) := ⟨e2, c2, hcg, f0⟩
      have HCE : Hid (∀ W, Below w1.heap.size wr W → W.cell? ⟨rb, 2, none⟩ = some (.slice (some ⟨ga, 0, none⟩) r.L.length cap) ∧ W.cell? ⟨mb, 2, none⟩ = some (.slice (some ⟨gg, 0, none⟩) (reachG s r (listX X m)).length gc) ∧ W.cell? ⟨gg, i, none⟩ = some (.int .i64 (q : Int)) ∧ W.cell? ⟨ga, q * 3, none⟩ = some (.int .i64 (A : Int))) := fun W hW => by
        obtain ⟨l1, l2, l3, l4⟩ := HLT.out
        exact ⟨(hW.cell (p := ⟨rb, 2, none⟩) l4).trans e2, (hW.cell (p := ⟨mb, 2, none⟩) l1).trans c2, (hW.cell (p := ⟨gg, i, none⟩) (l2 gg rfl)).trans hcg, (hW.cell (p := ⟨ga, q * 3, none⟩) (l3 ga rfl (by omega))).trans f0⟩
      go_wp2_with fail
      go_region_held3 (fun w' => w'.cell? ⟨rb, 2, none⟩ = some (.slice (some ⟨ga, 0, none⟩) r.L.length cap) ∧ w'.cell? ⟨mb, 2, none⟩ = some (.slice (some ⟨gg, 0, none⟩) (reachG s r (listX X m)).length gc) ∧ w'.cell? ⟨gg, i, none⟩ = some (.int .i64 (q : Int)) ∧ w'.cell? ⟨ga, q * 3, none⟩ = some (.int .i64 (A : Int))) (go_keep) (first
        | (go_at_call 65; refine (rptr_eq (A : Int) (2 * (A : Int)) _ (by omega) (by omega) HP.out).mono ?_; rintro e w3 ⟨rfl, hw3⟩; have R3 := hidden (row_drew HRW.out hw3); have B3 := hidden (below_drew1 HBR.out hw3); have D3 := hidden (below_drew1 (Below.refl w1.heap.size wr) hw3); obtain ⟨k5, k6, k7, k8⟩ := HCE.out _ D3.out; clear hw3)
        | (refine step_word rfl (.tmp 26) (.tmp 42) rfl w1.heap.size g i c' _ (by simp [Act.eval]) (by exact R3.out.alloc _) w3.heap.size 1 (2 * (A : Int)) (by simp [Act.eval]) (by exact one_new3 _ _ _) (by omega) (by rw [nblk_alloc]; have := B3.out.size; omega) ?_; intro g' c'' w5 hr5 gr5 hat5; have R5 := hidden hr5; have B5 := hidden (below_row B3.out (Nat.le_refl _) gr5 HG1.out); obtain ⟨q1, q2, q3, q4⟩ := HCE.out _ (below_row D3.out HBR.out.size gr5 HG1.out); clear hr5 gr5 hat5))
      go_wp2_with fail
      go_roundw
      case rel => exact ⟨i + 1, g', c'', by go_num, rfl, by omega, by rw [reachL_succ, HQ.out]; exact R5.out, B5.out⟩
      case measure => simp [intOf]; omega
    · have ei : i = (reachG s r (listX X m)).length := by omega
      have hnl : ¬ ((i : Int) < ((reachG s r (listX X m)).length : Int)) := by omega
      have HE := hidden ei
      have HRW := hidden hrow
      have HBR := hidden hb
      obtain ⟨OB, hOB⟩ : ∃ OB, OB = r.n * (1 - r.which) := ⟨_, rfl⟩
      have HOB := hidden hOB
      have hOB2 : OB ≤ 32768 := by
        have hwh := HR.out.wh
        rw [hOB]
        rcases Nat.le_one_iff_eq_zero_or_eq_one.1 hwh with e | e <;> rw [e] <;> omega
      have hLG : lenB (collR s r (listX X m)).L = lenG r (reachG s r (listX X m)) := collR_lenB s r (listX X m)
      have hLL : (collR s r (listX X m)).L.length = (reachG s r (listX X m)).length := collR_len s r (listX X m)
      have hLn : lenG r (reachG s r (listX X m)) ≤ 32768 := by have := (goodG_len HGD.out).1; omega
      obtain ⟨T, hT⟩ : ∃ T, T = OB + lenG r (reachG s r (listX X m)) := ⟨_, rfl⟩
      have HT : Hid (OB + lenB (collR s r (listX X m)).L = T) := by show _ = _; rw [hLG, hT]
      have hL1 : lenB (collR s r (listX X m)).L ≤ 100000 := by omega
      have hL2 : (collR s r (listX X m)).L.length ≤ 100000 := by omega
      have hw1 : 1 - r.which ≤ 1 := by omega
      have hTB : (T : Int) - (OB : Int) = (lenG r (reachG s r (listX X m)) : Nat) := by omega
      have e5 := wrapId ((T : Int) - (OB : Int)) (by omega) (by omega)
      have HTB := hidden hTB
      have hNow := hN.now
      have HL1 := hidden hL1
      have HL2 := hidden hL2
      clear ei hlt hgc hrow hb hOB hT hLG hLL hLn hTB hF hL1 hL2
      go_wp2_with fail
      go_quiet ((first | (go_at_call 63; exact Calls.quiet_of (rtop_eq OB T _ (hNow.drewN _) HOB.out z3 hw1 hOB2 HL1.out HL2.out HT.out)) | (go_at_call 64; exact Calls.quiet_of (rbase_any OB _ (hNow.drewN _) HOB.out z3 hw1))))
      go_wp2_with fail
      go_ret2
      refine ⟨g, c', ?_, ?_, ?_⟩
      · rw [← HE.out, ← HTB.out]; rfl
      · have := (own_of_row (X := reachW r (reachG s r (listX X m))) HRW.out).1
        rw [← HE.out]; exact this.drewN _
      · exact below_drewN (HB1.out.trans (HBR.out.mono HB1.out.size)) _
end Go.Proofs.Ytlhcleocdlnbdaa
