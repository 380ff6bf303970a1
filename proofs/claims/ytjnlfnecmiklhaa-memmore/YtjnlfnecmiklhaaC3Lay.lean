/-
  A block as it will lie in the other half: twin and twins. Condition: the arena and the plan lie in memory, and all that the block's words lead to has its place.
  All blocks as they will lie in the other half, in a row of their own. Condition: the arena and the plan of all that is in reach lie in memory.
  A block is laid as it is to be: the twin's lay. Condition: the arena lies in memory, and there is room.
-/
import Derived.Test.YtjnlfnecmiklhaaC3Move
import Derived.Test.YtjnlfnecmiklhaaPlainColl2
namespace Go.Proofs.Ytjnlfnecmiklhaa
open Go.ChangeShapes Go.WideShapes Go.ChangeAt Go.RowKit Go.Deep
set_option linter.unusedVariables false
set_option maxHeartbeats 1000000
variable {p : Pl} {s : St} {r : RS} {q : Nat} {bl : Value} {G : List Nat} {D : DataW Unit}

theorem two_cells {w : World} {b : Nat} {x0 x1 : Value} {t : TypeId} (h : w.heap[b]? = some (.cells #[x0, x1] t (0, 0))) : (w.cell? ⟨b, 0, none⟩ = some x0 ∧ w.cell? ⟨b, 1, none⟩ = some x1) ∧ ∀ i, w.frozen? ⟨b, i, none⟩ = false := by
  refine ⟨⟨?_, ?_⟩, fun i => ?_⟩ <;> simp [World.cell?, World.frozen?, h]
theorem two_store {w : World} {b : Nat} {x0 x1 : Value} {t : TypeId} (h : w.heap[b]? = some (.cells #[x0, x1] t (0, 0))) (y0 y1 : Value) : ((w.setCell ⟨b, 0, none⟩ y0).setCell ⟨b, 1, none⟩ y1).heap[b]? = some (.cells #[y0, y1] t (0, 0)) := by
  simp [World.setCell, Array.getElem?_modify, h]
/-- The fields of a block as they will be. -/
def newF (s : St) (r : RS) (G : List Nat) (i : Nat) : List Int := if (blkAt r i).tag = 202 then (blkAt r i).F else (blkAt r i).F.map (newW s r (otherB r) G)
theorem newF_len (s : St) (r : RS) (G : List Nat) (i : Nat) : (newF s r G i).length = (blkAt r i).F.length := by unfold newF; split <;> simp
structure TwS (w0 wr : World) (p : Pl) (s : St) (r : RS) (q : Nat) (bl : Value) (G : List Nat) (D : DataW Unit) : Prop where
  mv : Mv wr p r q bl G D
  ar : Ar wr p s
  be : Below w0.heap.size w0 wr
  hb : wr.heap[w0.heap.size]? = some (.cells #[.int .i64 0, .slice none 0 0] 128 (0, 0))
theorem TwS.step {w0 wr w2 : World} (h : TwS w0 wr p s r q bl G D) (k : Below wr.heap.size wr w2) : TwS w0 w2 p s r q bl G D :=
  ⟨h.mv.below k, h.ar.frame (S := fun _ => False) (Only.of_below k) id id id id, h.be.trans (k.mono h.be.size), (k.block _ (lt_of_some h.hb)).trans h.hb⟩
theorem tws_start {w : World} (h : Ar w p s) (hM : Mv w p r q bl G D) : TwS w (w.alloc (.cells #[.int .i64 0, .slice none 0 0] 128)) p s r q bl G D :=
  have k : Below w.heap.size w (w.alloc (.cells #[.int .i64 0, .slice none 0 0] 128)) := (Below.refl _ _).alloc (Nat.le_refl _) _
  ⟨hM.below k, h.alloc _, k, blk_alloc_new _ _⟩
def TwinAs (w : World) (t : Int) (F : List Int) (e : Ending) (w' : World) : Prop := ∃ g, e = .returned (.agg #[.int .i64 t, .slice (some ⟨g, 0, none⟩) F.length F.length]) ∧ w.heap.size ≤ g ∧ Own w' g F.length (fun j => F.getD j 0) ∧ Below w.heap.size w w'
theorem own_two {w : World} {g b n : Nat} {X : Nat → Int} (h : Own w g n X) (hne : g ≠ b) (y0 y1 : Value) : Own ((w.setCell ⟨b, 0, none⟩ y0).setCell ⟨b, 1, none⟩ y1) g n X :=
  h.frame (S := fun k => k = b) (((Only.refl (fun k => k = b) _).setCell (a := ⟨b, 0, none⟩) (Or.inr rfl) y0).setCell (a := ⟨b, 1, none⟩) (Or.inr rfl) y1) hne
theorem below_two' {w w0 : World} {B b : Nat} (h : Below B w w0) (hb : B ≤ b) (y0 y1 : Value) : Below B w ((w0.setCell ⟨b, 0, none⟩ y0).setCell ⟨b, 1, none⟩ y1) := (h.setCell (p := ⟨b, 0, none⟩) hb y0).setCell (p := ⟨b, 1, none⟩) hb y1
theorem below_alloc (w : World) (o : Obj) : Below w.heap.size w (w.alloc o) := (Below.refl _ _).alloc (Nat.le_refl _) o
theorem Own.below' {w : World} {g n : Nat} {X : Nat → Int} (h : Own w g n X) (o : Obj) : Own (w.alloc o) g n X := h.of_block (blk_alloc_lt _ _ _ h.lt)
theorem blk_is {w w1 : World} {b k : Nat} {o : Obj} (h : w.heap[b]? = some o) (e : w1 = w.drewN k) : w1.heap[b]? = some o := by rw [e]; exact h
theorem twin_text {i : Nat} (y : Int) (w : World) (h : Ar w p s) (hr : Rep s r) (hM : Mv w p r q bl G D) (hi : i < r.L.length) (hy : y = 2 * ((blkAt r i).ad : Int)) (ht : (blkAt r i).tag = 202) :
    Calls Try.prog 93 #[.pointer (some ⟨q + 1, 0, none⟩), .int .u64 y] w fun e w' => TwinAs w (blkAt r i).tag (newF s r G i) e w' := by
  have hb := blkAt_some hi
  have hin := hr.inside hb
  have n2 := h.n2; have t2 := h.t2; have b1 := h.b1
  have HY : Hid _ := hy
  have y0 : 0 ≤ y := by omega
  have y1 : y ≤ 18446744073709551615 := by omega
  have HT : Hid (s.tag y = (blkAt r i).tag) := by show _ = _; rw [hy]; exact hr.tagOf hb (by omega)
  have HTF : Hid (((blkAt r i).tag != 202) = false) := by show _ = _; rw [ht]; rfl
  have HNF : Hid (newF s r G i = (blkAt r i).F) := by show _ = _; unfold newF; rw [if_pos ht]
  have HR : Hid _ := hr
  have HS : Hid _ := tws_start h hM
  obtain ⟨c0, c1, c2, c3, c4⟩ := HS.out.mv.1.cells
  clear hy hb hin ht hr hM h
  go_enter Try.func93, Try.ntmps93
  go_wp2_with (first
    | (go_at_call 21; refine (tag_of y _ HS.out.ar y0 y1).mono ?_; rintro e w1 ⟨rfl, k, hw1⟩; rw [HT.out]; have S1 := hidden (HS.out.step (below_is hw1)); clear hw1)
    | (go_at_call 73; refine (fields_any y _ S1.out.ar HR.out S1.out.mv hi HY.out).mono ?_; rintro e w2 ⟨g, rfl, hg, ho2, hb2⟩; have S2 := hidden (S1.out.step hb2); have G2 := hidden (Nat.lt_of_lt_of_le (lt_of_some S1.out.hb) hg); have O2 := hidden ho2; have K2 := hidden (Nat.le_of_lt ho2.lt); clear ho2 hb2 hg)
    | (go_at_call 72; refine (hasWords_any y _ (S2.out.step (below_alloc _ _)).ar HR.out (S2.out.step (below_alloc _ _)).mv hi HY.out).mono ?_; rintro e w3 ⟨rfl, k, hw3⟩; rw [HTF.out]; have S3 := hidden ((S2.out.step (below_alloc _ _)).step (below_is hw3)); have O3 := hidden (own_is (O2.out.below' _) hw3); have h5 := blk_is (blk_alloc_new _ _) hw3; clear hw3; obtain ⟨⟨k0, k1⟩, k2⟩ := two_cells h5; obtain ⟨⟨k3, k4⟩, k5⟩ := two_cells S3.out.hb))
  refine bodyPost_ret (results_cell_row rfl _ _ w.heap.size 128 #[.int .i64 (blkAt r i).tag, .slice (some ⟨g, 0, none⟩) (blkAt r i).F.length (blkAt r i).F.length] (0, 0) _ rfl (two_store S3.out.hb _ _) Try.underlying128 rfl (by kernel_rfl)) rfl ?_
  unfold TwinAs
  rw [HNF.out]
  exact ⟨g, rfl, Nat.le_of_lt G2.out, own_two O3.out (by have := G2.out; omega) _ _, below_two' S3.out.be (Nat.le_refl _) _ _⟩
theorem own_three {w : World} {g b c n : Nat} {X : Nat → Int} (h : Own w g n X) (hb : g ≠ b) (hc : g ≠ c) (v y0 y1 : Value) : Own (((w.setCell ⟨c, 1, none⟩ v).setCell ⟨b, 0, none⟩ y0).setCell ⟨b, 1, none⟩ y1) g n X :=
  own_two (h.frame (S := fun k => k = c) ((Only.refl (fun k => k = c) _).setCell (a := ⟨c, 1, none⟩) (Or.inr rfl) v) hc) hb y0 y1
theorem blk_set {w : World} {b c : Nat} {o : Obj} (h : w.heap[b]? = some o) (hne : b ≠ c) (v : Value) : (w.setCell ⟨c, 1, none⟩ v).heap[b]? = some o :=
  ((Only.refl (fun k => k = c) w).setCell (a := ⟨c, 1, none⟩) (Or.inr rfl) v).block b (lt_of_some h) hne |>.trans h
theorem newF_words {s : St} {r : RS} {G : List Nat} {i : Nat} (ht : ¬ (blkAt r i).tag = 202) {j : Nat} (hj : j < (blkAt r i).F.length) : (newF s r G i).getD j 0 = newW s r (otherB r) G ((blkAt r i).F.getD j 0) := by
  unfold newF
  rw [if_neg ht, List.getD_eq_getElem?_getD, List.getD_eq_getElem?_getD, List.getElem?_map, List.getElem?_eq_getElem hj]
  rfl
theorem twin_words {i : Nat} (y : Int) (w : World) (h : Ar w p s) (hr : Rep s r) (hM : Mv w p r q bl G D) (hG : GoodG r G) (hi : i < r.L.length) (hy : y = 2 * ((blkAt r i).ad : Int)) (ht : ¬ (blkAt r i).tag = 202) (hfl : ∀ x, x ∈ wordsOf (blkAt r i) → ∀ j, leadI s r x = some j → j ∈ G) :
    Calls Try.prog 93 #[.pointer (some ⟨q + 1, 0, none⟩), .int .u64 y] w fun e w' => TwinAs w (blkAt r i).tag (newF s r G i) e w' := by
  have hb := blkAt_some hi
  have hin := hr.inside hb
  have n2 := h.n2; have t2 := h.t2; have b1 := h.b1
  have HY : Hid _ := hy
  have y0 : 0 ≤ y := by omega
  have y1 : y ≤ 18446744073709551615 := by omega
  have HT : Hid (s.tag y = (blkAt r i).tag) := by show _ = _; rw [hy]; exact hr.tagOf hb (by omega)
  have HTF : Hid (((blkAt r i).tag != 202) = true) := by show _ = _; rw [bne_iff_ne]; exact ht
  have HNF : Hid (∀ j, j < (blkAt r i).F.length → newW s r (otherB r) G ((blkAt r i).F.getD j 0) = (newF s r G i).getD j 0) := fun j hj => (newF_words ht hj).symm
  have HNL : Hid ((newF s r G i).length = (blkAt r i).F.length) := newF_len s r G i
  have HLO : Hid (∀ j, j < (blkAt r i).F.length → 0 ≤ (blkAt r i).F.getD j 0) := fun j _ => (Rep.fieldLo h hr hb j).1
  have HHI : Hid (∀ j, j < (blkAt r i).F.length → (blkAt r i).F.getD j 0 ≤ 18446744073709551615) := fun j _ => (Rep.fieldLo h hr hb j).2
  have HFL : Hid ((blkAt r i).F.length ≤ 100000) := by have := (hr.tag i _ hb).2.2; show _ ≤ _; omega
  have HIN : Hid (∀ j, j < (blkAt r i).F.length → ∀ k, leadI s r ((blkAt r i).F.getD j 0) = some k → k ∈ G) := fun j hj k hk => by
    refine hfl _ ?_ k hk
    unfold wordsOf
    rw [if_neg ht, List.getD_eq_getElem?_getD, List.getElem?_eq_getElem hj]
    exact List.getElem_mem hj
  have HR : Hid _ := hr
  have HG : Hid (GoodG r G) := hG
  have HS : Hid _ := tws_start h hM
  obtain ⟨c0, c1, c2, c3, c4⟩ := HS.out.mv.1.cells
  clear hy hb hin ht hr hM h hfl hG
  go_enter Try.func93, Try.ntmps93
  go_wp2_with (first
    | (go_at_call 21; refine (tag_of y _ HS.out.ar y0 y1).mono ?_; rintro e w1 ⟨rfl, k, hw1⟩; rw [HT.out]; have S1 := hidden (HS.out.step (below_is hw1)); clear hw1)
    | (go_at_call 73; refine (fields_any y _ S1.out.ar HR.out S1.out.mv hi HY.out).mono ?_; rintro e w2 ⟨g, rfl, hg, ho2, hb2⟩; have S2 := hidden (S1.out.step hb2); have O2 := hidden ho2; clear ho2 hb2 hg)
    | (go_at_call 72; refine (hasWords_any y _ (S2.out.step (below_alloc _ _)).ar HR.out (S2.out.step (below_alloc _ _)).mv hi HY.out).mono ?_; rintro e w3 ⟨rfl, k, hw3⟩; rw [HTF.out]; have S3 := hidden ((S2.out.step (below_alloc _ _)).step (below_is hw3)); have O3 := hidden (own_is (O2.out.below' _) hw3); have h5 := blk_is (blk_alloc_new _ _) hw3; clear hw3; have q5 := lt_of_some S2.out.hb; obtain ⟨⟨k0, k1⟩, k2⟩ := two_cells h5; obtain ⟨⟨k3, k4⟩, k5⟩ := two_cells S3.out.hb)
    | (go_at_call 87; refine (moveAll_any _ S3.out.ar HR.out S3.out.mv HG.out (ws_own (c := (blkAt r i).F.length) O3.out HLO.out HHI.out) HFL.out HIN.out).mono ?_; rintro e w4 ⟨g4, rfl, hg4, ho4, hb4⟩; have S4 := hidden (S3.out.step hb4); have G4 := hidden hg4; have O4 := hidden ho4; have h6 := (hb4.block _ (lt_of_some h5)).trans h5; have G6 := hidden (lt_of_some h5); obtain ⟨⟨l0, l1⟩, l2⟩ := two_cells h6; obtain ⟨⟨l3, l4⟩, l5⟩ := two_cells S4.out.hb; have ne1 : w.heap.size ≠ w2.heap.size := Nat.ne_of_lt q5; have ne2 : w2.heap.size ≠ w.heap.size := fun e => ne1 e.symm; clear ho4 hb4 hg4 h6 h5 k0 k1 k2 k3 k4 k5))
  refine bodyPost_ret (results_cell_row rfl _ _ w.heap.size 128 #[.int .i64 (blkAt r i).tag, .slice (some ⟨g4, 0, none⟩) (blkAt r i).F.length (blkAt r i).F.length] (0, 0) _ rfl (two_store (blk_set S4.out.hb ne1 _) _ _) Try.underlying128 rfl (by kernel_rfl)) rfl ?_
  have i1 := G4.out
  have i2 := G6.out
  have i3 := S3.out.be.size
  have i4 := lt_of_some S3.out.hb
  unfold TwinAs
  rw [HNL.out]
  refine ⟨g4, rfl, by omega, own_three (O4.out.congr HNF.out) (by omega) (by omega) _ _ _, below_two' (S4.out.be.setCell (p := ⟨w2.heap.size, 1, none⟩) ?_ _) (Nat.le_refl _) _ _⟩
  show w.heap.size ≤ w2.heap.size
  omega
theorem twin_any {i : Nat} (y : Int) (w : World) (h : Ar w p s) (hr : Rep s r) (hM : Mv w p r q bl G D) (hG : GoodG r G) (hi : i < r.L.length) (hy : y = 2 * ((blkAt r i).ad : Int)) (hfl : ∀ x, x ∈ wordsOf (blkAt r i) → ∀ j, leadI s r x = some j → j ∈ G) :
    Calls Try.prog 93 #[.pointer (some ⟨q + 1, 0, none⟩), .int .u64 y] w fun e w' => TwinAs w (blkAt r i).tag (newF s r G i) e w' := by
  by_cases ht : (blkAt r i).tag = 202
  · exact twin_text y w h hr hM hi hy ht
  · exact twin_words y w h hr hM hG hi hy ht hfl
end Go.Proofs.Ytjnlfnecmiklhaa

namespace Go.Proofs.Ytjnlfnecmiklhaa
open Go.ChangeShapes Go.WideShapes Go.ChangeAt Go.RowKit Go.Deep
set_option linter.unusedVariables false
set_option maxHeartbeats 1000000
variable {p : Pl} {s : St} {r : RS} {q : Nat} {bl : Value} {G : List Nat} {D : DataW Unit}

theorem Try.info128 : (Try.prog.info? 128).map (fun i => (i.zero, i.size, i.bytes)) = some (some (.agg #[.int .i64 0, .slice none 0 0]), 2, 32) := by kernel_rfl
theorem run_make_twins (n : Nat) (hn : n ≤ 1000000) (w : World) :
    (Instr.makeSlice 125 (.int .i64 (n : Int)) (.int .i64 (n : Int))).run Try.prog w = .ok (.slice (some ⟨w.heap.size, 0, none⟩) n n) (w.alloc (.cells (madeCells #[.int .i64 0, .slice none 0 0] (n * 2)) 128)) := by
  obtain ⟨i, hi, hz0, hz1, hz2⟩ := info_parts Try.info128
  have hr := run_make (P := Try.prog) w 125 128 i _ Try.underlying125 hi hz0 .i64 .i64 n n (by omega) (Int.le_refl _) (by rw [hz2]; omega) (by omega)
  simp only [Int.toNat_natCast, hz1] at hr
  exact hr
/-- A row of n twins, the first j as they are to be. -/
def TwRow (w : World) (g n j B : Nat) (T : Nat → Int) (F : Nat → List Int) : Prop := ∃ (f : Nat → Value) (gs : Nat → Nat), w.rowIs g 128 (n * 2) f ∧
  ∀ k, k < j → f (k * 2) = .int .i64 (T k) ∧ f (k * 2 + 1) = .slice (some ⟨gs k, 0, none⟩) (F k).length (F k).length ∧ B ≤ gs k ∧ gs k ≠ g ∧ Own w (gs k) (F k).length (fun i => (F k).getD i 0)
theorem twrow_start (w : World) (n B : Nat) (T : Nat → Int) (F : Nat → List Int) : TwRow (w.alloc (.cells (madeCells #[.int .i64 0, .slice none 0 0] (n * 2)) 128)) w.heap.size n 0 B T F := by
  refine ⟨fun c => (madeCells #[.int .i64 0, .slice none 0 0] (n * 2)).getD c undef, fun _ => 0, ⟨_, blk_alloc_new _ _, size_madeCells _ _, fun i hi => ?_⟩, fun k hk => absurd hk (Nat.not_lt_zero _)⟩
  have hs : i < (madeCells #[.int .i64 0, .slice none 0 0] (n * 2)).size := by rw [size_madeCells]; exact hi
  rw [Array.getElem?_eq_getElem hs]
  simp [Array.getD, hs]
theorem TwRow.frame {w w' : World} {g n j B : Nat} {T : Nat → Int} {F : Nat → List Int} {S : Nat → Prop} (h : TwRow w g n j B T F) (k : Only S w w') (h1 : ¬ S g) (h2 : ∀ c, B ≤ c → c < w.heap.size → ¬ S c) : TwRow w' g n j B T F := by
  obtain ⟨f, gs, hr, hk⟩ := h
  refine ⟨f, gs, k.row hr h1, fun i hi => ?_⟩
  obtain ⟨a1, a2, a3, a4, a5⟩ := hk i hi
  exact ⟨a1, a2, a3, a4, a5.frame k (h2 _ a3 a5.lt)⟩
theorem TwRow.below {w w' : World} {g n j B : Nat} {T : Nat → Int} {F : Nat → List Int} (h : TwRow w g n j B T F) (k : Below w.heap.size w w') : TwRow w' g n j B T F := h.frame (S := fun _ => False) (Only.of_below k) id (fun _ _ _ => id)
theorem TwRow.is {w : World} {g n j B : Nat} {T : Nat → Int} {F : Nat → List Int} (h : TwRow w g n j B T F) : ∃ f, w.rowIs g 128 (n * 2) f := by
  obtain ⟨f, gs, hr, _⟩ := h
  exact ⟨f, hr⟩
def updN (gs : Nat → Nat) (j gn k : Nat) : Nat := if k = j then gn else gs k
theorem updN_same (gs : Nat → Nat) (j gn : Nat) : updN gs j gn j = gn := if_pos rfl
theorem updN_ne (gs : Nat → Nat) {j gn k : Nat} (h : k ≠ j) : updN gs j gn k = gs k := if_neg h
theorem TwRow.step {w : World} {g n j B gn : Nat} {T : Nat → Int} {F : Nat → List Int} (h : TwRow w g n j B T F) (hj : j < n) (hB : B ≤ gn) (hne : gn ≠ g) (ho : Own w gn (F j).length (fun i => (F j).getD i 0)) :
    TwRow ((w.setCell ⟨g, j * 2, none⟩ (.int .i64 (T j))).setCell ⟨g, j * 2 + 1, none⟩ (.slice (some ⟨gn, 0, none⟩) (F j).length (F j).length)) g n (j + 1) B T F := by
  obtain ⟨f, gs, hr, hk⟩ := h
  have o : Only (fun k => k = g) w ((w.setCell ⟨g, j * 2, none⟩ (.int .i64 (T j))).setCell ⟨g, j * 2 + 1, none⟩ (.slice (some ⟨gn, 0, none⟩) (F j).length (F j).length)) :=
    ((Only.refl (fun k => k = g) w).setCell (a := ⟨g, j * 2, none⟩) (Or.inr rfl) _).setCell (a := ⟨g, j * 2 + 1, none⟩) (Or.inr rfl) _
  refine ⟨_, updN gs j gn, (hr.set (j * 2) (.int .i64 (T j))).set (j * 2 + 1) (.slice (some ⟨gn, 0, none⟩) (F j).length (F j).length), fun k hkj => ?_⟩
  by_cases e : k = j
  · subst e
    refine ⟨?_, ?_, ?_, ?_, ?_⟩
    · show (if k * 2 = k * 2 + 1 then _ else if k * 2 = k * 2 then _ else _) = _
      rw [if_neg (by omega), if_pos rfl]
    · show (if k * 2 + 1 = k * 2 + 1 then _ else _) = _
      rw [if_pos rfl, updN_same]
    · rw [updN_same]; exact hB
    · rw [updN_same]; exact hne
    · rw [updN_same]; exact ho.frame o hne
  · obtain ⟨a1, a2, a3, a4, a5⟩ := hk k (by omega)
    refine ⟨?_, ?_, ?_, ?_, ?_⟩
    · show (if k * 2 = j * 2 + 1 then _ else if k * 2 = j * 2 then _ else f (k * 2)) = _
      rw [if_neg (by omega), if_neg (by omega)]; exact a1
    · show (if k * 2 + 1 = j * 2 + 1 then _ else if k * 2 + 1 = j * 2 then _ else f (k * 2 + 1)) = _
      rw [if_neg (by omega), if_neg (by omega), updN_ne gs e]; exact a2
    · rw [updN_ne gs e]; exact a3
    · rw [updN_ne gs e]; exact a4
    · rw [updN_ne gs e]; exact a5.frame o a4
theorem TwRow.cells {w : World} {g n j B k : Nat} {T : Nat → Int} {F : Nat → List Int} (h : TwRow w g n j B T F) (hj : j ≤ n) (hk : k < j) : ∃ gk, w.cell? ⟨g, k * 2, none⟩ = some (.int .i64 (T k)) ∧ w.cell? ⟨g, k * 2 + 1, none⟩ = some (.slice (some ⟨gk, 0, none⟩) (F k).length (F k).length) ∧ B ≤ gk ∧ Own w gk (F k).length (fun i => (F k).getD i 0) := by
  obtain ⟨f, gs, hr, h2⟩ := h
  obtain ⟨a1, a2, a3, a4, a5⟩ := h2 k hk
  exact ⟨gs k, (hr.cell (by omega)).trans (congrArg some a1), (hr.cell (by omega)).trans (congrArg some a2), a3, a5⟩
def TwinsAs (w : World) (n : Nat) (T : Nat → Int) (F : Nat → List Int) (e : Ending) (w' : World) : Prop := ∃ g, e = .returned (.slice (some ⟨g, 0, none⟩) n n) ∧ w.heap.size ≤ g ∧ TwRow w' g n n w.heap.size T F ∧ Below w.heap.size w w'
def tagG (r : RS) (G : List Nat) (k : Nat) : Int := (blkAt r (G.getD k 0)).tag
def fldG (s : St) (r : RS) (G : List Nat) (k : Nat) : List Int := newF s r G (G.getD k 0)
theorem twins_any (w : World) (h : Ar w p s) (hr : Rep s r) (hM : Mv w p r q bl G D) (hG : GoodG r G) (hfl : ∀ i, i ∈ G → ∀ x, x ∈ wordsOf (blkAt r i) → ∀ j, leadI s r x = some j → j ∈ G) :
    Calls Try.prog 88 #[.pointer (some ⟨q + 1, 0, none⟩)] w fun e w' => TwinsAs w G.length (tagG r G) (fldG s r G) e w' := by
  have HAR : Hid (∀ wr, Below w.heap.size w wr → Ar wr p s) := fun wr k => h.frame (S := fun _ => False) (Only.of_below k) id id id id
  have HMV : Hid (∀ wr, Below w.heap.size w wr → Mv wr p r q bl G D) := fun wr k => hM.below k
  have hbd := (good_bound h hr hG).2.1
  have HR : Hid _ := hr
  have HGG : Hid (GoodG r G) := hG
  have HFL : Hid _ := hfl
  obtain ⟨al, cb, ebl, hws, hal⟩ := mv_bl h hr hG hM
  have HWS : Hid (∀ wr, Below w.heap.size w wr → WS wr al G.length cb (adW r G)) := fun wr k => hws.below k
  obtain ⟨c0, c1, c2, c3, c4⟩ := hM.1.cells
  rw [ebl] at c3
  have hmk := run_make_twins G.length (by omega)
  have HS : Hid (∀ o, (w.alloc o).cell? ⟨q + 1, 3, none⟩ = some (.slice al G.length cb)) := fun o => by
    have := (hM.below (below_alloc w o)).1.cells.2.2.2.1
    rw [ebl] at this; exact this
  have k3 := HS.out (.cells (madeCells #[.int .i64 0, .slice none 0 0] (G.length * 2)) 128)
  clear hr hM hG hfl hws hal
  go_enter Try.func88, Try.ntmps88
  go_wp2_with fail
  have hb2 : Below w.heap.size w (w.alloc (.cells (madeCells #[.int .i64 0, .slice none 0 0] (G.length * 2)) 128)) := (Below.refl _ _).alloc (Nat.le_refl _) _
  have ho2 := fun B => twrow_start w G.length B (tagG r G) (fldG s r G)
  obtain ⟨g, hg⟩ : ∃ g, g = w.heap.size := ⟨_, rfl⟩
  have HG : Hid (w.heap.size ≤ g) := by show _ ≤ _; omega
  have HG2 : Hid (g < (w.alloc (.cells (madeCells #[.int .i64 0, .slice none 0 0] (G.length * 2)) 128)).heap.size) := by show _ < _; rw [nblk_alloc]; omega
  rw [← hg] at ho2 ⊢
  clear hg k3
  generalize w.alloc (.cells (madeCells #[.int .i64 0, .slice none 0 0] (G.length * 2)) 128) = w2 at *
  go_loopw [17] (fun i wr => ∃ j : Nat, j ≤ G.length ∧ i = .int .i64 j ∧ TwRow wr g G.length j w.heap.size (tagG r G) (fldG s r G) ∧ Below w.heap.size w wr) (fun i _ => G.length - (intOf i).toNat)
  case atStart => exact ⟨0, Nat.zero_le _, rfl, ho2 _, hb2⟩
  case round =>
    clear ho2 hb2 HG2
    obtain ⟨j, hj, rfl, ho, hbr⟩ := hrel
    have h := HAR.out wr hbr
    have hM := HMV.out wr hbr
    by_cases hlt : j < G.length
    · obtain ⟨x, rfl, hxc⟩ := (HWS.out wr hbr).cell j hlt
      obtain ⟨i, hi⟩ : ∃ i, G[j]? = some i := ⟨_, List.getElem?_eq_getElem hlt⟩
      have hiG := List.mem_of_getElem? hi
      have hil : i < r.L.length := HGG.out.2 i hiG
      have hgi : G.getD j 0 = i := by rw [List.getD_eq_getElem?_getD, hi]; rfl
      obtain ⟨y, hy⟩ : ∃ y : Int, y = 2 * ((blkAt r i).ad : Int) := ⟨_, rfl⟩
      have hay : adW r G j = y := by unfold adW; rw [hgi, hy]
      rw [hay] at hxc
      have x1 : (0 : Int) ≤ (j : Int) := by omega
      have x2 : (j : Int) < (G.length : Int) := by omega
      have HY : Hid _ := hy
      have HT : Hid ((blkAt r i).tag = tagG r G j) := by show _ = _; unfold tagG; rw [hgi]
      have HF : Hid (newF s r G i = fldG s r G j) := by show _ = _; unfold fldG; rw [hgi]
      have HFI : Hid _ := HFL.out i hiG
      have HO := hidden ho
      have HBR := hidden hbr
      have hgl := (HO.out.is).choose_spec.lt
      clear hy hay hgi hi hiG ho hbr
      go_wp2_with (go_at_call 93; refine (twin_any y _ h HR.out hM HGG.out hil HY.out HFI.out).mono ?_; rw [HT.out, HF.out]; rintro e w3 ⟨gn, rfl, hgn, ho3, hb3⟩; have R3 := hidden (HO.out.below hb3); have B3 := hidden (HBR.out.trans (hb3.mono HBR.out.size)); have O3 := hidden ho3; have GN := hidden (Nat.le_trans HBR.out.size hgn); have NE := hidden (Nat.ne_of_gt (Nat.lt_of_lt_of_le hgl hgn)); obtain ⟨f3, hf3⟩ := R3.out.is; have k1 := hf3.cell (i := j * 2) (by omega); have k2 := hf3.cell (i := j * 2 + 1) (by omega); have k3 := hf3.frozen (j * 2); have k4 := hf3.frozen (j * 2 + 1); clear hf3 ho3 hb3 hgn)
      go_roundw
      case rel => exact ⟨j + 1, by omega, by go_num, R3.out.step hlt GN.out NE.out O3.out, below_set (below_set B3.out HG.out _ _) HG.out _ _⟩
      case measure => simp [intOf]; omega
    · have ej : j = G.length := by omega
      have HE : Hid _ := ej
      have hnl : ¬ ((j : Int) < (G.length : Int)) := by omega
      clear ej
      go_wp2
      go_ret
      exact ⟨g, rfl, HG.out, by rw [← HE.out]; rw [← HE.out] at ho; exact ho, hbr⟩
end Go.Proofs.Ytjnlfnecmiklhaa

namespace Go.Proofs.Ytjnlfnecmiklhaa
open Go.ChangeShapes Go.WideShapes Go.ChangeAt Go.RowKit Go.Deep
set_option linter.unusedVariables false
set_option maxHeartbeats 1000000
variable {p : Pl} {s : St} {r : RS}

/-- The first j fields are written. -/
def mixF (F : List Int) (j : Nat) : List Int := F.take j ++ List.replicate (F.length - j) 1
theorem mixF_len (F : List Int) {j : Nat} (h : j ≤ F.length) : (mixF F j).length = F.length := by unfold mixF; simp; omega
theorem mixF_zero (F : List Int) : mixF F 0 = List.replicate F.length 1 := by unfold mixF; simp
theorem mixF_all (F : List Int) : mixF F F.length = F := by unfold mixF; simp
theorem mixF_set (F : List Int) {j : Nat} (h : j < F.length) : (mixF F j).set j (F.getD j 0) = mixF F (j + 1) := by
  unfold mixF
  have e1 : F.length - j = (F.length - (j + 1)) + 1 := by omega
  have hl : (F.take j).length = j := by simp; omega
  rw [List.set_append_right _ _ (by omega), hl, Nat.sub_self, e1, List.replicate_succ, List.set_cons_zero]
  rw [List.take_add_one, List.append_assoc, List.getElem?_eq_getElem h, List.getD_eq_getElem?_getD, List.getElem?_eq_getElem h]
  rfl
def layR (r : RS) (ad : Nat) (t : Int) (F : List Int) : RS := ⟨r.n, r.which, r.L ++ [⟨ad, t, F⟩]⟩
theorem lay_put {s : St} {ad : Nat} {t : Int} {F : List Int} {j : Nat} (h : Rep s (layR r ad t (mixF F j))) (hs : s.top ≤ 100000) (hj : j < F.length) : Rep (s.put (2 * (ad : Int)) j (F.getD j 0)) (layR r ad t (mixF F (j + 1))) := by
  have hb : (layR r ad t (mixF F j)).L[r.L.length]? = some ⟨ad, t, mixF F j⟩ := by unfold layR; simp
  obtain ⟨hf, _⟩ := h.word hb hs
  have h2 := (rep_put (v := F.getD j 0) (i := j) h hb (by rw [hf]) (by show j < (mixF F j).length; rw [mixF_len F (by omega)]; exact hj)).2
  have e : (layR r ad t (mixF F j)).put r.L.length ⟨ad, t, mixF F j⟩ j (F.getD j 0) = layR r ad t (mixF F (j + 1)) := by
    unfold layR RS.put
    congr 1
    show (r.L ++ [_]).set r.L.length ⟨ad, t, (mixF F j).set j (F.getD j 0)⟩ = _
    rw [mixF_set F hj, List.set_append_right _ _ (Nat.le_refl _), Nat.sub_self, List.set_cons_zero]
  rw [← e]
  exact h2
def LaidAs (w : World) (p : Pl) (r : RS) (e : Ending) (w' : World) : Prop := e = .returned (.tuple #[]) ∧ ∃ s', Ar w' p s' ∧ Rep s' r ∧ Only p.own w w'
theorem twinLay_any {t : Int} {F : List Int} {g : Nat} (w : World) (h : Ar w p s) (hr : Rep s r) (ho : Own w g F.length (fun i => F.getD i 0)) (hg : ¬ p.own g) (hlo : ∀ j, 0 ≤ F.getD j 0 ∧ F.getD j 0 ≤ 18446744073709551615) (hE : s.allocE t F.length = 0) :
    Calls Try.prog 90 #[.agg #[.int .i64 t, .slice (some ⟨g, 0, none⟩) F.length F.length], .pointer (some ⟨p.a, 0, none⟩)] w fun e w' => LaidAs w p (layR r (s.top + 1) t F) e w' := by
  have n2 := h.n2; have t1 := h.t1; have t2 := h.t2; have b1 := h.b1
  obtain ⟨_, z0, z1, g4, t0, t1'⟩ := allocE_zero hE
  have l1 := lt_of_some h.ha
  have l2 := lt_of_some h.hh
  have l3 := h.hc.lt
  have l4 := h.hb.lt
  have HOW : Hid (∀ wr, Only p.own w wr → Own wr g F.length (fun i => F.getD i 0)) := fun wr k => ho.frame k hg
  have HBB : Hid (∀ wr, Only p.own (w.alloc (.cells #[.int .i64 t, .slice (some ⟨g, 0, none⟩) F.length F.length] 128)) wr → wr.heap[w.heap.size]? = some (.cells #[.int .i64 t, .slice (some ⟨g, 0, none⟩) F.length F.length] 128 (0, 0))) := fun wr k => by
    refine (k.block _ (by rw [nblk_alloc]; omega) (fun hs => ?_)).trans (blk_alloc_new _ _)
    rcases hs with e | e | e <;> omega
  have HO2 : Hid (Only p.own w (w.alloc (.cells #[.int .i64 t, .slice (some ⟨g, 0, none⟩) F.length F.length] 128))) := (Only.refl _ _).alloc _
  have HA : Hid (s.allocE t F.length = 0) := hE
  have HW : Hid (s.allocW t F.length = 2 * ((s.top + 1 : Nat) : Int)) := by show _ = _; unfold St.allocW; rw [if_pos hE]; omega
  have HR2 : Hid (Rep (s.alloc t F.length) (layR r (s.top + 1) t (mixF F 0))) := by
    have := rep_alloc hr h.t1 hE
    rw [mixF_zero]
    unfold RS.alloc at this
    rw [Int.toNat_natCast] at this
    exact this
  have HLO : Hid _ := hlo
  have hfl : F.length ≤ 4096 := by omega
  obtain ⟨ad, had⟩ : ∃ ad, ad = s.top + 1 := ⟨_, rfl⟩
  rw [← had] at HR2 HW ⊢
  have had2 : ad ≤ 70000 := by omega
  clear hE ho hg hr had hlo
  go_enter Try.func90, Try.ntmps90
  go_wp2_with (go_at_call 53; refine (alloc_at t (F.length : Int) (2 * (ad : Int)) 0 _ (h.alloc _) HW.out HA.out).mono ?_; rintro e w2 ⟨rfl, h2, o2⟩; have H2 := hidden h2; have O2 := hidden o2; obtain ⟨⟨k0, k1⟩, k2⟩ := two_cells (HBB.out w2 o2); clear h2 o2)
  have HRR := HR2
  clear HW HA n2 t1 t2 b1 l1 l2 l3 l4
  go_loopw [21] (fun i wr => ∃ (j : Nat) (s' : St), j ≤ F.length ∧ i = .int .i64 j ∧ Ar wr p s' ∧ Rep s' (layR r ad t (mixF F j)) ∧ Only p.own w wr) (fun i _ => F.length - (intOf i).toNat)
  case atStart => exact ⟨0, _, Nat.zero_le _, rfl, H2.out, HRR.out, HO2.out.trans O2.out⟩
  case round =>
    clear HRR HR2 H2 O2 k0 k1 k2
    obtain ⟨j, s', hj, rfl, h', hr', o'⟩ := hrel
    have n2 := h'.n2; have t2 := h'.t2; have b1 := h'.b1
    by_cases hlt : j < F.length
    · have hxc := (HOW.out wr o').cell hlt
      obtain ⟨v0, v1⟩ := HLO.out j
      have HN : Hid (Rep (s'.put (2 * (ad : Int)) j (F.getD j 0)) (layR r ad t (mixF F (j + 1)))) := lay_put hr' (by omega) hlt
      have x1 : (0 : Int) ≤ (j : Int) := by omega
      have x2 : (j : Int) < (F.length : Int) := by omega
      have HFI : Hid s'.Fits := hr'.fits
      have O' : Hid _ := o'
      clear hr' o' t2 b1
      generalize F.getD j 0 = v at *
      go_wp2_with (go_at_call 34; refine (set_any (2 * (ad : Int)) j v _ h' HFI.out (by omega) (by omega) v0 v1).mono ?_; rintro e w4 ⟨rfl, h4, o4⟩; have H4 := hidden h4; have O4 := hidden (O'.out.trans o4); clear h4 o4)
      go_roundw
      case rel => exact ⟨j + 1, _, by omega, by go_num, H4.out, HN.out, O4.out⟩
      case measure => simp [intOf]; omega
    · have ej : j = F.length := by omega
      have HE : Hid _ := ej
      have hnl : ¬ ((j : Int) < (F.length : Int)) := by omega
      clear ej
      go_wp2
      go_end0
      exact ⟨rfl, s', h', by rw [HE.out, mixF_all] at hr'; exact hr', o'⟩
end Go.Proofs.Ytjnlfnecmiklhaa
