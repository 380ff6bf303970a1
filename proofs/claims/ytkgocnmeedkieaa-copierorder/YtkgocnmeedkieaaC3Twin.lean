/-
  A block as it will lie in the other half: twin and twins. Condition: the arena and the plan lie in memory, and all that the block's words lead to has its place.
-/
import Derived.Test.YtkgocnmeedkieaaC3Move
import Derived.Test.YtkgocnmeedkieaaPlainColl2
namespace Go.Proofs.Ytkgocnmeedkieaa
open Go.ChangeShapes Go.WideShapes Go.ChangeAt Go.RowKit Go.Deep
set_option linter.unusedVariables false
set_option maxHeartbeats 1000000
variable {p : Pl} {s : St} {r : RS} {q : Nat} {bl : Value} {G : List Nat} {D : DataW Unit}

theorem two_cells {w : World} {b : Nat} {x0 x1 : Value} {t : TypeId} (h : w.heap[b]? = some (.cells #[x0, x1] t (0, 0))) : (w.cell? ⟨b, 0, none⟩ = some x0 ∧ w.cell? ⟨b, 1, none⟩ = some x1) ∧ ∀ i, w.frozen? ⟨b, i, none⟩ = false := by
  refine ⟨⟨?_, ?_⟩, fun i => ?_⟩ <;> simp [World.cell?, World.frozen?, h]
theorem two_store {w : World} {b : Nat} {x0 x1 : Value} {t : TypeId} (h : w.heap[b]? = some (.cells #[x0, x1] t (0, 0))) (y0 y1 : Value) : ((w.setCell ⟨b, 0, none⟩ y0).setCell ⟨b, 1, none⟩ y1).heap[b]? = some (.cells #[y0, y1] t (0, 0)) := by
  simp [World.setCell, Array.getElem?_modify, h]
/-- The fields of a block as they will be. -/
def newF (s : St) (r : RS) (G : List Nat) (i : Nat) : List Int := if (blkAt r i).tag = 202 then (blkAt r i).F else (blkAt r i).F.map (newW s r (otherB r) G)
theorem newF_len (s : St) (r : RS) (G : List Nat) (i : Nat) : (newF s r G i).length = (blkAt r i).F.length := by unfold newF; split <;> simp
structure TwS (w0 wr : World) (p : Pl) (s : St) (r : RS) (q : Nat) (bl : Value) (G : List Nat) (D : DataW Unit) : Prop where
  mv : Mv wr p r q bl G D
  ar : Ar wr p s
  be : Below w0.heap.size w0 wr
  hb : wr.heap[w0.heap.size]? = some (.cells #[.int .i64 0, .slice none 0 0] 70 (0, 0))
theorem TwS.step {w0 wr w2 : World} (h : TwS w0 wr p s r q bl G D) (k : Below wr.heap.size wr w2) : TwS w0 w2 p s r q bl G D :=
  ⟨h.mv.below k, h.ar.frame (S := fun _ => False) (Only.of_below k) id id id id, h.be.trans (k.mono h.be.size), (k.block _ (lt_of_some h.hb)).trans h.hb⟩
theorem tws_start {w : World} (h : Ar w p s) (hM : Mv w p r q bl G D) : TwS w (w.alloc (.cells #[.int .i64 0, .slice none 0 0] 70)) p s r q bl G D :=
  have k : Below w.heap.size w (w.alloc (.cells #[.int .i64 0, .slice none 0 0] 70)) := (Below.refl _ _).alloc (Nat.le_refl _) _
  ⟨hM.below k, h.alloc _, k, blk_alloc_new _ _⟩
def TwinAs (w : World) (t : Int) (F : List Int) (e : Ending) (w' : World) : Prop := ∃ g, e = .returned (.agg #[.int .i64 t, .slice (some ⟨g, 0, none⟩) F.length F.length]) ∧ w.heap.size ≤ g ∧ Own w' g F.length (fun j => F.getD j 0) ∧ Below w.heap.size w w'
theorem own_two {w : World} {g b n : Nat} {X : Nat → Int} (h : Own w g n X) (hne : g ≠ b) (y0 y1 : Value) : Own ((w.setCell ⟨b, 0, none⟩ y0).setCell ⟨b, 1, none⟩ y1) g n X :=
  h.frame (S := fun k => k = b) (((Only.refl (fun k => k = b) _).setCell (a := ⟨b, 0, none⟩) (Or.inr rfl) y0).setCell (a := ⟨b, 1, none⟩) (Or.inr rfl) y1) hne
theorem below_two' {w w0 : World} {B b : Nat} (h : Below B w w0) (hb : B ≤ b) (y0 y1 : Value) : Below B w ((w0.setCell ⟨b, 0, none⟩ y0).setCell ⟨b, 1, none⟩ y1) := (h.setCell (p := ⟨b, 0, none⟩) hb y0).setCell (p := ⟨b, 1, none⟩) hb y1
theorem below_alloc (w : World) (o : Obj) : Below w.heap.size w (w.alloc o) := (Below.refl _ _).alloc (Nat.le_refl _) o
theorem Own.below' {w : World} {g n : Nat} {X : Nat → Int} (h : Own w g n X) (o : Obj) : Own (w.alloc o) g n X := h.of_block (blk_alloc_lt _ _ _ h.lt)
theorem blk_is {w w1 : World} {b k : Nat} {o : Obj} (h : w.heap[b]? = some o) (e : w1 = w.drewN k) : w1.heap[b]? = some o := by rw [e]; exact h
theorem twin_text {i : Nat} (y : Int) (w : World) (h : Ar w p s) (hr : Rep s r) (hM : Mv w p r q bl G D) (hi : i < r.L.length) (hy : y = 2 * ((blkAt r i).ad : Int)) (ht : (blkAt r i).tag = 202) :
    Calls Try.prog 65 #[.pointer (some ⟨q + 1, 0, none⟩), .int .u64 y] w fun e w' => TwinAs w (blkAt r i).tag (newF s r G i) e w' := by
  have hb := blkAt_some hi
  have hin := hr.inside hb
  have n2 := h.n2; have t2 := h.t2; have b1 := h.b1
  have HY : Hid _ := hy
  have y0 : 0 ≤ y := by omega
  have y1 : y ≤ 18446744073709551615 := by omega
  have HT : Hid (s.tag y = (blkAt r i).tag) := by show _ = _; rw [hy]; exact hr.tagOf hb (by omega)
  have HTF : Hid (((blkAt r i).tag != 202) = false) := by show _ = _; rw [ht]; rfl
  have HNF : Hid (newF s r G i = (blkAt r i).F) := by show _ = _; unfold newF; rw [if_pos ht]
  have HR : Hid _ := hr
  have HS : Hid _ := tws_start h hM
  obtain ⟨c0, c1, c2, c3, c4⟩ := HS.out.mv.1.cells
  clear hy hb hin ht hr hM h
  go_enter Try.func65, Try.ntmps65
  go_wp2_with (first
    | (go_at_call 27; refine (tag_of y _ HS.out.ar y0 y1).mono ?_; rintro e w1 ⟨rfl, k, hw1⟩; rw [HT.out]; have S1 := hidden (HS.out.step (below_is hw1)); clear hw1)
    | (go_at_call 63; refine (fields_any y _ S1.out.ar HR.out S1.out.mv hi HY.out).mono ?_; rintro e w2 ⟨g, rfl, hg, ho2, hb2⟩; have S2 := hidden (S1.out.step hb2); have G2 := hidden (Nat.lt_of_lt_of_le (lt_of_some S1.out.hb) hg); have O2 := hidden ho2; have K2 := hidden (Nat.le_of_lt ho2.lt); clear ho2 hb2 hg)
    | (go_at_call 62; refine (hasWords_any y _ (S2.out.step (below_alloc _ _)).ar HR.out (S2.out.step (below_alloc _ _)).mv hi HY.out).mono ?_; rintro e w3 ⟨rfl, k, hw3⟩; rw [HTF.out]; have S3 := hidden ((S2.out.step (below_alloc _ _)).step (below_is hw3)); have O3 := hidden (own_is (O2.out.below' _) hw3); have h5 := blk_is (blk_alloc_new _ _) hw3; clear hw3; obtain ⟨⟨k0, k1⟩, k2⟩ := two_cells h5; obtain ⟨⟨k3, k4⟩, k5⟩ := two_cells S3.out.hb))
  refine bodyPost_ret (results_cell_row rfl _ _ w.heap.size 70 #[.int .i64 (blkAt r i).tag, .slice (some ⟨g, 0, none⟩) (blkAt r i).F.length (blkAt r i).F.length] (0, 0) _ rfl (two_store S3.out.hb _ _) Try.underlying70 rfl (by kernel_rfl)) rfl ?_
  unfold TwinAs
  rw [HNF.out]
  exact ⟨g, rfl, Nat.le_of_lt G2.out, own_two O3.out (by have := G2.out; omega) _ _, below_two' S3.out.be (Nat.le_refl _) _ _⟩
theorem own_three {w : World} {g b c n : Nat} {X : Nat → Int} (h : Own w g n X) (hb : g ≠ b) (hc : g ≠ c) (v y0 y1 : Value) : Own (((w.setCell ⟨c, 1, none⟩ v).setCell ⟨b, 0, none⟩ y0).setCell ⟨b, 1, none⟩ y1) g n X :=
  own_two (h.frame (S := fun k => k = c) ((Only.refl (fun k => k = c) _).setCell (a := ⟨c, 1, none⟩) (Or.inr rfl) v) hc) hb y0 y1
theorem blk_set {w : World} {b c : Nat} {o : Obj} (h : w.heap[b]? = some o) (hne : b ≠ c) (v : Value) : (w.setCell ⟨c, 1, none⟩ v).heap[b]? = some o :=
  ((Only.refl (fun k => k = c) w).setCell (a := ⟨c, 1, none⟩) (Or.inr rfl) v).block b (lt_of_some h) hne |>.trans h
theorem newF_words {s : St} {r : RS} {G : List Nat} {i : Nat} (ht : ¬ (blkAt r i).tag = 202) {j : Nat} (hj : j < (blkAt r i).F.length) : (newF s r G i).getD j 0 = newW s r (otherB r) G ((blkAt r i).F.getD j 0) := by
  unfold newF
  rw [if_neg ht, List.getD_eq_getElem?_getD, List.getD_eq_getElem?_getD, List.getElem?_map, List.getElem?_eq_getElem hj]
  rfl
theorem twin_words {i : Nat} (y : Int) (w : World) (h : Ar w p s) (hr : Rep s r) (hM : Mv w p r q bl G D) (hG : GoodG r G) (hi : i < r.L.length) (hy : y = 2 * ((blkAt r i).ad : Int)) (ht : ¬ (blkAt r i).tag = 202) (hfl : ∀ x, x ∈ wordsOf (blkAt r i) → ∀ j, leadI s r x = some j → j ∈ G) :
    Calls Try.prog 65 #[.pointer (some ⟨q + 1, 0, none⟩), .int .u64 y] w fun e w' => TwinAs w (blkAt r i).tag (newF s r G i) e w' := by
  have hb := blkAt_some hi
  have hin := hr.inside hb
  have n2 := h.n2; have t2 := h.t2; have b1 := h.b1
  have HY : Hid _ := hy
  have y0 : 0 ≤ y := by omega
  have y1 : y ≤ 18446744073709551615 := by omega
  have HT : Hid (s.tag y = (blkAt r i).tag) := by show _ = _; rw [hy]; exact hr.tagOf hb (by omega)
  have HTF : Hid (((blkAt r i).tag != 202) = true) := by show _ = _; rw [bne_iff_ne]; exact ht
  have HNF : Hid (∀ j, j < (blkAt r i).F.length → newW s r (otherB r) G ((blkAt r i).F.getD j 0) = (newF s r G i).getD j 0) := fun j hj => (newF_words ht hj).symm
  have HNL : Hid ((newF s r G i).length = (blkAt r i).F.length) := newF_len s r G i
  have HLO : Hid (∀ j, j < (blkAt r i).F.length → 0 ≤ (blkAt r i).F.getD j 0) := fun j _ => (Rep.fieldLo h hr hb j).1
  have HHI : Hid (∀ j, j < (blkAt r i).F.length → (blkAt r i).F.getD j 0 ≤ 18446744073709551615) := fun j _ => (Rep.fieldLo h hr hb j).2
  have HFL : Hid ((blkAt r i).F.length ≤ 100000) := by have := (hr.tag i _ hb).2.2; show _ ≤ _; omega
  have HIN : Hid (∀ j, j < (blkAt r i).F.length → ∀ k, leadI s r ((blkAt r i).F.getD j 0) = some k → k ∈ G) := fun j hj k hk => by
    refine hfl _ ?_ k hk
    unfold wordsOf
    rw [if_neg ht, List.getD_eq_getElem?_getD, List.getElem?_eq_getElem hj]
    exact List.getElem_mem hj
  have HR : Hid _ := hr
  have HG : Hid (GoodG r G) := hG
  have HS : Hid _ := tws_start h hM
  obtain ⟨c0, c1, c2, c3, c4⟩ := HS.out.mv.1.cells
  clear hy hb hin ht hr hM h hfl hG
  go_enter Try.func65, Try.ntmps65
  go_wp2_with (first
    | (go_at_call 27; refine (tag_of y _ HS.out.ar y0 y1).mono ?_; rintro e w1 ⟨rfl, k, hw1⟩; rw [HT.out]; have S1 := hidden (HS.out.step (below_is hw1)); clear hw1)
    | (go_at_call 63; refine (fields_any y _ S1.out.ar HR.out S1.out.mv hi HY.out).mono ?_; rintro e w2 ⟨g, rfl, hg, ho2, hb2⟩; have S2 := hidden (S1.out.step hb2); have O2 := hidden ho2; clear ho2 hb2 hg)
    | (go_at_call 62; refine (hasWords_any y _ (S2.out.step (below_alloc _ _)).ar HR.out (S2.out.step (below_alloc _ _)).mv hi HY.out).mono ?_; rintro e w3 ⟨rfl, k, hw3⟩; rw [HTF.out]; have S3 := hidden ((S2.out.step (below_alloc _ _)).step (below_is hw3)); have O3 := hidden (own_is (O2.out.below' _) hw3); have h5 := blk_is (blk_alloc_new _ _) hw3; clear hw3; have q5 := lt_of_some S2.out.hb; obtain ⟨⟨k0, k1⟩, k2⟩ := two_cells h5; obtain ⟨⟨k3, k4⟩, k5⟩ := two_cells S3.out.hb)
    | (go_at_call 37; refine (moveAll_any _ S3.out.ar HR.out S3.out.mv HG.out (ws_own (c := (blkAt r i).F.length) O3.out HLO.out HHI.out) HFL.out HIN.out).mono ?_; rintro e w4 ⟨g4, rfl, hg4, ho4, hb4⟩; have S4 := hidden (S3.out.step hb4); have G4 := hidden hg4; have O4 := hidden ho4; have h6 := (hb4.block _ (lt_of_some h5)).trans h5; have G6 := hidden (lt_of_some h5); obtain ⟨⟨l0, l1⟩, l2⟩ := two_cells h6; obtain ⟨⟨l3, l4⟩, l5⟩ := two_cells S4.out.hb; have ne1 : w.heap.size ≠ w2.heap.size := Nat.ne_of_lt q5; have ne2 : w2.heap.size ≠ w.heap.size := fun e => ne1 e.symm; clear ho4 hb4 hg4 h6 h5 k0 k1 k2 k3 k4 k5))
  refine bodyPost_ret (results_cell_row rfl _ _ w.heap.size 70 #[.int .i64 (blkAt r i).tag, .slice (some ⟨g4, 0, none⟩) (blkAt r i).F.length (blkAt r i).F.length] (0, 0) _ rfl (two_store (blk_set S4.out.hb ne1 _) _ _) Try.underlying70 rfl (by kernel_rfl)) rfl ?_
  have i1 := G4.out
  have i2 := G6.out
  have i3 := S3.out.be.size
  have i4 := lt_of_some S3.out.hb
  unfold TwinAs
  rw [HNL.out]
  refine ⟨g4, rfl, by omega, own_three (O4.out.congr HNF.out) (by omega) (by omega) _ _ _, below_two' (S4.out.be.setCell (p := ⟨w2.heap.size, 1, none⟩) ?_ _) (Nat.le_refl _) _ _⟩
  show w.heap.size ≤ w2.heap.size
  omega
theorem twin_any {i : Nat} (y : Int) (w : World) (h : Ar w p s) (hr : Rep s r) (hM : Mv w p r q bl G D) (hG : GoodG r G) (hi : i < r.L.length) (hy : y = 2 * ((blkAt r i).ad : Int)) (hfl : ∀ x, x ∈ wordsOf (blkAt r i) → ∀ j, leadI s r x = some j → j ∈ G) :
    Calls Try.prog 65 #[.pointer (some ⟨q + 1, 0, none⟩), .int .u64 y] w fun e w' => TwinAs w (blkAt r i).tag (newF s r G i) e w' := by
  by_cases ht : (blkAt r i).tag = 202
  · exact twin_text y w h hr hM hi hy ht
  · exact twin_words y w h hr hM hG hi hy ht hfl
end Go.Proofs.Ytkgocnmeedkieaa
