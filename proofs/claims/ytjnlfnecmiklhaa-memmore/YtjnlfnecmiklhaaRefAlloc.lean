/-
  What Alloc of the document's own arena tells and makes, where it and the program's arena are in one state. Condition: it lies in memory (Rf), and both are in one state (Rep).
-/
import Derived.Test.YtjnlfnecmiklhaaRefOwn
namespace Go.Proofs.Ytjnlfnecmiklhaa
open Go.ChangeShapes Go.WideShapes Go.ChangeAt Go.RowKit Go.Deep
set_option linter.unusedVariables false
set_option maxHeartbeats 2000000
variable {w : World} {p : Pl} {s : St} {rb : Nat} {r : RS} {a : Option Addr} {cap : Nat} {V : Nat → Value}

/-- The old blocks that the document's own arena may write. -/
def Rown (rb : Nat) (a : Option Addr) (k : Nat) : Prop := k = rb ∨ a = some ⟨k, 0, none⟩
theorem both_drew {w' : World} {m : Nat} {S : Nat → Prop} (hw : w' = w.drewN m) (h : Both w p s rb r a cap V) : Both w' p s rb r a cap V ∧ Only S w w' := by
  rw [hw]; exact ⟨h.drewN m, (Only.refl _ _).drewN m⟩
theorem hidden {p : Prop} (h : p) : Hid p := h
theorem three_cells {w : World} {b : Nat} {x0 x1 x2 : Value} {t : TypeId} (h : w.heap[b]? = some (.cells #[x0, x1, x2] t (0, 0))) : (w.cell? ⟨b, 0, none⟩ = some x0 ∧ w.cell? ⟨b, 1, none⟩ = some x1 ∧ w.cell? ⟨b, 2, none⟩ = some x2) ∧ ∀ o, w.frozen? ⟨b, o, none⟩ = false := by
  simp [World.cell?, World.frozen?, h]
theorem three_set {w : World} {b : Nat} {x0 x1 x2 : Value} {t : TypeId} (h : w.heap[b]? = some (.cells #[x0, x1, x2] t (0, 0))) (v : Value) : (w.setCell ⟨b, 2, none⟩ v).heap[b]? = some (.cells #[x0, x1, v] t (0, 0)) := by
  simp [World.setCell, Array.getElem?_modify, h]
theorem own_ge {w : World} {B : Nat} {e : TypeId} {size : Nat} {v : Value} {n : Nat} {xs : List Value} (h : w.ownsRow B e size v n xs) : ∀ k, v.ownBlock = some k → B ≤ k := by
  intro k hk
  rcases h.2 with ⟨rfl, _⟩ | ⟨g, cap, cur, rfl, hg, _⟩
  · cases hk
  · have : g = k := by simpa [Value.ownBlock] using hk
    omega
theorem ralloc_next {w2 wr w3 : World} {lb k : Nat} {x0 x1 v : Value} {xs : List Value} {o : Obj} {t : TypeId} {size : Nat} (hl : wr.heap[lb]? = some (.cells #[x0, x1, v] 57 (0, 0))) (ho : wr.ownsRow (lb + 1) t size v k xs) (gr : (wr.alloc o).grownBy w3 v.ownBlock) (hb : Below lb w2 wr) :
    w3.heap[lb]? = some (.cells #[x0, x1, v] 57 (0, 0)) ∧ Below lb w2 w3 := by
  have hlt := lt_of_some hl
  have hge := own_ge ho
  refine ⟨(gr.block lb (by rw [nblk_alloc]; omega) (fun e => by have := hge lb e.symm; omega)).trans ((blk_alloc_lt _ _ _ hlt).trans hl), ?_⟩
  exact (hb.alloc (by omega) o).grown gr (by rw [nblk_alloc]; omega) (fun k hk => by have := hge k hk; omega)
theorem own_one {w : World} {B : Nat} {e : TypeId} {size : Nat} {v : Value} {n : Nat} {xs : List Value} (h : w.ownsRow B e size v n xs) : v.oneCell' = true := by
  rcases h.2 with ⟨rfl, _⟩ | ⟨g, cap, cur, rfl, _⟩
  · rfl
  · rfl
theorem Rf.top_lt (h : Rf w rb r a cap V) : ∀ ad, a = some ad → ad.block < w.heap.size := by
  intro ad had
  obtain ⟨g, cur, rfl, hb, hg, _⟩ := h.hl.2.2.2 ad had
  exact lt_of_some hg
theorem rf_below {w' : World} (h : Both w p s rb r a cap V) (hb : Below w.heap.size w w') : Rf w' rb r a cap V :=
  h.rf.frame (S := fun _ => False) (Only.of_below hb) (fun _ _ => id)
theorem FieldOf.grown {W w4 : World} {B : Nat} {v : Value} {F : List Int} {row : Option Nat} (h : FieldOf W B v F) (gr : W.grownBy w4 row) (hrow : ∀ k, row = some k → ∃ cur, W.heap[k]? = some (.cells cur 57 (0, 0))) : FieldOf w4 B v F := by
  obtain ⟨a, cap, e, hn, hc⟩ := h
  refine ⟨a, cap, e, hn, fun ad had => ?_⟩
  obtain ⟨g, e2, hb, ho⟩ := hc ad had
  refine ⟨g, e2, hb, ho.of_block (gr.block g ho.lt ?_)⟩
  intro e3
  obtain ⟨cur, hcur⟩ := hrow g e3.symm
  obtain ⟨c, hc', _⟩ := ho
  rw [hcur] at hc'
  simp at hc'
theorem own_row {w : World} {B : Nat} {e : TypeId} {size : Nat} {v : Value} {n : Nat} {xs : List Value} (h : w.ownsRow B e size v n xs) : ∀ k, v.ownBlock = some k → ∃ cur, w.heap[k]? = some (.cells cur e (0, 0)) := by
  intro k hk
  rcases h.2 with ⟨rfl, _⟩ | ⟨g, cap, cur, rfl, hg, hh, _⟩
  · cases hk
  · have : g = k := by simpa [Value.ownBlock] using hk
    exact ⟨cur, by rw [← this]; exact hh⟩
theorem field_own {w : World} {B B' k : Nat} {v : Value} (h : w.ownsRow B' 54 1 v k (List.replicate k (.int .u64 1))) (hB : B ≤ B') : FieldOf w B v (List.replicate k 1) := by
  rcases h.2 with ⟨rfl, e⟩ | ⟨g, cap, cur, rfl, hg, hh, hnc, _, hcs, htake⟩
  · subst e
    exact ⟨none, 0, rfl, fun _ => ⟨rfl, rfl⟩, fun ad h => by cases h⟩
  · refine ⟨some ⟨g, 0, none⟩, cap, by simp, fun h => (by cases h), fun ad had => ?_⟩
    cases had
    refine ⟨g, rfl, by omega, cur, hh, fun i hi => ?_⟩
    have hi' : i < k := by simpa using hi
    have : (cur.toList.take (k * 1))[i]? = some (.int .u64 1) := by rw [htake]; simp [hi']
    rw [List.getElem?_take, if_pos (by omega)] at this
    have e1 : (List.replicate k (1 : Int)).getD i 0 = 1 := by rw [List.getD_eq_getElem?_getD]; simp [hi']
    show cur[i]? = some (.int .u64 ((List.replicate k (1 : Int)).getD i 0))
    rw [e1]
    simpa using this
theorem FieldOf.setRb {w : World} {B rb o : Nat} {v x : Value} {F : List Int} (h : FieldOf w B v F) (hB : rb < B) : FieldOf (w.setCell ⟨rb, o, none⟩ x) B v F := by
  obtain ⟨a, cap, e, hn, hc⟩ := h
  refine ⟨a, cap, e, hn, fun ad had => ?_⟩
  obtain ⟨g, e2, hb, ho⟩ := hc ad had
  exact ⟨g, e2, hb, ho.of_block (blk_setCell_other _ _ _ _ (by show g ≠ rb; omega))⟩
theorem FieldOf.alloc {w : World} {B : Nat} {v : Value} {F : List Int} (h : FieldOf w B v F) (o : Obj) : FieldOf (w.alloc o) B v F := by
  obtain ⟨a, cap, e, hn, hc⟩ := h
  refine ⟨a, cap, e, hn, fun ad had => ?_⟩
  obtain ⟨g, e2, hb, ho⟩ := hc ad had
  exact ⟨g, e2, hb, ho.of_block (blk_alloc_lt _ _ _ ho.lt)⟩
/-- The row of blocks is the one that was, or a new one. -/
theorem hat_row {w2 wr : World} {g' H : Nat} (h2 : Both w2 p s rb r a cap V) (hb : Below w2.heap.size w2 wr) (hat : (Value.slice a r.L.length cap).ownBlock = some g' ∨ g' = H) (hH : wr.heap.size ≤ H) : ∀ q, some (Addr.mk g' 0 none) = some ⟨q, 0, none⟩ → a = some ⟨q, 0, none⟩ ∨ w2.heap.size ≤ q := by
  intro q hq
  have e : g' = q := by simpa using hq
  subst e
  rcases hat with h | h
  · cases a with
    | none => cases h
    | some ad =>
      obtain ⟨g, cur, rfl, _⟩ := h2.rf.hl.2.2.2 ad rfl
      have : g = g' := by simpa [Value.ownBlock] using h
      rw [this]; exact Or.inl rfl
  · have := hb.size
    exact Or.inr (by omega)
theorem ralloc_end {w2 wr w4 : World} {t z : Int} {k g' cap' : Nat} {v : Value} {xs : List Value} {o : Obj} (h2 : Both w2 p s rb r a cap V) (hb : Below w2.heap.size w2 wr) (hl : wr.heap[w2.heap.size]? = some (.cells #[.int .i64 (s.top + 1), .int .i64 t, v] 57 (0, 0)))
    (ho : wr.ownsRow (w2.heap.size + 1) 54 1 v k (List.replicate k (.int .u64 1))) (ek : k = z.toNat) (hx : wr.ownsRow (rb + 1) 57 3 (.slice a r.L.length cap) r.L.length xs)
    (hx2 : ∀ i b, r.L[i]? = some b → xs[i * 3]? = some (.int .i64 b.ad) ∧ xs[i * 3 + 1]? = some (.int .i64 b.tag) ∧ xs[i * 3 + 2]? = some (V i) ∧ FieldOf wr (rb + 1) (V i) b.F)
    (ho4 : w4.ownsRow (rb + 1) 57 3 (.slice (some ⟨g', 0, none⟩) (r.L.length + 1) cap') (r.L.length + 1) (xs ++ [.int .i64 (s.top + 1), .int .i64 t, v])) (gr : (wr.alloc o).grownBy w4 (Value.slice a r.L.length cap).ownBlock) :
    (w4.heap[rb]? = some (.cells #[.int .i64 r.n, .int .i64 r.which, .slice a r.L.length cap] 52 (0, 0)) ∧ w4.heap[w2.heap.size]? = some (.cells #[.int .i64 (s.top + 1), .int .i64 t, v] 57 (0, 0))) ∧
    Rf (w4.setCell ⟨rb, 2, none⟩ (.slice (some ⟨g', 0, none⟩) (r.L.length + 1) cap')) rb (r.alloc s t z) (some ⟨g', 0, none⟩) cap' (fun i => if i < r.L.length then V i else v) ∧
    Only (Rown rb a) w2 (w4.setCell ⟨rb, 2, none⟩ (.slice (some ⟨g', 0, none⟩) (r.L.length + 1) cap')) ∧ Fresh w2.heap.size r.L.length V (r.alloc s t z).L.length (fun i => if i < r.L.length then V i else v) := by
  have hrf := rf_below h2 hb
  have hrb2 := lt_of_some h2.rf.hr
  have hrb := lt_of_some hrf.hr
  have hlb := lt_of_some hl
  have hge := own_ge hx
  have hrow := own_row (hx.alloc o)
  have hlt : ∀ q, (Value.slice a r.L.length cap).ownBlock = some q → q < w2.heap.size := by
    intro q hq
    cases a with
    | none => cases hq
    | some ad =>
      have := h2.rf.top_lt ad rfl
      have e : ad.block = q := by simpa [Value.ownBlock] using hq
      omega
  have e1 : w4.heap[rb]? = some (.cells #[.int .i64 r.n, .int .i64 r.which, .slice a r.L.length cap] 52 (0, 0)) :=
    (gr.block rb (by rw [nblk_alloc]; omega) (fun e => by have := hge rb e.symm; omega)).trans ((blk_alloc_lt _ _ _ hrb).trans hrf.hr)
  have e2 : w4.heap[w2.heap.size]? = some (.cells #[.int .i64 (s.top + 1), .int .i64 t, v] 57 (0, 0)) :=
    (gr.block _ (by rw [nblk_alloc]; omega) (fun e => by have := hlt _ e.symm; omega)).trans ((blk_alloc_lt _ _ _ hlb).trans hl)
  have hf : Fresh w2.heap.size r.L.length V (r.alloc s t z).L.length (fun i => if i < r.L.length then V i else v) := by
    intro i hi
    by_cases hl : i < r.L.length
    · exact Or.inl ⟨hl, by show (if i < r.L.length then V i else v) = _; rw [if_pos hl]⟩
    · refine Or.inr (fun ad n c e => ?_)
      have e' : (if i < r.L.length then V i else v) = .slice (some ad) n c := e
      rw [if_neg hl] at e'
      have := own_ge ho ad.block (by rw [e']; rfl)
      omega
  refine ⟨⟨e1, e2⟩, ⟨?_, ?_⟩, ?_, hf⟩
  · show _ = some (Obj.cells #[.int .i64 r.n, .int .i64 r.which, .slice (some ⟨g', 0, none⟩) (r.L ++ [_]).length cap'] 52 (0, 0))
    rw [List.length_append]
    exact three_set e1 _
  · refine of_own (xs := xs ++ [.int .i64 (s.top + 1), .int .i64 t, v]) ?_ ?_
    · show World.ownsRow _ _ _ _ (.slice (some ⟨g', 0, none⟩) (r.L ++ [_]).length cap') (r.L ++ [_]).length _
      rw [List.length_append]
      exact ownsRow_setCell_below ho4 (by show rb < rb + 1; omega) _
    · intro i b hib
      have hxl : xs.length = r.L.length * 3 := hx.1
      rcases snoc_some hib with ⟨hb', hi⟩ | ⟨rfl, rfl⟩
      · obtain ⟨d1, d2, d3, d4⟩ := hx2 i b hb'
        rw [if_pos hi]
        refine ⟨?_, ?_, ?_, ((d4.alloc o).grown gr hrow).setRb (by omega)⟩
        · rw [List.getElem?_append_left (by omega)]; exact d1
        · rw [List.getElem?_append_left (by omega)]; exact d2
        · rw [List.getElem?_append_left (by omega)]; exact d3
      · rw [if_neg (by omega)]
        refine ⟨?_, ?_, ?_, ?_⟩
        · rw [List.getElem?_append_right (by omega), show r.L.length * 3 - xs.length = 0 from by omega]
          show some (Value.int .i64 ((s.top : Int) + 1)) = some (Value.int .i64 ((s.top + 1 : Nat) : Int))
          simp
        · rw [List.getElem?_append_right (by omega), show r.L.length * 3 + 1 - xs.length = 1 from by omega]
          rfl
        · rw [List.getElem?_append_right (by omega), show r.L.length * 3 + 2 - xs.length = 2 from by omega]
          rfl
        · have f1 : FieldOf wr (rb + 1) v (List.replicate z.toNat 1) := by rw [← ek]; exact field_own ho (by omega)
          exact ((f1.alloc o).grown gr hrow).setRb (by omega)
  · have o1 : Only (Rown rb a) w2 w4 := by
      refine ⟨gr.os.trans hb.os, gr.tape.trans hb.tape, gr.output.trans hb.output, Nat.le_trans hb.size (Nat.le_trans (by rw [nblk_alloc]; omega) gr.size), fun q hq hs => ?_⟩
      have := hb.size
      refine (gr.block q (by rw [nblk_alloc]; omega) ?_).trans ((blk_alloc_lt _ _ _ (by omega)).trans (hb.block q hq))
      intro e
      apply hs
      right
      cases a with
      | none => cases e
      | some ad =>
        obtain ⟨g, cur, rfl, _⟩ := h2.rf.hl.2.2.2 ad rfl
        have : g = q := by simpa [Value.ownBlock] using e.symm
        rw [this]
    exact o1.setCell (Or.inr (Or.inl rfl)) _
theorem grown_of_drew {w w' : World} {row : Option Nat} (h : w.drew.grownBy w' row) : w.grownBy w' row := ⟨h.os, h.tape, h.output, h.size, h.block⟩
theorem cell_beside {w : World} {rb lb o : Nat} {v : Value} (hne : rb < lb) (h : w.cell? ⟨lb, o, none⟩ = some v) : ∀ x, (w.setCell ⟨rb, 2, none⟩ x).cell? ⟨lb, o, none⟩ = some v :=
  fun x => (World.cell?_of_block (w := w) (blk_setCell_other _ _ _ _ (by show lb ≠ rb; omega))).trans h
theorem ralloc_low (t z : Int) (w : World) (h : Both w p s rb r a cap V) (g : s.allocE t z = 0) (c : 0 ≤ t) (c2 : t ≤ 199) :
    Calls Try.prog 59 #[.pointer (some ⟨rb, 0, none⟩), .int .i64 t, .int .i64 z] w fun e w' => e = .returned (.tuple #[.int .u64 (2 * (s.top + 1)), .int .i64 0]) ∧ ∃ a' cap' V', Rf w' rb (r.alloc s t z) a' cap' V' ∧ Only (Rown rb a) w w' ∧ Fresh w.heap.size r.L.length V (r.alloc s t z).L.length V' ∧ ∀ q, a' = some ⟨q, 0, none⟩ → a = some ⟨q, 0, none⟩ ∨ w.heap.size ≤ q := by
  obtain ⟨z1, z2, z3, z4, z5⟩ := h.sizes
  obtain ⟨_, g2, g3, g4, _, _⟩ := allocE_zero g
  have hn := h.rep.n
  have htop := h.rep.top
  have hbase := h.rep.base
  have hwh := h.rep.wh
  have HT : Hid (s.base + lenB r.L = s.top) := htop.symm
  have HBB : Hid (s.base = r.n * r.which) := hbase
  have HN : Hid _ := hn
  have e1 := wrapId ((s.top : Int) + 1) (by omega) (by omega)
  have e2 := wrapId ((s.top : Int) + 1 + z) (by omega) (by omega)
  have e3 := wrapId ((s.base : Int) + r.n) (by omega) (by omega)
  have g5 : (s.top : Int) + 1 + z ≤ s.base + r.n := by omega
  obtain ⟨c0, c1, c2', c3⟩ := h.rf.cells
  clear hn htop hbase g4 g
  go_enter Try.func59, Try.ntmps59
  go_wp2_with (go_at_call 18; refine (rtop_any s.base _ h.rf HBB.out z3 hwh z4 (by omega) (by omega)).mono ?_; rw [HT.out]; rintro e w1 ⟨rfl, m, hw1⟩; obtain ⟨h1, o1⟩ := both_drew (S := Rown rb a) hw1 h; clear hw1)
  clear c0 c1 c2' c3
  obtain ⟨c0, c1, c2', c3⟩ := h1.rf.cells
  go_quiet ((go_at_call 42; exact Calls.quiet_of (rbase_any s.base _ (h1.rf.drewN _) HBB.out z3 hwh)))
  have h2 := h1.drewN nq
  have o2 := o1.drewN nq
  generalize w1.drewN nq = w2 at h2 o2 ⊢
  clear h1 o1 c0 c1 c2' c3 h
  go_wp2
  go_loopw [10] (fun i wr => ∃ (k : Nat) (v : Value), (k : Int) ≤ z ∧ i = .int .i64 k ∧ wr.heap[w2.heap.size]? = some (.cells #[.int .i64 (s.top + 1), .int .i64 t, v] 57 (0, 0)) ∧ wr.ownsRow (w2.heap.size + 1) 54 1 v k (List.replicate k (.int .u64 1)) ∧ Below w2.heap.size w2 wr) (fun i _ => z.toNat - (intOf i).toNat)
  case atStart => exact ⟨0, .slice none 0 0, by omega, rfl, blk_alloc_new _ _, ⟨rfl, .inl ⟨rfl, rfl⟩⟩, (Below.refl _ _).alloc (Nat.le_refl _) _⟩
  case round =>
    obtain ⟨k, v, hk, rfl, hl, ho, hb⟩ := hrel
    by_cases hlt : (k : Int) < z
    · obtain ⟨q1, q2⟩ := three_cells hl
      have q3 := hb.size
      have q4 := lt_of_some hl
      have HL : Hid _ := hl
      clear hl
      go_wp2_with (at_builtin; refine wpList_append_one rfl (.tmp 55) (.tmp 56) rfl (w2.heap.size + 1) v k _ rfl (ho.alloc _) ⟨wr.heap.size, 0, none⟩ 1 1 rfl (by simp [Addr.add]) (by omega) (by rw [nblk_alloc]; omega) ?_; intro g cp w3 ho3 gr hg; obtain ⟨hl3, hb3⟩ := ralloc_next HL.out ho gr hb; obtain ⟨q5, q6⟩ := three_cells hl3; have HL3 := hidden hl3; clear hl3 gr)
      go_roundw
      case rel => exact ⟨k + 1, .slice (some ⟨g, 0, none⟩) (k + 1) cp, by omega, by go_num, three_set HL3.out _, by rw [List.replicate_succ']; exact ownsRow_setCell_below ho3 (Nat.lt_succ_self _) _, hb3.setCell (Nat.le_refl _) _⟩
      case measure => simp [intOf]; omega
    · have ek : k = z.toNat := by omega
      have EK : Hid _ := ek
      clear ek
      have hrf := rf_below h2 hb
      obtain ⟨xs, hx1, hx2⟩ := to_own hrf.hl
      obtain ⟨c0, c1, c2', c3⟩ := hrf.cells
      obtain ⟨⟨q1, q2, q3⟩, q4⟩ := three_cells hl
      have q5 := hb.size
      have q6 := lt_of_some hl
      have q7 := lt_of_some h2.rf.hr
      have q8 : rb < wr.heap.size := by omega
      have c2a : ∀ o, (wr.alloc o).cell? ⟨rb, 2, none⟩ = some (.slice a r.L.length cap) := fun o => (World.cell?_of_block (w := wr) (blk_alloc_lt _ _ _ q8)).trans c2'
      have HL : Hid _ := hl
      have HX : Hid (wr.ownsRow (rb + 1) 57 3 (.slice a r.L.length cap) r.L.length xs) := hx1
      have HX2 : Hid _ := hx2
      have HO : Hid (wr.ownsRow (w2.heap.size + 1) 54 1 v k (List.replicate k (.int .u64 1))) := ho
      have HV : v.oneCell' = true := own_one ho
      have HP : Hid (ptrW ((s.top : Int) + 1) = 2 * (s.top + 1)) := by show _ = _; unfold ptrW; rw [if_neg (by omega)]
      clear hl hx1 hx2 ho
      go_wp2
      go_region_law (refine step_append_block2 rfl (.tmp 63) (.tmp 65) rfl (rb + 1) a r.L.length cap xs (by simp [Act.eval]) (by exact HX.out.alloc _) ⟨wr.heap.size, 0, none⟩ 1 (s.top + 1) t v (by simp [Act.eval]) (by simp [Addr.add]) (by simp [Addr.add]) (by simp [Addr.add]) HV (by omega) (by simp; omega) ?_; intro g' cap' w4 ho4 gr4 hg4; obtain ⟨⟨m1, m2⟩, m3, m4, m5⟩ := ralloc_end (o := .cells #[.int .i64 (s.top + 1), .int .i64 t, v] 57) h2 hb HL.out HO.out EK.out HX.out HX2.out ho4 (grown_of_drew gr4); obtain ⟨⟨n1, n2, n3⟩, n4⟩ := three_cells m1; obtain ⟨⟨n5, n6, n7⟩, n8⟩ := three_cells m2; have hf5 := hidden (m5.mono o2.size); have HAT := hidden (hat_row h2 hb hg4 (by simp <;> omega)); clear m5 hg4; have n9 := cell_beside (rb := rb) (lb := w2.heap.size) (w := w4) (by omega) n5; clear m1 m2 gr4 ho4)
      all_goals
        go_wp2_with (go_at_call 20; refine (rptr_any _ _ (by omega) (by omega)).mono ?_; rintro e w' ⟨rfl, rfl⟩)
        go_ret2
        exact ⟨ret_two HP.out rfl, _, _, _, m3, o2.trans m4, hf5.out, fun q hq => (HAT.out q hq).imp id (fun h => Nat.le_trans o2.size h)⟩
end Go.Proofs.Ytjnlfnecmiklhaa
