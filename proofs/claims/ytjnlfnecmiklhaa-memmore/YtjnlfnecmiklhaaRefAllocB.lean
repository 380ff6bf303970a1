/-
  What Alloc of the document's own arena tells and makes, for every tag and size, where it and the program's arena are in one state. Condition: it lies in memory (Rf), and both are in one state (Rep).
-/
import Derived.Test.YtjnlfnecmiklhaaRefAlloc
namespace Go.Proofs.Ytjnlfnecmiklhaa
open Go.ChangeShapes Go.WideShapes Go.ChangeAt Go.RowKit Go.Deep
set_option linter.unusedVariables false
set_option maxHeartbeats 2000000
variable {w : World} {p : Pl} {s : St} {rb : Nat} {r : RS} {a : Option Addr} {cap : Nat} {V : Nat → Value}

theorem ralloc_200 (t z : Int) (w : World) (h : Both w p s rb r a cap V) (g : s.allocE t z = 0) (c : 199 < t) (T1 : (t != 200) = false) :
    Calls Try.prog 59 #[.pointer (some ⟨rb, 0, none⟩), .int .i64 t, .int .i64 z] w fun e w' => e = .returned (.tuple #[.int .u64 (2 * (s.top + 1)), .int .i64 0]) ∧ ∃ a' cap' V', Rf w' rb (r.alloc s t z) a' cap' V' ∧ Only (Rown rb a) w w' ∧ Fresh w.heap.size r.L.length V (r.alloc s t z).L.length V' ∧ ∀ q, a' = some ⟨q, 0, none⟩ → a = some ⟨q, 0, none⟩ ∨ w.heap.size ≤ q := by
  obtain ⟨z1, z2, z3, z4, z5⟩ := h.sizes
  obtain ⟨_, g2, g3, g4, _, _⟩ := allocE_zero g
  have hn := h.rep.n
  have htop := h.rep.top
  have hbase := h.rep.base
  have hwh := h.rep.wh
  have HT : Hid (s.base + lenB r.L = s.top) := htop.symm
  have HBB : Hid (s.base = r.n * r.which) := hbase
  have HN : Hid _ := hn
  have e1 := wrapId ((s.top : Int) + 1) (by omega) (by omega)
  have e2 := wrapId ((s.top : Int) + 1 + z) (by omega) (by omega)
  have e3 := wrapId ((s.base : Int) + r.n) (by omega) (by omega)
  have g5 : (s.top : Int) + 1 + z ≤ s.base + r.n := by omega
  obtain ⟨c0, c1, c2', c3⟩ := h.rf.cells
  clear hn htop hbase g4 g
  go_enter Try.func59, Try.ntmps59
  go_wp2_with (go_at_call 18; refine (rtop_any s.base _ h.rf HBB.out z3 hwh z4 (by omega) (by omega)).mono ?_; rw [HT.out]; rintro e w1 ⟨rfl, m, hw1⟩; obtain ⟨h1, o1⟩ := both_drew (S := Rown rb a) hw1 h; clear hw1)
  clear c0 c1 c2' c3
  obtain ⟨c0, c1, c2', c3⟩ := h1.rf.cells
  go_quiet ((go_at_call 42; exact Calls.quiet_of (rbase_any s.base _ (h1.rf.drewN _) HBB.out z3 hwh)))
  have h2 := h1.drewN nq
  have o2 := o1.drewN nq
  generalize w1.drewN nq = w2 at h2 o2 ⊢
  clear h1 o1 c0 c1 c2' c3 h
  go_wp2
  go_loopw [10] (fun i wr => ∃ (k : Nat) (v : Value), (k : Int) ≤ z ∧ i = .int .i64 k ∧ wr.heap[w2.heap.size]? = some (.cells #[.int .i64 (s.top + 1), .int .i64 t, v] 57 (0, 0)) ∧ wr.ownsRow (w2.heap.size + 1) 54 1 v k (List.replicate k (.int .u64 1)) ∧ Below w2.heap.size w2 wr) (fun i _ => z.toNat - (intOf i).toNat)
  case atStart => exact ⟨0, .slice none 0 0, by omega, rfl, blk_alloc_new _ _, ⟨rfl, .inl ⟨rfl, rfl⟩⟩, (Below.refl _ _).alloc (Nat.le_refl _) _⟩
  case round =>
    obtain ⟨k, v, hk, rfl, hl, ho, hb⟩ := hrel
    by_cases hlt : (k : Int) < z
    · obtain ⟨q1, q2⟩ := three_cells hl
      have q3 := hb.size
      have q4 := lt_of_some hl
      have HL : Hid _ := hl
      clear hl
      go_wp2_with (at_builtin; refine wpList_append_one rfl (.tmp 55) (.tmp 56) rfl (w2.heap.size + 1) v k _ rfl (ho.alloc _) ⟨wr.heap.size, 0, none⟩ 1 1 rfl (by simp [Addr.add]) (by omega) (by rw [nblk_alloc]; omega) ?_; intro g cp w3 ho3 gr hg; obtain ⟨hl3, hb3⟩ := ralloc_next HL.out ho gr hb; obtain ⟨q5, q6⟩ := three_cells hl3; have HL3 := hidden hl3; clear hl3 gr)
      go_roundw
      case rel => exact ⟨k + 1, .slice (some ⟨g, 0, none⟩) (k + 1) cp, by omega, by go_num, three_set HL3.out _, by rw [List.replicate_succ']; exact ownsRow_setCell_below ho3 (Nat.lt_succ_self _) _, hb3.setCell (Nat.le_refl _) _⟩
      case measure => simp [intOf]; omega
    · have ek : k = z.toNat := by omega
      have EK : Hid _ := ek
      clear ek
      have hrf := rf_below h2 hb
      obtain ⟨xs, hx1, hx2⟩ := to_own hrf.hl
      obtain ⟨c0, c1, c2', c3⟩ := hrf.cells
      obtain ⟨⟨q1, q2, q3⟩, q4⟩ := three_cells hl
      have q5 := hb.size
      have q6 := lt_of_some hl
      have q7 := lt_of_some h2.rf.hr
      have q8 : rb < wr.heap.size := by omega
      have c2a : ∀ o, (wr.alloc o).cell? ⟨rb, 2, none⟩ = some (.slice a r.L.length cap) := fun o => (World.cell?_of_block (w := wr) (blk_alloc_lt _ _ _ q8)).trans c2'
      have HL : Hid _ := hl
      have HX : Hid (wr.ownsRow (rb + 1) 57 3 (.slice a r.L.length cap) r.L.length xs) := hx1
      have HX2 : Hid _ := hx2
      have HO : Hid (wr.ownsRow (w2.heap.size + 1) 54 1 v k (List.replicate k (.int .u64 1))) := ho
      have HV : v.oneCell' = true := own_one ho
      have HP : Hid (ptrW ((s.top : Int) + 1) = 2 * (s.top + 1)) := by show _ = _; unfold ptrW; rw [if_neg (by omega)]
      clear hl hx1 hx2 ho
      go_wp2
      go_region_law (refine step_append_block2 rfl (.tmp 63) (.tmp 65) rfl (rb + 1) a r.L.length cap xs (by simp [Act.eval]) (by exact HX.out.alloc _) ⟨wr.heap.size, 0, none⟩ 1 (s.top + 1) t v (by simp [Act.eval]) (by simp [Addr.add]) (by simp [Addr.add]) (by simp [Addr.add]) HV (by omega) (by simp; omega) ?_; intro g' cap' w4 ho4 gr4 hg4; obtain ⟨⟨m1, m2⟩, m3, m4, m5⟩ := ralloc_end (o := .cells #[.int .i64 (s.top + 1), .int .i64 t, v] 57) h2 hb HL.out HO.out EK.out HX.out HX2.out ho4 (grown_of_drew gr4); obtain ⟨⟨n1, n2, n3⟩, n4⟩ := three_cells m1; obtain ⟨⟨n5, n6, n7⟩, n8⟩ := three_cells m2; have hf5 := hidden (m5.mono o2.size); have HAT := hidden (hat_row h2 hb hg4 (by simp <;> omega)); clear m5 hg4; have n9 := cell_beside (rb := rb) (lb := w2.heap.size) (w := w4) (by omega) n5; clear m1 m2 gr4 ho4)
      all_goals
        go_wp2_with (go_at_call 20; refine (rptr_any _ _ (by omega) (by omega)).mono ?_; rintro e w' ⟨rfl, rfl⟩)
        go_ret2
        exact ⟨ret_two HP.out rfl, _, _, _, m3, o2.trans m4, hf5.out, fun q hq => (HAT.out q hq).imp id (fun h => Nat.le_trans o2.size h)⟩
theorem ralloc_202 (t z : Int) (w : World) (h : Both w p s rb r a cap V) (g : s.allocE t z = 0) (c : 199 < t) (T1 : (t != 200) = true) (T2 : (t != 202) = false) :
    Calls Try.prog 59 #[.pointer (some ⟨rb, 0, none⟩), .int .i64 t, .int .i64 z] w fun e w' => e = .returned (.tuple #[.int .u64 (2 * (s.top + 1)), .int .i64 0]) ∧ ∃ a' cap' V', Rf w' rb (r.alloc s t z) a' cap' V' ∧ Only (Rown rb a) w w' ∧ Fresh w.heap.size r.L.length V (r.alloc s t z).L.length V' ∧ ∀ q, a' = some ⟨q, 0, none⟩ → a = some ⟨q, 0, none⟩ ∨ w.heap.size ≤ q := by
  obtain ⟨z1, z2, z3, z4, z5⟩ := h.sizes
  obtain ⟨_, g2, g3, g4, _, _⟩ := allocE_zero g
  have hn := h.rep.n
  have htop := h.rep.top
  have hbase := h.rep.base
  have hwh := h.rep.wh
  have HT : Hid (s.base + lenB r.L = s.top) := htop.symm
  have HBB : Hid (s.base = r.n * r.which) := hbase
  have HN : Hid _ := hn
  have e1 := wrapId ((s.top : Int) + 1) (by omega) (by omega)
  have e2 := wrapId ((s.top : Int) + 1 + z) (by omega) (by omega)
  have e3 := wrapId ((s.base : Int) + r.n) (by omega) (by omega)
  have g5 : (s.top : Int) + 1 + z ≤ s.base + r.n := by omega
  obtain ⟨c0, c1, c2', c3⟩ := h.rf.cells
  clear hn htop hbase g4 g
  go_enter Try.func59, Try.ntmps59
  go_wp2_with (go_at_call 18; refine (rtop_any s.base _ h.rf HBB.out z3 hwh z4 (by omega) (by omega)).mono ?_; rw [HT.out]; rintro e w1 ⟨rfl, m, hw1⟩; obtain ⟨h1, o1⟩ := both_drew (S := Rown rb a) hw1 h; clear hw1)
  clear c0 c1 c2' c3
  obtain ⟨c0, c1, c2', c3⟩ := h1.rf.cells
  go_quiet ((go_at_call 42; exact Calls.quiet_of (rbase_any s.base _ (h1.rf.drewN _) HBB.out z3 hwh)))
  have h2 := h1.drewN nq
  have o2 := o1.drewN nq
  generalize w1.drewN nq = w2 at h2 o2 ⊢
  clear h1 o1 c0 c1 c2' c3 h
  go_wp2
  go_loopw [10] (fun i wr => ∃ (k : Nat) (v : Value), (k : Int) ≤ z ∧ i = .int .i64 k ∧ wr.heap[w2.heap.size]? = some (.cells #[.int .i64 (s.top + 1), .int .i64 t, v] 57 (0, 0)) ∧ wr.ownsRow (w2.heap.size + 1) 54 1 v k (List.replicate k (.int .u64 1)) ∧ Below w2.heap.size w2 wr) (fun i _ => z.toNat - (intOf i).toNat)
  case atStart => exact ⟨0, .slice none 0 0, by omega, rfl, blk_alloc_new _ _, ⟨rfl, .inl ⟨rfl, rfl⟩⟩, (Below.refl _ _).alloc (Nat.le_refl _) _⟩
  case round =>
    obtain ⟨k, v, hk, rfl, hl, ho, hb⟩ := hrel
    by_cases hlt : (k : Int) < z
    · obtain ⟨q1, q2⟩ := three_cells hl
      have q3 := hb.size
      have q4 := lt_of_some hl
      have HL : Hid _ := hl
      clear hl
      go_wp2_with (at_builtin; refine wpList_append_one rfl (.tmp 55) (.tmp 56) rfl (w2.heap.size + 1) v k _ rfl (ho.alloc _) ⟨wr.heap.size, 0, none⟩ 1 1 rfl (by simp [Addr.add]) (by omega) (by rw [nblk_alloc]; omega) ?_; intro g cp w3 ho3 gr hg; obtain ⟨hl3, hb3⟩ := ralloc_next HL.out ho gr hb; obtain ⟨q5, q6⟩ := three_cells hl3; have HL3 := hidden hl3; clear hl3 gr)
      go_roundw
      case rel => exact ⟨k + 1, .slice (some ⟨g, 0, none⟩) (k + 1) cp, by omega, by go_num, three_set HL3.out _, by rw [List.replicate_succ']; exact ownsRow_setCell_below ho3 (Nat.lt_succ_self _) _, hb3.setCell (Nat.le_refl _) _⟩
      case measure => simp [intOf]; omega
    · have ek : k = z.toNat := by omega
      have EK : Hid _ := ek
      clear ek
      have hrf := rf_below h2 hb
      obtain ⟨xs, hx1, hx2⟩ := to_own hrf.hl
      obtain ⟨c0, c1, c2', c3⟩ := hrf.cells
      obtain ⟨⟨q1, q2, q3⟩, q4⟩ := three_cells hl
      have q5 := hb.size
      have q6 := lt_of_some hl
      have q7 := lt_of_some h2.rf.hr
      have q8 : rb < wr.heap.size := by omega
      have c2a : ∀ o, (wr.alloc o).cell? ⟨rb, 2, none⟩ = some (.slice a r.L.length cap) := fun o => (World.cell?_of_block (w := wr) (blk_alloc_lt _ _ _ q8)).trans c2'
      have HL : Hid _ := hl
      have HX : Hid (wr.ownsRow (rb + 1) 57 3 (.slice a r.L.length cap) r.L.length xs) := hx1
      have HX2 : Hid _ := hx2
      have HO : Hid (wr.ownsRow (w2.heap.size + 1) 54 1 v k (List.replicate k (.int .u64 1))) := ho
      have HV : v.oneCell' = true := own_one ho
      have HP : Hid (ptrW ((s.top : Int) + 1) = 2 * (s.top + 1)) := by show _ = _; unfold ptrW; rw [if_neg (by omega)]
      clear hl hx1 hx2 ho
      go_wp2
      go_region_law (refine step_append_block2 rfl (.tmp 63) (.tmp 65) rfl (rb + 1) a r.L.length cap xs (by simp [Act.eval]) (by exact HX.out.alloc _) ⟨wr.heap.size, 0, none⟩ 1 (s.top + 1) t v (by simp [Act.eval]) (by simp [Addr.add]) (by simp [Addr.add]) (by simp [Addr.add]) HV (by omega) (by simp; omega) ?_; intro g' cap' w4 ho4 gr4 hg4; obtain ⟨⟨m1, m2⟩, m3, m4, m5⟩ := ralloc_end (o := .cells #[.int .i64 (s.top + 1), .int .i64 t, v] 57) h2 hb HL.out HO.out EK.out HX.out HX2.out ho4 (grown_of_drew gr4); obtain ⟨⟨n1, n2, n3⟩, n4⟩ := three_cells m1; obtain ⟨⟨n5, n6, n7⟩, n8⟩ := three_cells m2; have hf5 := hidden (m5.mono o2.size); have HAT := hidden (hat_row h2 hb hg4 (by simp <;> omega)); clear m5 hg4; have n9 := cell_beside (rb := rb) (lb := w2.heap.size) (w := w4) (by omega) n5; clear m1 m2 gr4 ho4)
      all_goals
        go_wp2_with (go_at_call 20; refine (rptr_any _ _ (by omega) (by omega)).mono ?_; rintro e w' ⟨rfl, rfl⟩)
        go_ret2
        exact ⟨ret_two HP.out rfl, _, _, _, m3, o2.trans m4, hf5.out, fun q hq => (HAT.out q hq).imp id (fun h => Nat.le_trans o2.size h)⟩
end Go.Proofs.Ytjnlfnecmiklhaa
