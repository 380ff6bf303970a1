/-
  What Set of the document's own arena tells and makes, where it and the program's arena are in one state. Condition: it lies in memory (Rf), and both are in one state (Rep).
-/
import Derived.Test.YtjnlfnecmiklhaaRefSet
namespace Go.Proofs.Ytjnlfnecmiklhaa
open Go.ChangeShapes Go.WideShapes Go.ChangeAt Go.RowKit Go.Deep
set_option linter.unusedVariables false
set_option maxHeartbeats 1000000
variable {w : World} {p : Pl} {s : St} {rb : Nat} {r : RS} {a : Option Addr} {cap : Nat} {V : Nat → Value}

theorem grown_below {w1 w2 : World} {o : Obj} (gr : (w1.alloc o).grownBy w2 (some w1.heap.size)) : Below w1.heap.size w1 w2 :=
  ⟨gr.os, gr.tape, gr.output, Nat.le_trans (by rw [nblk_alloc]; omega) gr.size, fun k hk => (gr.block k (by rw [nblk_alloc]; omega) (by simp; omega)).trans (blk_alloc_lt _ _ _ hk)⟩
theorem rset_cells {w1 w2 : World} {rb ga o : Nat} {x y : Value} (hb : Below w1.heap.size w1 w2) (h1 : rb < w1.heap.size) (h2 : ga < w1.heap.size) (c : w1.cell? ⟨rb, 2, none⟩ = some x) (d : w1.cell? ⟨ga, o, none⟩ = some y) : w2.cell? ⟨rb, 2, none⟩ = some x ∧ w2.cell? ⟨ga, o, none⟩ = some y :=
  ⟨(hb.cell (p := ⟨rb, 2, none⟩) h1).trans c, (hb.cell (p := ⟨ga, o, none⟩) h2).trans d⟩
theorem rset_cells2 {w1 w2 : World} {rb ga o g2 j : Nat} {x y : Value} (hb : Below w1.heap.size w1 w2) (hg : w1.heap.size ≤ g2) (h1 : rb < w1.heap.size) (h2 : ga < w1.heap.size) (c : w1.cell? ⟨rb, 2, none⟩ = some x) (d : w1.cell? ⟨ga, o, none⟩ = some y) (f : w1.frozen? ⟨ga, o, none⟩ = false) :
    (∀ u, (w2.setCell ⟨g2, j, none⟩ u).cell? ⟨rb, 2, none⟩ = some x) ∧ (∀ u, (w2.setCell ⟨g2, j, none⟩ u).cell? ⟨ga, o, none⟩ = some y) ∧ (∀ u, (w2.setCell ⟨g2, j, none⟩ u).frozen? ⟨ga, o, none⟩ = false) := by
  refine ⟨fun u => ?_, fun u => ?_, fun u => ?_⟩
  · exact ((hb.setCell (p := ⟨g2, j, none⟩) hg u).cell (p := ⟨rb, 2, none⟩) h1).trans c
  · exact ((hb.setCell (p := ⟨g2, j, none⟩) hg u).cell (p := ⟨ga, o, none⟩) h2).trans d
  · exact ((hb.setCell (p := ⟨g2, j, none⟩) hg u).frozen (p := ⟨ga, o, none⟩) h2).trans f
theorem own_store {w : World} {g m j : Nat} {X : Nat → Int} (h : Own w g m X) (hj : j < m) : w.cell? ⟨g, j, none⟩ = some (.int .u64 (X j)) ∧ ∀ o, w.frozen? ⟨g, o, none⟩ = false := ⟨h.cell hj, h.frozen⟩
theorem rset_fresh (x i v : Int) (w : World) (h : Both w p s rb r a cap V) (h0 : 0 ≤ x) (h1 : x ≤ 18446744073709551615) :
    Calls Try.prog 38 #[.pointer (some ⟨rb, 0, none⟩), .int .u64 x, .int .i64 i, .int .u64 v] w fun e w' => e = .returned (.int .i64 (s.fieldE x i)) ∧ ∃ r' V', Rf w' rb r' a cap V' ∧ Rep (s.put x i v) r' ∧ Only (Rown rb a) w w' ∧ Fresh w.heap.size r.L.length V r'.L.length V' := by
  by_cases g : (s.find x).1 = 0
  · have HE : Hid (s.fieldE x i = 6) := by show _ = _; unfold St.fieldE; rw [if_pos g]
    have HP : Hid (s.put x i v = s) := by show _ = _; unfold St.put; rw [if_neg (by rw [HE.out]; omega)]
    have HG : Hid _ := g
    clear g
    go_enter Try.func38, Try.ntmps38
    go_wp2_with (go_at_call 62; refine (rfind_no x _ h h0 h1 HG.out).mono ?_; rintro e w' ⟨rfl, m, rfl⟩)
    all_goals go_ret
    all_goals exact ⟨ret_int HE.out.symm, r, V, h.rf.drewN _, by rw [HP.out]; exact h.rep, (Only.refl _ _).drewN _, Fresh.refl _ _ _⟩
  · obtain ⟨k, b, hk, hf⟩ := h.block g
    obtain ⟨l1, l2⟩ := h.blk hk
    obtain ⟨z1, z2, z3, z4, z5⟩ := h.sizes
    have hl := (List.getElem?_eq_some_iff.1 hk).1
    have hsz := (h.rep.tagAt hk).2
    obtain ⟨ga, rfl, hdel⟩ := h.rf.row (by omega)
    clear hdel
    by_cases i1 : i < 0
    · have HE : Hid (s.fieldE x i = 2) := by show _ = _; unfold St.fieldE; rw [if_neg g, if_pos (Or.inl i1)]
      have HP : Hid (s.put x i v = s) := by show _ = _; unfold St.put; rw [if_neg (by rw [HE.out]; omega)]
      have HF : Hid _ := hf
      have HK : Hid _ := hk
      clear g hf hk hsz
      go_enter Try.func38, Try.ntmps38
      go_wp2_with (go_at_call 62; refine (rfind_yes x k b _ h h0 h1 HK.out HF.out).mono ?_; rintro e w' ⟨rfl, m, rfl⟩)
      all_goals go_ret
      all_goals exact ⟨ret_int HE.out.symm, r, V, h.rf.drewN _, by rw [HP.out]; exact h.rep, (Only.refl _ _).drewN _, Fresh.refl _ _ _⟩
    · by_cases i2 : (b.F.length : Int) ≤ i
      · have HE : Hid (s.fieldE x i = 2) := by show _ = _; unfold St.fieldE; rw [if_neg g, hf, hsz, if_pos (Or.inr i2)]
        have HP : Hid (s.put x i v = s) := by show _ = _; unfold St.put; rw [if_neg (by rw [HE.out]; omega)]
        obtain ⟨ga', ea, hg1, hg2, hg3, hg4⟩ := h.rf.row (by omega)
        have : ga = ga' := by simpa using ea
        subst this
        obtain ⟨d0, d1, d2, d3⟩ := hg4 k b hk
        obtain ⟨c0, c1, c2, c3⟩ := h.rf.cells
        obtain ⟨va, vc, hv⟩ := field_len d3
        rw [hv] at d2
        have HF : Hid _ := hf
        have HK : Hid _ := hk
        clear g hg4 d3 hf hk hsz hv ea
        go_enter Try.func38, Try.ntmps38
        go_wp2_with (go_at_call 62; refine (rfind_yes x k b _ h h0 h1 HK.out HF.out).mono ?_; rintro e w' ⟨rfl, m, rfl⟩)
        all_goals go_ret
        all_goals exact ⟨ret_int HE.out.symm, r, V, h.rf.drewN _, by rw [HP.out]; exact h.rep, (Only.refl _ _).drewN _, Fresh.refl _ _ _⟩
      · obtain ⟨j, rfl⟩ : ∃ j : Nat, i = (j : Int) := ⟨i.toNat, by omega⟩
        have hj : j < b.F.length := by omega
        obtain ⟨HE0, HR⟩ := rep_put (v := v) h.rep hk hf hj
        have HE : Hid _ := HE0
        have HF : Hid _ := hf
        have HK : Hid _ := hk
        clear g hf hsz HE0
        go_enter Try.func38, Try.ntmps38
        go_wp2_with fail
        refine (rfind_yes x k b _ h h0 h1 HK.out HF.out).mono ?_
        rintro e w1 ⟨rfl, m, hw1⟩
        obtain ⟨hb1, o1⟩ := both_drew (S := Rown rb (some ⟨ga, 0, none⟩)) hw1 h
        clear hw1
        obtain ⟨ga', ea, hg1, hg2, hg3, hg4⟩ := hb1.rf.row (by omega)
        have : ga = ga' := by simpa using ea
        subst this
        obtain ⟨d0, d1, d2, d3⟩ := hg4 k b HK.out
        obtain ⟨c0, c1, c2, c3⟩ := hb1.rf.cells
        obtain ⟨gf, capf, hv, hgf, hcf⟩ := field_cell d3 j hj
        have HD3 : Hid _ := d3
        have HV : Hid _ := hv
        rw [hv] at d2
        have hrb := lt_of_some hb1.rf.hr
        have c2a : ∀ o, (w1.alloc o).cell? ⟨rb, 2, none⟩ = some (.slice (some ⟨ga, 0, none⟩) r.L.length cap) := fun o => (World.cell?_of_block (w := w1) (blk_alloc_lt _ _ _ hrb)).trans c2
        have d2a : ∀ o, (w1.alloc o).cell? ⟨ga, k * 3 + 2, none⟩ = some (.slice (some ⟨gf, 0, none⟩) b.F.length capf) := fun o => (World.cell?_of_block (w := w1) (blk_alloc_lt _ _ _ hg2)).trans d2
        have HNEW : Hid ((w1.alloc (.cells #[] 54)).heap[w1.heap.size]? = some (.cells #[] 54 (0, 0))) := blk_alloc_new _ _
        have HS : Hid (∀ q, q < b.F.length → ∃ ad, some (Addr.mk gf 0 none) = some ad ∧ (w1.alloc (.cells #[] 54)).cell? (ad.add q) = some (.int .u64 (b.F.getD q 0))) := by
          intro q hq
          obtain ⟨gf', capf', hv', _, hcq⟩ := field_cell HD3.out q hq
          rw [HV.out] at hv'
          have eg : gf = gf' := by simp at hv'; exact hv'.1
          subst eg
          refine ⟨_, rfl, ?_⟩
          have hlt : gf < w1.heap.size := by
            by_cases hh : gf < w1.heap.size
            · exact hh
            · exfalso; unfold World.cell? at hcq; rw [Array.getElem?_eq_none (by show _ ≤ gf; omega)] at hcq; cases hcq
          have := (World.cell?_of_block (w := w1) (a := ⟨gf, q, none⟩) (blk_alloc_lt _ (.cells #[] 54) _ hlt)).trans hcq
          have ea2 : (Addr.mk gf 0 none).add q = ⟨gf, q, none⟩ := by
            cases q with
            | zero => rfl
            | succ q => simp [Addr.add]
          rw [ea2]
          exact this
        clear hg4 d3 hk hv ea
        go_wp2_with (at_builtin; refine wpList_append_words rfl (.tmp 35) (.tmp 43) rfl w1.heap.size rfl HNEW.out (some ⟨gf, 0, none⟩) b.F.length capf rfl (fun q => b.F.getD q 0) (fun h => by cases h) HS.out (by omega) ?_; intro g2 cap2 w2 hown gr hgg; have hb2 := grown_below gr; obtain ⟨y1, y2, y5⟩ := rset_cells2 (j := j) hb2 hgg hrb hg2 c2 d2 (hg3 _); obtain ⟨y3, y4⟩ := own_store hown hj; clear gr)
        go_ret
        obtain ⟨m1, m2, m3⟩ := rset_end (cap2 := cap2) hb1 (hb2.setCell (p := ⟨g2, j, none⟩) hgg (.int .u64 v)) HK.out hj (hown.set j v) hgg
        exact ⟨ret_int HE.out.symm, _, _, m1, HR, o1.trans m2, m3.mono o1.size⟩
theorem rset_any (x i v : Int) (w : World) (h : Both w p s rb r a cap V) (h0 : 0 ≤ x) (h1 : x ≤ 18446744073709551615) :
    Calls Try.prog 38 #[.pointer (some ⟨rb, 0, none⟩), .int .u64 x, .int .i64 i, .int .u64 v] w fun e w' => e = .returned (.int .i64 (s.fieldE x i)) ∧ ∃ r' V', Rf w' rb r' a cap V' ∧ Rep (s.put x i v) r' ∧ Only (Rown rb a) w w' :=
  (rset_fresh x i v w h h0 h1).mono (fun e w' ⟨h1, r', V', h2, h3, h4, _⟩ => ⟨h1, r', V', h2, h3, h4⟩)
end Go.Proofs.Ytjnlfnecmiklhaa
