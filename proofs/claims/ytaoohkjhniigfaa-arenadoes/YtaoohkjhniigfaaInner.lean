/-
  ArenaInner: whatever fields and heads are handed to it, the call returns true and writes nothing that was there. Condition: each slice is nil, or leads to a row of numbers that fit their kind.
-/
import Derived.Test.YtaoohkjhniigfaaPlainInner
import Derived.Test.YtaoohkjhniigfaaOwn
import Derived.Test.YtaoohkjhniigfaaRefWords
namespace Go.Proofs.Ytaoohkjhniigfaa
open Go.ChangeShapes Go.WideShapes Go.ChangeAt Go.RowKit Go.Deep
set_option linter.unusedVariables false
set_option maxHeartbeats 1000000

theorem inner_src {w w2 w2' : World} {a0 : Option Addr} {m : Nat} {X : Nat → Int} (hc : ∀ i, i < m → ∃ x : Addr, a0 = some x ∧ (x.add i).block < w.heap.size ∧ w.cell? (x.add i) = some (.int .u64 (X i)))
    (hb : Below w.heap.size w w2) (he : ∀ k, k < w2.heap.size → w2'.heap[k]? = w2.heap[k]?) : ∀ j, j < m → ∃ ad, a0 = some ad ∧ w2'.cell? (ad.add j) = some (.int .u64 (X j)) := by
  intro j hj
  obtain ⟨x, e, hx, hcell⟩ := hc j hj
  exact ⟨x, e, (World.cell?_of_block (w := w2) (he _ (Nat.lt_of_lt_of_le hx hb.size))).trans ((hb.cell hx).trans hcell)⟩
theorem inner_grown {w w2 w3 : World} {p : Pl} {s : St} (h : Ar w2 p s) (hb : Below w.heap.size w w2) (gr : (w2.alloc (.cells #[] 24)).grownBy w3 (some w2.heap.size)) : Ar w3 p s ∧ Below w.heap.size w w3 := by
  have ho : Only (fun k => k = w2.heap.size) w2 w3 := ⟨gr.os, gr.tape, gr.output, Nat.le_trans (by rw [nblk_alloc]; omega) gr.size, fun k hk hs => (gr.block k (by rw [nblk_alloc]; omega) (by simpa using hs)).trans (blk_alloc_lt _ _ _ hk)⟩
  have n1 := lt_of_some h.ha
  have n2 := lt_of_some h.hh
  have n3 := h.hc.lt
  have n4 := h.hb.lt
  exact ⟨h.frame ho (by omega) (by omega) (by omega) (by omega), hb.trans (ho.below hb.size (fun k hk => by have := hb.size; omega))⟩
theorem inner_put_own {w wr : World} {p : Pl} {s : St} {g i : Nat} {x : Value} (h : Ar wr p s) (hb : Below w.heap.size w wr) (q0 : w.heap.size ≤ g) (q1 : p.a < g) (q2 : p.h < g) (q3 : p.c < g) (q4 : p.b < g) :
    Ar (wr.setCell ⟨g, i, none⟩ x) p s ∧ Below w.heap.size w (wr.setCell ⟨g, i, none⟩ x) := by
  have ho : Only (fun k => k = g) wr (wr.setCell ⟨g, i, none⟩ x) := (Only.refl (fun k => k = g) wr).setCell (a := ⟨g, i, none⟩) (Or.inr rfl) _
  exact ⟨h.frame ho (by omega) (by omega) (by omega) (by omega), hb.setCell q0 _⟩
theorem inner_rng {Y : Nat → Int} {i : Nat} {v : Int} (h : ∀ i, 0 ≤ Y i ∧ Y i ≤ 18446744073709551615) (h0 : 0 ≤ v) (h1 : v ≤ 18446744073709551615) : ∀ j, 0 ≤ (if j = i then v else Y j) ∧ (if j = i then v else Y j) ≤ 18446744073709551615 := by
  intro j
  split
  · exact ⟨h0, h1⟩
  · exact h j
theorem inner_zero (m : Nat) (X Y : Nat → Int) : St.inner m 0 X = St.inner m 0 Y := by
  have e : (fun j => if j = 0 then headW 200 m else if j ≤ 0 then X (j - 1) else if j ≤ m then 1 else 0) = (fun j => if j = 0 then headW 200 m else if j ≤ 0 then Y (j - 1) else if j ≤ m then 1 else 0) := by
    funext j
    by_cases c : j = 0
    · simp [c]
    · simp [c]
  unfold St.inner
  rw [e]
theorem set_at {p : Pl} {s s' : St} (x i v : Int) (e' : Int) (w : World) (h : Ar w p s) (hf : s.Fits) (h0 : 0 ≤ x) (h1 : x ≤ 18446744073709551615) (v0 : 0 ≤ v) (v1 : v ≤ 18446744073709551615) (he : s.fieldE x i = e') (hs : s.put x i v = s') :
    Calls Try.prog 17 #[.pointer (some ⟨p.a, 0, none⟩), .int .u64 x, .int .i64 i, .int .u64 v] w fun e w' => e = .returned (.int .i64 e') ∧ Ar w' p s' ∧ Only p.own w w' := by
  subst he; subst hs; exact set_any x i v w h hf h0 h1 v0 v1
theorem get_at {p : Pl} {s : St} (x i v e' : Int) (w : World) (h : Ar w p s) (hf : s.Fits) (h0 : 0 ≤ x) (h1 : x ≤ 18446744073709551615) (hv : s.get x i = v) (he : s.fieldE x i = e') :
    Calls Try.prog 19 #[.pointer (some ⟨p.a, 0, none⟩), .int .u64 x, .int .i64 i] w fun e w' => e = .returned (.tuple #[.int .u64 v, .int .i64 e']) ∧ ∃ m, w' = w.drewN m := by
  subst hv; subst he; exact get_any x i w h hf h0 h1
theorem drawn3 {w wr w5 : World} {m1 g k : Nat} {Y : Nat → Int} {p : Pl} {s : St} (h : w5 = wr.drewN m1) (hg : Own wr g k Y) (h5 : Ar wr p s) (hB : Below w.heap.size w wr) : Own w5 g k Y ∧ Ar w5 p s ∧ Below w.heap.size w w5 := by
  rw [h]; exact ⟨hg.drewN m1, h5.drewN m1, below_drewN hB m1⟩
set_option maxRecDepth 100000 in
theorem inner_small (a0 : Option Addr) (m cap0 : Nat) (X : Nat → Int) (a1 : Option Addr) (len1 cap1 : Nat) (z1 : Nat → Int) (w : World) (hm : m ≤ 30) (h0 : a0 = none → m = 0 ∧ cap0 = 0) (hl : len1 ≤ maxLen)
    (hX : ∀ i, 0 ≤ X i ∧ X i ≤ 18446744073709551615)
    (hc0 : ∀ i, i < m → ∃ x : Addr, a0 = some x ∧ (x.add i).block < w.heap.size ∧ w.cell? (x.add i) = some (.int .u64 (X i)))
    (hc1 : ∀ i, i < len1 → ∃ x : Addr, a1 = some x ∧ (x.add i).block < w.heap.size ∧ w.cell? (x.add i) = some (.int .u8 (z1 i)) ∧ 0 ≤ z1 i ∧ z1 i ≤ 255) :
    Calls Try.prog 6 #[.slice a0 m cap0, .slice a1 len1 cap1] w fun e w' => e = .returned (.bool true) ∧ Below w.heap.size w w' := by
  unfold maxLen at hl
  have H0 : Hid _ := h0
  have HX : Hid _ := hX
  have HC0 : Hid _ := hc0
  have HC1 : Hid _ := hc1
  clear h0 hX hc0 hc1
  go_enter Try.func6, Try.ntmps6
  go_wp2_with fail
  refine (awake_any _).mono ?_
  rintro e w0 ⟨rfl, b0⟩
  go_wp2_with fail
  refine (new_at 64 _ (by omega) (by omega)).mono ?_
  rintro e w1 ⟨p, rfl, ha, b1, i1, i2, i3, i4⟩
  have B := b0.size
  have hB := b0.trans (b1.mono B)
  have j1 : w.heap.size ≤ p.a := by omega
  have j2 : w.heap.size ≤ p.h := by omega
  have j3 : w.heap.size ≤ p.c := by omega
  have j4 : w.heap.size ≤ p.b := by omega
  clear b0 b1 i1 i2 i3 i4 B
  go_wp2_with fail
  refine (alloc_at 200 m 2 0 _ ha (inner_W m hm) (inner_E m hm)).mono ?_
  rintro e w2 ⟨rfl, h2, o2⟩
  have hB2 := hB.trans (o2.under hB.size j2 j3 j4)
  have h3 : Ar w2 p (St.inner m 0 X) := by rw [← inner_start m X hm]; exact h2
  clear ha h2 o2 hB
  have hnew : Hid ((w2.alloc (.cells #[] 24)).heap[w2.heap.size]? = some (.cells #[] 24 (0, 0))) := blk_alloc_new _ _
  have hsrc : Hid (∀ j, j < m → ∃ ad, a0 = some ad ∧ (w2.alloc (.cells #[] 24)).cell? (ad.add j) = some (.int .u64 (X j))) := inner_src HC0.out hB2 (blk_alloc_lt _ _)
  go_wp2_with (at_builtin; refine wpList_append_words rfl (.tmp 36) (.tmp 37) rfl w2.heap.size rfl hnew.out a0 m cap0 rfl X H0.out hsrc.out (by omega) ?_; intro g cap w3 hg gr hgg)
  have hw2 : w2.heap.size < (w2.alloc (.cells #[] 24)).heap.size := by rw [nblk_alloc]; omega
  have q1 : p.a < g := Nat.lt_of_lt_of_le (lt_of_some h3.ha) hgg
  have q2 : p.h < g := Nat.lt_of_lt_of_le (lt_of_some h3.hh) hgg
  have q3 : p.c < g := Nat.lt_of_lt_of_le h3.hc.lt hgg
  have q4 : p.b < g := Nat.lt_of_lt_of_le h3.hb.lt hgg
  have q0 : w.heap.size ≤ g := Nat.le_trans hB2.size hgg
  obtain ⟨h4, hB3⟩ := inner_grown h3 hB2 gr
  clear hnew hsrc gr hgg hw2 h3 hB2 H0 HC0
  go_loopw [41] (fun i wr => ∃ (k : Nat) (Y : Nat → Int), k ≤ len1 ∧ i = .int .i64 k ∧ (∀ i, 0 ≤ Y i ∧ Y i ≤ 18446744073709551615) ∧ Own wr g m Y ∧ Ar wr p (St.inner m 0 X) ∧ Below w.heap.size w wr) (fun i _ => len1 - (intOf i).toNat)
  case atStart => exact ⟨0, X, Nat.zero_le _, rfl, HX.out, hg, h4, hB3⟩
  case round =>
    clear hg h4 hB3
    obtain ⟨k, Y, hk, rfl, hY, hg, h4, hB⟩ := hrel
    have HY : Hid _ := hY
    clear hY
    by_cases hlt : k < len1
    · obtain ⟨x, rfl, hx, hcell, v0, v1⟩ := HC1.out k hlt
      have hcx := (hB.cell hx).trans hcell
      generalize z1 k = v at *
      clear hcell
      by_cases hv : v + 1 < m
      · have cc := hg.cell (i := v.toNat) (by omega)
        have cf := hg.frozen v.toNat
        go_wp2_with (go_at_call 23; refine (rhead_any _ _ _ (by omega) (by omega) (by omega) (by omega)).mono ?_; rintro e w' ⟨rfl, rfl⟩)
        go_roundw
        case rel =>
          obtain ⟨e1, e2⟩ := inner_put_own (i := v.toNat) (x := .int .u64 (headW 201 (v + 1))) h4 hB q0 q1 q2 q3 q4
          exact ⟨k + 1, fun j => if j = v.toNat then headW 201 (v + 1) else Y j, by omega, by go_num, inner_rng HY.out (headW_lo _ _) (headW_hi _ _), hg.set _ _, e1, e2⟩
        case measure => simp [intOf]; omega
      · go_wp2_with fail
        go_roundw
        case rel => exact ⟨k + 1, Y, by omega, by go_num, HY.out, hg, h4, hB⟩
        case measure => simp [intOf]; omega
    · go_wp2_with fail
      have h5 : Ar wr p (St.inner m 0 Y) := by rw [inner_zero m Y X]; exact h4
      clear h4 HX HC1
      go_loopw [63] (fun i wr => ∃ (k : Nat), k ≤ m ∧ i = .int .i64 k ∧ Own wr g m Y ∧ Ar wr p (St.inner m k Y) ∧ Below w.heap.size w wr) (fun i _ => m - (intOf i).toNat)
      case atStart => exact ⟨0, Nat.zero_le _, rfl, hg, h5, hB⟩
      case round =>
        clear hg h5 hB hk hlt
        obtain ⟨k, hk, rfl, hg, h5, hB⟩ := hrel
        by_cases hlt : k < m
        · have cc := hg.cell (i := k) (by omega)
          have y0 := (HY.out k).1
          have y1 := (HY.out k).2
          have HE : Hid _ := inner_fieldE m k k Y hm hlt
          have HP : Hid _ := inner_put m k Y hm hlt
          have HF : Hid _ := inner_fits m k Y hm
          go_wp2_with (go_at_call 17; refine (set_at _ _ _ _ _ h5 HF.out (by omega) (by omega) y0 y1 HE.out HP.out).mono ?_; rintro e w4 ⟨rfl, h6, o6⟩)
          go_roundw
          case rel => exact ⟨k + 1, by omega, by go_num, hg.frame o6 (by unfold Pl.own; omega), h6, hB.trans (o6.under hB.size j2 j3 j4)⟩
          case measure => simp [intOf]; omega
        · have e : k = m := by omega
          subst e
          go_wp2_with fail
          go_loopw [12] (fun i wr => ∃ (q : Nat), 1 ≤ q ∧ q ≤ 31 ∧ i = .int .i64 q ∧ Own wr g k Y ∧ Ar wr p (St.inner k k Y) ∧ Below w.heap.size w wr) (fun i _ => 31 - (intOf i).toNat)
          case atStart => exact ⟨1, by omega, by omega, rfl, hg, h5, hB⟩
          case round =>
            clear hg h5 hB hk hlt
            obtain ⟨q, hq1, hq2, rfl, hg, h5, hB⟩ := hrel
            by_cases hlt : q < k
            · have cc := hg.cell (i := q) (by omega)
              have cd := hg.cell (i := q - 1) (by omega)
              have y0 := (HY.out (q - 1)).1
              have y1 := (HY.out (q - 1)).2
              have eq1 := wrapId ((q : Int) - 1) (by omega) (by omega)
              have x1 : (0 : Int) ≤ (q : Int) - 1 := by omega
              have x2 : (q : Int) - 1 < (k : Int) := by omega
              by_cases hit : Y (q - 1) = headW 201 q
              · have HL : Hid _ := inner_hit k q Y hm hq1 hlt hit
                have HS : Hid _ := inner_size k q Y hm hq1 hlt hit
                have HE : Hid _ := inner_getE k q Y hm hq1 hlt hit
                have HG : Hid _ := inner_get k q Y hm hq1 hlt hit
                have G : (Y (q - 1) != headW 201 q) = false := by rw [hit]; simp
                clear hit
                have L1 : Hid (2 * ((St.inner k k Y).find (2 + 2 * (q : Int))).1 = 2) := by show _ = _; rw [HL.out]; rfl
                have L2 : Hid (((St.inner k k Y).find (2 + 2 * (q : Int))).2 = q) := by show _ = _; rw [HL.out]
                go_wp2_with (go_at_call 24; refine (leads_at _ 2 q _ h5 (by omega) (by omega) L1.out L2.out).mono ?_; rintro e w5 ⟨rfl, m1, hw5⟩; obtain ⟨hg5, h55, hB5⟩ := drawn3 hw5 hg h5 hB; clear hw5 cc cd)
                have cc := hg5.cell (i := q) (by omega)
                have cd := hg5.cell (i := q - 1) (by omega)
                go_quiet ((go_at_call 23; exact Calls.quiet_of_same (rhead_any 201 q _ (by omega) (by omega) (by omega) (by omega))))
                go_wp2_with (first | (go_at_call 19; refine (get_at _ _ (Y q) 0 _ (h55.drewN _) (inner_fits k k Y hm) (by omega) (by omega) HG.out HE.out).mono ?_; rintro e w6 ⟨rfl, m2, rfl⟩) | (go_at_call 16; refine (size_is _ k _ (h55.drewN _) (by omega) (by omega) HS.out).mono ?_; rintro e w7 ⟨rfl, m3, rfl⟩))
                go_roundw
                case rel => exact ⟨q + 1, by omega, by omega, by go_num, hg5.drewN _, h55.drewN _, below_drewN hB5 _⟩
                case measure => simp [intOf]; omega
              · have HL : Hid _ := inner_miss k q Y hm hq1 hlt y0 y1 hit
                have G : (Y (q - 1) != headW 201 q) = true := by rw [bne_iff_ne]; exact hit
                clear hit
                have L1 : Hid (2 * ((St.inner k k Y).find (2 + 2 * (q : Int))).1 = 0) := by show _ = _; rw [HL.out]; rfl
                have L2 : Hid (((St.inner k k Y).find (2 + 2 * (q : Int))).2 = 0) := by show _ = _; rw [HL.out]
                go_wp2_with (go_at_call 24; refine (leads_at _ 0 0 _ h5 (by omega) (by omega) L1.out L2.out).mono ?_; rintro e w5 ⟨rfl, m1, hw5⟩; obtain ⟨hg5, h55, hB5⟩ := drawn3 hw5 hg h5 hB; clear hw5 cc cd)
                have cc := hg5.cell (i := q) (by omega)
                have cd := hg5.cell (i := q - 1) (by omega)
                go_quiet ((go_at_call 23; exact Calls.quiet_of_same (rhead_any 201 q _ (by omega) (by omega) (by omega) (by omega))))
                go_wp2_with fail
                go_roundw
                case rel => exact ⟨q + 1, by omega, by omega, by go_num, hg5.drewN _, h55.drewN _, below_drewN hB5 _⟩
                case measure => simp [intOf]; omega
            · go_wp2_with fail
              go_ret
              exact ⟨rfl, hB⟩
end Go.Proofs.Ytaoohkjhniigfaa
