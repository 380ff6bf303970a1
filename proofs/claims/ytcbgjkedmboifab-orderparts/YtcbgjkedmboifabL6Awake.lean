/-
  Layer 6: the calls whose answers the document fixes are answered so.
-/
import Derived.Test.YtcbgjkedmboifabL6Any
import Derived.Test.YtcbgjkedmboifabQ6Hash
namespace Go.Proofs.Ytcbgjkedmboifab
open Go.ChangeShapes Go.WideShapes Go.ChangeAt Go.RowKit Go.Deep
set_option linter.unusedVariables false
set_option maxHeartbeats 1000000

variable {w w' : World} {lb : Nat} {p : Pl} {rb : Nat} {s : St} {r : RS} {had : List Int} {left : Int} {O : Nat → Prop}
/-- What is known of two numbers. -/
def PairI (a b : Int) (s : St) (r : RS) (had : List Int) (left : Int) : LayI := fun i F s' r' had' l => i ≤ 2 ∧ F = [intW a, intW b].take i ∧ s' = s ∧ r' = r ∧ had' = had ∧ l = left - 1 - i
theorem tagOf_zero : tagOf 0 = 0 := by unfold tagOf; rw [IntKind.wrap_u64]; rfl
/-- What lay of a block of two numbers tells and makes. -/
def PairAs (w : World) (lb : Nat) (p : Pl) (rb : Nat) (s : St) (r : RS) (had : List Int) (left : Int) (O : Nat → Prop) (a b : Int) (e : Ending) (w' : World) : Prop :=
  ∃ w1 O1, LaidIn w1 lb p rb s r had (left - 3) O1 ∧ Grows O O1 w w1 ∧ BlockAs w1 lb p rb s r had (left - 3) O1 0 [intW a, intW b] e w'
theorem lay_pair {e0 e1 e2 : ByteArray} {g : Nat} (a b : Int) (w : World) (h : LaidIn w lb p rb s r had left O) (hl : 3 ≤ left) (hl2 : left ≤ 1000) (hh : had.length ≤ 1000) (ra : RI a) (rb' : RI b) (hg : w.heap[g]? = some (.cells #[.int .i64 0, .int .i64 a, .string e1, .slice none 0 0, .int .i64 0, .int .i64 b, .string e2, .slice none 0 0] 24 (0, 0))) (hO : ¬ O g) :
    Calls Try.prog 8 #[.pointer (some ⟨lb, 0, none⟩), .agg #[.int .i64 2, .int .i64 0, .string e0, .slice (some ⟨g, 0, none⟩) 2 2]] w fun e w' => PairAs w lb p rb s r had left O a b e w' := by
  refine (lay_two (I := PairI a b s r had left) 2 w h (by omega) (by omega) rfl (by omega) (by omega) (by unfold maxLen; omega) (by decide) ?_ ?_ ?_).mono ?_
  · exact ⟨by omega, rfl, rfl, rfl, rfl, by omega⟩
  · rintro i F s1 r1 had1 left1 ⟨q1, rfl, rfl, rfl, rfl, q6⟩
    refine ⟨fun x hx => ?_, by rw [List.length_take]; simp; omega, by omega⟩
    have := List.mem_of_mem_take hx
    simp at this
    rcases this with rfl | rfl
    · exact ⟨intW_lo a, intW_hi a⟩
    · exact ⟨intW_lo b, intW_hi b⟩
  · rintro i hi F s1 r1 had1 left1 O1 w1 ⟨q1, rfl, rfl, rfl, rfl, q6⟩ hL hG
    have hg1 : w1.heap[g]? = some (.cells #[.int .i64 0, .int .i64 a, .string e1, .slice none 0 0, .int .i64 0, .int .i64 b, .string e2, .slice none 0 0] 24 (0, 0)) := (hG.only.block g (lt_of_some hg) hO).trans hg
    have hc : ∀ j, w1.cell? ⟨g, j, none⟩ = #[Value.int .i64 0, .int .i64 a, .string e1, .slice none 0 0, .int .i64 0, .int .i64 b, .string e2, .slice none 0 0][j]? := fun j => by simp only [World.cell?, hg1]; rfl
    match i, hi with
    | 0, _ =>
      refine ⟨⟨g, 0, none⟩, .int .i64 0, .int .i64 a, .string e1, .slice none 0 0, rfl, hc 0, hc 1, hc 2, hc 3, ?_⟩
      refine (lay_num w1 hL (by omega) (by omega) rfl ra.1 ra.2).mono ?_
      rintro e w2 ⟨rfl, h2, h3⟩
      exact ⟨_, s1, r1, had1, left1 - 1, O1, rfl, h2, h3, by omega, rfl, rfl, rfl, rfl, by omega⟩
    | 1, _ =>
      refine ⟨⟨g, 0, none⟩, .int .i64 0, .int .i64 b, .string e2, .slice none 0 0, rfl, hc 4, hc 5, hc 6, hc 7, ?_⟩
      refine (lay_num w1 hL (by omega) (by omega) rfl rb'.1 rb'.2).mono ?_
      rintro e w2 ⟨rfl, h2, h3⟩
      exact ⟨_, s1, r1, had1, left1 - 1, O1, rfl, h2, h3, by omega, rfl, rfl, rfl, rfl, by omega⟩
  · rintro e w' ⟨F, s1, r1, had1, left1, O1, w1, ⟨q1, rfl, rfl, rfl, rfl, q6⟩, hL, hG, hB⟩
    have e3 : left1 = left - 3 := by omega
    subst e3
    rw [tagOf_zero] at hB
    exact ⟨w1, O1, hL, hG, hB⟩
/-- The same where there is room, the Value made just now. -/
theorem lay_new {e0 e1 e2 : ByteArray} {x : Int} (a b : Int) (w : World) (h : LaidIn w lb p rb s r had left O) (hl : 3 ≤ left) (hl2 : left ≤ 1000) (hh : had.length ≤ 1000) (ra : RI a) (rb' : RI b) (hE : s.allocE 0 2 = 0) (hx : 2 * ((s.top : Int) + 1) = x) :
    Calls Try.prog 8 #[.pointer (some ⟨lb, 0, none⟩), .agg #[.int .i64 2, .int .i64 0, .string e0, .slice (some ⟨w.heap.size, 0, none⟩) 2 2]] (w.alloc (.cells #[.int .i64 0, .int .i64 a, .string e1, .slice none 0 0, .int .i64 0, .int .i64 b, .string e2, .slice none 0 0] 24)) fun e w' => e = .returned (.int .u64 x) ∧ ∃ s' O', LaidIn w' lb p rb s' (r.more s 0 [intW a, intW b]) (had ++ [x]) (left - 3) O' ∧ Grows O O' w w' := by
  have hb : Below w.heap.size w (w.alloc (.cells #[.int .i64 0, .int .i64 a, .string e1, .slice none 0 0, .int .i64 0, .int .i64 b, .string e2, .slice none 0 0] 24)) := (Below.refl _ _).alloc (Nat.le_refl _) _
  refine (lay_pair (e0 := e0) (e1 := e1) (e2 := e2) a b _ (h.under hb) hl hl2 hh ra rb' (blk_alloc_new _ _) (fun c => Nat.lt_irrefl _ (laid_lt h _ c))).mono ?_
  rintro e w' ⟨w1, O1, h1, h2, h3⟩
  rcases h3 with ⟨q1, _⟩ | ⟨q1, q2, s', O', q3, q4⟩
  · exact absurd hE q1
  · rw [hx] at q2 q3
    exact ⟨q2, s', O', q3, (Grows.of_below O hb).trans (h2.trans q4)⟩
theorem laid_rep (h : LaidIn w lb p rb s r had left O) : Ar w p s ∧ Rep s r := by
  obtain ⟨_, _, _, _, _, h2, _⟩ := h
  exact ⟨h2.ar, h2.bo.rep⟩
/-- The two blocks that awake lays. -/
def rA : RS := (⟨4000, 0, [⟨1, 0, [intW 1, intW 2]⟩]⟩ : RS)
def rB : RS := (⟨4000, 0, [⟨1, 0, [intW 1, intW 2]⟩, ⟨4, 0, [intW 1, intW 3]⟩]⟩ : RS)
theorem more_A : (⟨4000, 0, []⟩ : RS).more (St.new 4000) 0 [intW 1, intW 2] = rA := rfl
theorem top_A (h : Rep s rA) : s.top = 3 ∧ s.base = 0 ∧ s.n = 4000 := by
  have h1 := h.top
  have h2 := h.base
  have h3 := h.n
  have e1 : lenB rA.L = 3 := rfl
  have e2 : rA.n * rA.which = 0 := rfl
  have e3 : rA.n = 4000 := rfl
  omega
theorem more_B (h : Rep s rA) : rA.more s 0 [intW 1, intW 3] = rB := by
  unfold RS.more
  rw [(top_A h).1]
  rfl
theorem num_nd (s : St) (r : RS) (n : Int) : ndW s r (intW n) = .num (numW (intW n)) := by
  unfold ndW
  rw [if_pos (by unfold isIntW intW; simp)]
theorem nd_at (h : Rep s rB) {k : Nat} {b : Blk} (hk : rB.L[k]? = some b) (hb : b.tag = 0) (hx : (b.ad : Int) ≤ 65536) : ndW s rB (2 * (b.ad : Int)) = .blk 0 b.F := by
  have hin := h.inside hk
  have ha : (b.ad : Int) = addrW (2 * (b.ad : Int)) := by unfold addrW; rw [if_neg (by omega)]; omega
  have hf := h.find_blk' hk ha
  have hl := leadI_some h hk (x := 2 * (b.ad : Int)) (by rw [hf])
  have hbk : blkAt rB k = b := by unfold blkAt; rw [List.getD_eq_getElem?_getD, hk]; rfl
  unfold ndW
  rw [if_neg (by unfold isIntW; simp), hl]
  simp only [hbk]
  unfold ndB
  rw [hf, hb, if_neg (by decide), if_neg (Int.lt_irrefl 0), if_neg (by decide)]
theorem awake_nd (h : Rep s rB) : ndW s rB 2 = .blk 0 [intW 1, intW 2] ∧ ndW s rB 8 = .blk 0 [intW 1, intW 3] := ⟨nd_at h (k := 0) rfl rfl (by decide), nd_at h (k := 1) rfl rfl (by decide)⟩
theorem awake_pair (h : Rep s rB) : pairOut (ndW s rB) 2 8 = (0, 0, [(intW 1, intW 1), (intW 2, intW 3)]) := by
  obtain ⟨h1, h2⟩ := awake_nd h
  exact (po_blk (by decide) h1 h2).2.2 (by rfl)
theorem awake_cmp1 (h : Rep s rB) : cmpC (ndW s rB) 2 8 100 100 = (-1, 3, 0) := by
  unfold cmpC
  rw [if_neg (by decide)]
  show goC (ndW s rB) 100 (99 + 1) [(2, 8)] = _
  rw [goC_next (awake_pair h) (fun _ => by decide)]
  have p1 : pairOut (ndW s rB) (intW 1) (intW 1) = (0, 0, []) := po_same (by rw [num_nd]; rfl)
  have p2 := po_num (num_nd s rB 2) (num_nd s rB 3)
  have e2 : sgn (numW (intW 2)) (numW (intW 3)) = -1 := by decide
  rw [e2] at p2
  show ((goC (ndW s rB) 100 (98 + 1) ((intW 1, intW 1) :: [(intW 2, intW 3)])).1, (goC (ndW s rB) 100 (98 + 1) ((intW 1, intW 1) :: [(intW 2, intW 3)])).2.1 + 1, (goC (ndW s rB) 100 (98 + 1) ((intW 1, intW 1) :: [(intW 2, intW 3)])).2.2) = _
  rw [goC_next p1 (fun c => absurd rfl c)]
  show ((goC (ndW s rB) 100 (97 + 1) [(intW 2, intW 3)]).1, (goC (ndW s rB) 100 (97 + 1) [(intW 2, intW 3)]).2.1 + 1 + 1, (goC (ndW s rB) 100 (97 + 1) [(intW 2, intW 3)]).2.2) = _
  rw [goC_dec p2.1 p2.2.1 (by decide)]
  rfl
theorem awake_cmp2 (h : Rep s rB) : cmpC (ndW s rB) 2 8 2 100 = (0, 1, 11) := by
  unfold cmpC
  rw [if_neg (by decide)]
  show goC (ndW s rB) 2 (99 + 1) [(2, 8)] = _
  rw [goC_full (awake_pair h) (by simp) (by decide)]
theorem awake_cmp3 : cmpC (ndW s r) (intW 3) (intW (-1)) 2 1 = (1, 1, 0) := by
  unfold cmpC
  rw [if_neg (by decide)]
  have p2 := po_num (num_nd s r 3) (num_nd s r (-1))
  have e2 : sgn (numW (intW 3)) (numW (intW (-1))) = 1 := by decide
  rw [e2] at p2
  show goC (ndW s r) 2 (0 + 1) [(intW 3, intW (-1))] = _
  rw [goC_dec p2.1 p2.2.1 (by decide)]
theorem awake_hash : hashC (ndW s r) (intW 5) 0 = (intW 222, 0) := by
  have hg : goH (ndW s r) mixW 0 24 [intW 5] (intW 7) = (mixW (intW 7) (numW (intW 5)), 0) := by
    rw [show (24 : Nat) = 23 + 1 from rfl, goH_num (num_nd s r 5)]; rfl
  unfold hashC
  rw [hg, if_pos rfl]
  have : doV 6 (mixW (intW 7) (numW (intW 5))) (intW 1073741823) = intW 222 := by decide
  rw [this]
theorem compare_is {a b c : Int} (x y room steps : Int) (w : World) (h : Ar w p s) (hr : Rep s r) (x0 : 0 ≤ x) (x1 : x ≤ 18446744073709551615) (y0 : 0 ≤ y) (y1 : y ≤ 18446744073709551615) (hs : steps ≤ 90000) (e : cmpC (ndW s r) x y room steps = (a, b, c)) :
    Calls Try.prog 9 #[.pointer (some ⟨p.a, 0, none⟩), .int .u64 x, .int .u64 y, .int .i64 room, .int .i64 steps] w fun e w' => e = .returned (.tuple #[.int .i64 a, .int .i64 b, .int .i64 c]) ∧ Below w.heap.size w w' := by
  have := compare_any x y room steps w h hr x0 x1 y0 y1 hs
  rw [e] at this
  exact this
theorem hash_is {a b : Int} (x room : Int) (w : World) (h : Ar w p s) (hr : Rep s r) (x0 : 0 ≤ x) (x1 : x ≤ 18446744073709551615) (e : hashC (ndW s r) x room = (a, b)) :
    Calls Try.prog 11 #[.pointer (some ⟨p.a, 0, none⟩), .int .u64 x, .int .i64 room] w fun e w' => e = .returned (.tuple #[.int .u64 a, .int .i64 b]) ∧ Below w.heap.size w w' := by
  have := hash_any x room w h hr x0 x1
  rw [e] at this
  exact this
theorem rint_is {v : Int} (n : Int) (w : World) (h : -9223372036854775808 ≤ n) (h' : n ≤ 9223372036854775807) (e : intW n = v) : Calls Try.prog 13 #[.int .i64 n] w fun e w' => e = .returned (.int .u64 v) ∧ w' = w := by
  subst e; exact rint_any n w h h'
set_option maxRecDepth 100000 in
set_option maxHeartbeats 8000000 in
theorem awake_any (w : World) : Calls Try.prog 6 #[] w fun e w' => e = .returned (.bool true) ∧ Below w.heap.size w w' := by
  go_enter Try.func6, Try.ntmps6
  go_upto_region 4 with (go_at_call 7; refine (begin_any _).mono ?_; rintro e w1 ⟨lb, p, rb, O, rfl, h1, ho1, hb1⟩; have H1 := hidden h1; have HO1 := hidden ho1; have B1 := hidden hb1; obtain ⟨c0, c1, c3, cf⟩ := h1.cells; clear h1 ho1 hb1)
  have HE1 : Hid ((St.new 4000).allocE 0 2 = 0) := by show _ = _; unfold St.allocE St.new; decide
  go_upto_region 5 with (go_at_call 8; refine (lay_new (x := 2) 1 2 w1 H1.out (by omega) (by omega) (by simp) ⟨by decide, by decide⟩ ⟨by decide, by decide⟩ HE1.out rfl).mono ?_; rintro e w2 ⟨rfl, s2, O2, h2, g2⟩; have H2 := hidden h2; have G2 := hidden g2; clear h2 g2)
  have R2 := (laid_rep H2.out).2
  rw [more_A] at H2 R2
  have HE2 : Hid (s2.allocE 0 2 = 0) := by
    obtain ⟨t1, t2, t3⟩ := top_A R2
    show _ = _
    unfold St.allocE
    rw [t1, t2, t3]
    decide
  have HT2 : Hid (2 * ((s2.top : Int) + 1) = 8) := by show _ = _; rw [(top_A R2).1]; rfl
  have HM2 := hidden (more_B R2)
  clear R2 c0 c1 c3 cf H1 HE1
  go_upto_region 6 with (go_at_call 8; refine (lay_new (x := 8) 1 3 w2 H2.out (by omega) (by omega) (by simp) ⟨by decide, by decide⟩ ⟨by decide, by decide⟩ HE2.out HT2.out).mono ?_; rintro e w3 ⟨rfl, s3, O3, h3, g3⟩; have H3 := hidden h3; have G3 := hidden g3; clear h3 g3)
  rw [HM2.out] at H3
  have B3 : Hid (Below w.heap.size w w3) := B1.out.trans ((G2.out.trans G3.out).below B1.out.size HO1.out)
  clear HM2 HT2 HE2 H2 G2 G3 HO1 B1
  have A3 := hidden (laid_rep H3.out).1
  have R3 := hidden (laid_rep H3.out).2
  have HBB : Hid (∀ w4, Below w3.heap.size w3 w4 → w4.cell? ⟨lb, 0, none⟩ = some (.pointer (some ⟨p.a, 0, none⟩))) := fun w4 b => (H3.out.under b).cells.1
  obtain ⟨i3, hi3⟩ : ∃ i, intW 3 = i := ⟨_, rfl⟩
  obtain ⟨im, him⟩ : ∃ i, intW (-1) = i := ⟨_, rfl⟩
  obtain ⟨i5, hi5⟩ : ∃ i, intW 5 = i := ⟨_, rfl⟩
  obtain ⟨iH, hiH⟩ : ∃ i, intW 222 = i := ⟨_, rfl⟩
  obtain ⟨a0, a1⟩ := intW_rng 3
  obtain ⟨b0, b1⟩ := intW_rng (-1)
  obtain ⟨d0, d1⟩ := intW_rng 5
  have C3 := hidden (awake_cmp3 (s := s3) (r := rB))
  have CH := hidden (awake_hash (s := s3) (r := rB))
  rw [hi3] at a0 a1 C3
  rw [him] at b0 b1 C3
  rw [hi5] at d0 d1 CH
  rw [hiH] at CH
  have HI3 := hidden hi3
  have HIM := hidden him
  have HI5 := hidden hi5
  have HIH := hidden hiH
  clear hi3 him hi5 hiH
  have c0 := HBB.out _ (Below.refl _ _)
  go_upto_region 8 with (first
    | (go_at_call 9; refine (compare_is 2 8 2 100 _ (A3.out.under B4.out) R3.out (by omega) (by omega) (by omega) (by omega) (by omega) (awake_cmp2 R3.out)).mono ?_; rintro e w5 ⟨rfl, hb5⟩; have B5 : Hid (Below w3.heap.size w3 w5) := B4.out.trans (hb5.mono B4.out.size); have f0 := HBB.out _ B5.out; clear hb5)
    | (go_at_call 9; refine (compare_is 2 8 100 100 _ A3.out R3.out (by omega) (by omega) (by omega) (by omega) (by omega) (awake_cmp1 R3.out)).mono ?_; rintro e w4 ⟨rfl, hb4⟩; have B4 := hidden hb4; have e0 := HBB.out _ B4.out; clear hb4))
  clear c0 e0
  have B5d : Hid (Below w3.heap.size w3 w5.drew) := B5.out.trans ((below_drews _ 1).mono B5.out.size)
  go_region_held3 (fun w' => w'.cell? ⟨lb, 0, none⟩ = some (.pointer (some ⟨p.a, 0, none⟩))) (go_keep) (first
    | (go_at_call 13; refine (rint_is _ _ (by omega) (by omega) (by first | with_reducible exact HI3.out | with_reducible exact HIM.out)).mono ?_; rintro e w' ⟨rfl, hw'⟩; rw [hw']; clear hw' w')
    | (go_at_call 9; refine (compare_is i3 im 2 1 _ (A3.out.under B5d.out) R3.out a0 a1 b0 b1 (by omega) C3.out).mono ?_; rintro e w6 ⟨rfl, hb6⟩; have B6 : Hid (Below w3.heap.size w3 w6) := B5d.out.trans (hb6.mono B5d.out.size); have g0 := HBB.out _ B6.out; clear hb6))
  clear f0
  go_wp2_with fail
  have B6d : Hid (Below w3.heap.size w3 w6.drew) := B6.out.trans ((below_drews _ 1).mono B6.out.size)
  go_region_held3 (fun w' => w'.cell? ⟨lb, 0, none⟩ = some (.pointer (some ⟨p.a, 0, none⟩))) (go_keep) (first
    | (go_at_call 13; refine (rint_is _ _ (by omega) (by omega) HI5.out).mono ?_; rintro e w' ⟨rfl, hw'⟩; rw [hw']; clear hw' w')
    | (go_at_call 11; refine (hash_is i5 0 _ (A3.out.under B6d.out) R3.out d0 d1 CH.out).mono ?_; rintro e w7 ⟨rfl, hb7⟩; have B7 : Hid (Below w3.heap.size w3 w7) := B6d.out.trans (hb7.mono B6d.out.size); have h0 := HBB.out _ B7.out; clear hb7))
  clear g0
  go_wp2_with (go_at_call 13; refine (rint_is _ _ (by omega) (by omega) HIH.out).mono ?_; rintro e w' ⟨rfl, hw'⟩; rw [hw']; clear hw' w')
  all_goals go_ret
  all_goals exact ⟨by simp, B3.out.trans (B7.out.mono B3.out.size)⟩
end Go.Proofs.Ytcbgjkedmboifab
