/-
  Layer 6, the program's order: one pair is held against each other. Condition: the work and the arena lie in memory.
-/
import Derived.Test.YtcbgjkedmboifabQ6HoldA
import Derived.Deep.RegionHeld3
namespace Go.Proofs.Ytcbgjkedmboifab
open Go.ChangeShapes Go.WideShapes Go.ChangeAt Go.RowKit Go.Deep
set_option linter.unusedVariables false
set_option maxHeartbeats 1000000

variable {w w' : World} {kb : Nat} {O : Nat → Prop} {ws : List (Int × Int)} {room x y : Int} {p : Pl} {s : St} {r : RS}
def ret2V (a b : Int) : Ending := .returned (.tuple #[.int .i64 a, .int .i64 b])
/-- What holding a pair tells and makes. -/
def HoldAs (w : World) (O : Nat → Prop) (kb : Nat) (room : Int) (ws : List (Int × Int)) (P : Int × Int × List (Int × Int)) (e : Ending) (w' : World) : Prop :=
  (P.1 ≠ 0 ∧ e = ret2V 0 P.1 ∧ Only O w w') ∨ (P.1 = 0 ∧ P.2.1 ≠ 0 ∧ e = ret2V P.2.1 0 ∧ Only O w w') ∨
  (∃ ps, P = (0, 0, ps) ∧ ((ps ≠ [] ∧ room < 2 * (ps.length + ws.length : Nat) ∧ e = ret2V 0 11 ∧ Only O w w') ∨ ((ps ≠ [] → 2 * ((ps.length + ws.length : Nat) : Int) ≤ room) ∧ e = ret2V 0 0 ∧ ∃ O', PW w' O' kb (ps ++ ws) room ∧ Grows O O' w w')))
/-- The pair's own copy lies there still. -/
structure Box (w wi : World) (x y : Int) : Prop where
  below : Below w.heap.size w wi
  box : wi.heap[w.heap.size]? = some (.cells #[.int .u64 x, .int .u64 y] 56 (0, 0))
theorem Box.next {wi wj : World} (h : Box w wi x y) (k : Below wi.heap.size wi wj) : Box w wj x y := ⟨h.below.trans (k.mono h.below.size), (k.block _ (lt_of_some h.box)).trans h.box⟩
theorem Box.first (w : World) (x y : Int) : Box w (w.alloc (.cells #[.int .u64 x, .int .u64 y] 56)) x y := ⟨(Below.refl _ _).alloc (Nat.le_refl _) _, blk_alloc_new _ _⟩
theorem Box.c0 {wi : World} (h : Box w wi x y) : wi.cell? ⟨w.heap.size, 0, none⟩ = some (.int .u64 x) := by simp [World.cell?, h.box]
theorem Box.c1 {wi : World} (h : Box w wi x y) : wi.cell? ⟨w.heap.size, 1, none⟩ = some (.int .u64 y) := by simp [World.cell?, h.box]
theorem fault_pair (x y : Int) (w wi : World) (hA : Ar w p s) (hr : Rep s r) (h : Box w wi x y) (x0 : 0 ≤ x) (x1 : x ≤ 18446744073709551615) (y0 : 0 ≤ y) (y1 : y ≤ 18446744073709551615) :
    Calls Try.prog 26 #[.pointer (some ⟨p.a, 0, none⟩), .slice (some ⟨wi.heap.size, 0, none⟩) 2 2] (wi.alloc (.cells #[.int .u64 x, .int .u64 y] 30)) fun e w' => e = .returned (.int .i64 (pairOut (ndW s r) x y).1) ∧ Box w w' x y := by
  rw [← fault_two]
  have b1 := h.next ((Below.refl _ _).alloc (Nat.le_refl _) (.cells #[.int .u64 x, .int .u64 y] 30))
  have hn := blk_alloc_new wi (.cells #[.int .u64 x, .int .u64 y] 30)
  refine (fault_any [x, y] wi.heap.size 2 _ (hA.under b1.below) hr (by rw [nblk_alloc]; omega) (fun i hi => ?_) (fun z hz => ?_) (by simp)).mono ?_
  · match i, hi with
    | 0, _ => simp only [World.cell?, hn]; rfl
    | 1, _ => simp only [World.cell?, hn]; rfl
  · simp at hz
    rcases hz with rfl | rfl
    · exact ⟨x0, x1⟩
    · exact ⟨y0, y1⟩
  · rintro e w' ⟨rfl, hb⟩
    exact ⟨rfl, b1.next hb⟩
theorem fault_pair_is {E : Int} (x y : Int) (w wi : World) (hA : Ar w p s) (hr : Rep s r) (h : Box w wi x y) (x0 : 0 ≤ x) (x1 : x ≤ 18446744073709551615) (y0 : 0 ≤ y) (y1 : y ≤ 18446744073709551615) (e : (pairOut (ndW s r) x y).1 = E) :
    Calls Try.prog 26 #[.pointer (some ⟨p.a, 0, none⟩), .slice (some ⟨wi.heap.size, 0, none⟩) 2 2] (wi.alloc (.cells #[.int .u64 x, .int .u64 y] 30)) fun e w' => e = .returned (.int .i64 E) ∧ Box w w' x y := by
  subst e; exact fault_pair x y w wi hA hr h x0 x1 y0 y1
set_option maxRecDepth 20000 in
set_option maxHeartbeats 4000000 in
theorem hold_err (x y : Int) (w : World) (hA : ∀ w', Only O w w' → Ar w' p s) (hr : Rep s r) (x0 : 0 ≤ x) (x1 : x ≤ 18446744073709551615) (y0 : 0 ≤ y) (y1 : y ≤ 18446744073709551615) (he : (pairOut (ndW s r) x y).1 ≠ 0) :
    Calls Try.prog 19 #[.pointer (some ⟨kb, 0, none⟩), .pointer (some ⟨p.a, 0, none⟩), .agg #[.int .u64 x, .int .u64 y]] w fun e w' => HoldAs w O kb room ws (pairOut (ndW s r) x y) e w' := by
  have HA0 := hidden (hA w (Only.refl _ _))
  have B0 := hidden (Box.first w x y)
  obtain ⟨E, hE⟩ : ∃ E, (pairOut (ndW s r) x y).1 = E := ⟨_, rfl⟩
  have HE := hidden hE
  rw [hE] at he
  have hb : (E != 0) = true := by simp [he]
  have HNE := hidden he
  clear hE hA he
  go_enter Try.func19, Try.ntmps19
  go_upto_region 1 with fail
  generalize w.alloc (.cells #[.int .u64 x, .int .u64 y] 56) = w0 at *
  have c0 := B0.out.c0
  have c1 := B0.out.c1
  go_wp2_with (go_at_call 26; refine (fault_pair_is x y w w0 HA0.out hr B0.out x0 x1 y0 y1 HE.out).mono ?_; rintro e w1 ⟨rfl, hb1⟩; have B1 := hidden hb1; clear hb1)
  all_goals go_ret2
  all_goals exact Or.inl ⟨by rw [HE.out]; exact HNE.out, by rw [HE.out]; rfl, Only.of_below B1.out.below⟩
set_option maxRecDepth 20000 in
set_option maxHeartbeats 4000000 in
theorem hold_int (x y : Int) (w : World) (hA : ∀ w', Only O w w' → Ar w' p s) (hr : Rep s r) (hp : PW w O kb ws room) (x0 : 0 ≤ x) (x1 : x ≤ 18446744073709551615) (y0 : 0 ≤ y) (y1 : y ≤ 18446744073709551615) (he : (pairOut (ndW s r) x y).1 = 0) (hi : isIntW x = true ∨ isIntW y = true) :
    Calls Try.prog 19 #[.pointer (some ⟨kb, 0, none⟩), .pointer (some ⟨p.a, 0, none⟩), .agg #[.int .u64 x, .int .u64 y]] w fun e w' => HoldAs w O kb room ws (pairOut (ndW s r) x y) e w' := by
  have HA0 := hidden (hA w (Only.refl _ _))
  have B0 := hidden (Box.first w x y)
  have HP := hidden hp
  have HE := hidden he
  obtain ⟨wx, wy⟩ := pair_ok he
  have HN := hidden (hold_num hr wx wy hi)
  obtain ⟨R, hR⟩ : ∃ R, numR x y = R := ⟨_, rfl⟩
  have HBN : Hid (∀ w, Calls Try.prog 39 #[.agg #[.int .u64 x, .int .u64 y]] w fun e w' => e = .returned (.int .i64 R) ∧ Below w.heap.size w w') := fun w => by rw [← hR]; exact byNumber_any x y w x0 x1 y0 y1
  rw [hR] at HN
  have HFIN : Hid (∀ wf, Below w.heap.size w wf → HoldAs w O kb room ws (pairOut (ndW s r) x y) (ret2V R 0) wf) := fun wf hb => by
    obtain ⟨h1, h2, h3⟩ := HN.out
    by_cases h0 : R = 0
    · refine Or.inr (Or.inr ⟨[], h3 h0, Or.inr ⟨fun c => absurd rfl c, by rw [h0], O, HP.out.under hb, Grows.of_below O hb⟩⟩)
    · exact Or.inr (Or.inl ⟨h1, by rw [h2]; exact h0, by rw [h2], Only.of_below hb⟩)
  obtain ⟨bx, hbx⟩ : ∃ b, isIntW x = b := ⟨_, rfl⟩
  obtain ⟨bv, hby⟩ : ∃ b, isIntW y = b := ⟨_, rfl⟩
  rw [hbx, hby] at hi
  have HX := hidden hbx
  have HY := hidden hby
  clear hbx hby hA hp he wx wy hR HN
  go_enter Try.func19, Try.ntmps19
  go_upto_region 1 with fail
  generalize w.alloc (.cells #[.int .u64 x, .int .u64 y] 56) = w0 at *
  have c0 := B0.out.c0
  have c1 := B0.out.c1
  cases bx with
  | true =>
    clear hi
    go_wp2_with (first
      | (go_at_call 26; refine (fault_pair_is x y w w0 HA0.out hr B0.out x0 x1 y0 y1 HE.out).mono ?_; rintro e w1 ⟨rfl, hb1⟩; have B1 := hidden hb1; have d0 := hb1.c0; have d1 := hb1.c1; clear hb1)
      | (go_at_call 38; refine (isIntP_is x _ x0 x1 HX.out).mono ?_; rintro e w' ⟨rfl, hw'⟩; rw [hw']; clear hw' w')
      | (go_at_call 39; refine (HBN.out _).mono ?_; rintro e w2 ⟨rfl, hb2⟩; have B2 := hidden (B1.out.next hb2).below; clear hb2))
    all_goals go_ret2
    all_goals exact HFIN.out _ B2.out
  | false =>
    have e : bv = true := by rcases hi with c | c; cases c; exact c
    subst e
    clear hi
    go_wp2_with (first
      | (go_at_call 26; refine (fault_pair_is x y w w0 HA0.out hr B0.out x0 x1 y0 y1 HE.out).mono ?_; rintro e w1 ⟨rfl, hb1⟩; have B1 := hidden hb1; have d0 := hb1.c0; have d1 := hb1.c1; clear hb1)
      | (go_at_call 38; refine (isIntP_is _ _ (by first | with_reducible exact x0 | with_reducible exact y0) (by first | with_reducible exact x1 | with_reducible exact y1) (by first | with_reducible exact HX.out | with_reducible exact HY.out)).mono ?_; rintro e w' ⟨rfl, hw'⟩; rw [hw']; clear hw' w')
      | (go_at_call 39; refine (HBN.out _).mono ?_; rintro e w2 ⟨rfl, hb2⟩; have B2 := hidden (B1.out.next hb2).below; clear hb2))
    all_goals go_ret2
    all_goals exact HFIN.out _ B2.out
set_option maxRecDepth 20000 in
set_option maxHeartbeats 4000000 in
theorem hold_same (x : Int) (w : World) (hA : ∀ w', Only O w w' → Ar w' p s) (hr : Rep s r) (hp : PW w O kb ws room) (x0 : 0 ≤ x) (x1 : x ≤ 18446744073709551615) (he : (pairOut (ndW s r) x x).1 = 0) (hi : isIntW x = false) :
    Calls Try.prog 19 #[.pointer (some ⟨kb, 0, none⟩), .pointer (some ⟨p.a, 0, none⟩), .agg #[.int .u64 x, .int .u64 x]] w fun e w' => HoldAs w O kb room ws (pairOut (ndW s r) x x) e w' := by
  have HA0 := hidden (hA w (Only.refl _ _))
  have B0 := hidden (Box.first w x x)
  have HP := hidden hp
  have HE := hidden he
  obtain ⟨wx, wy⟩ := pair_ok he
  have HN := hidden (po_same wx)
  have HX := hidden hi
  clear hA hp he wx wy hi
  go_enter Try.func19, Try.ntmps19
  go_upto_region 1 with fail
  generalize w.alloc (.cells #[.int .u64 x, .int .u64 x] 56) = w0 at *
  have c0 := B0.out.c0
  have c1 := B0.out.c1
  go_wp2_with (first
    | (go_at_call 26; refine (fault_pair_is x x w w0 HA0.out hr B0.out x0 x1 x0 x1 HE.out).mono ?_; rintro e w1 ⟨rfl, hb1⟩; have B1 := hidden hb1; have d0 := hb1.c0; have d1 := hb1.c1; clear hb1)
    | (go_at_call 38; refine (isIntP_is x _ x0 x1 HX.out).mono ?_; rintro e w' ⟨rfl, hw'⟩; rw [hw']; clear hw' w'))
  all_goals go_ret2
  all_goals exact Or.inr (Or.inr ⟨[], HN.out, Or.inr ⟨fun c => absurd rfl c, rfl, O, HP.out.under B1.out.below, Grows.of_below O B1.out.below⟩⟩)
theorem first_three {T : Int} (w : World) (a b c : Int) (e : firstL [a, b, c] = T) :
    Calls Try.prog 40 #[.slice (some ⟨w.heap.size, 0, none⟩) 3 3] (w.alloc (.cells #[.int .i64 a, .int .i64 b, .int .i64 c] 3)) fun e w' => e = .returned (.int .i64 T) ∧ Below w.heap.size w w' := by
  subst e
  have hn := blk_alloc_new w (.cells #[.int .i64 a, .int .i64 b, .int .i64 c] 3)
  refine (first_any [a, b, c] w.heap.size 3 _ (fun i hi => ?_) (by simp)).mono ?_
  · match i, hi with
    | 0, _ => simp only [World.cell?, hn]; rfl
    | 1, _ => simp only [World.cell?, hn]; rfl
    | 2, _ => simp only [World.cell?, hn]; rfl
  · rintro e w' ⟨rfl, rfl⟩
    exact ⟨rfl, (Below.refl _ _).alloc (Nat.le_refl _) _⟩
set_option maxRecDepth 20000 in
set_option maxHeartbeats 8000000 in
theorem hold_far (x y : Int) (w : World) (hA : ∀ w', Only O w w' → Ar w' p s) (hr : Rep s r) (hp : PW w O kb ws room) (hl : ws.length ≤ 390000000) (x0 : 0 ≤ x) (x1 : x ≤ 18446744073709551615) (y0 : 0 ≤ y) (y1 : y ≤ 18446744073709551615) (he : (pairOut (ndW s r) x y).1 = 0) (ix : isIntW x = false) (iy : isIntW y = false) (hne : x ≠ y) :
    Calls Try.prog 19 #[.pointer (some ⟨kb, 0, none⟩), .pointer (some ⟨p.a, 0, none⟩), .agg #[.int .u64 x, .int .u64 y]] w fun e w' => HoldAs w O kb room ws (pairOut (ndW s r) x y) e w' := by
  have HAA := hidden hA
  have HA0 := hidden (hA w (Only.refl _ _))
  have B0 := hidden (Box.first w x y)
  have HP := hidden hp
  have HE := hidden he
  obtain ⟨wx, wy⟩ := pair_ok he
  have HN := hidden (hold_blk hr wx wy ix iy hne)
  have HX := hidden ix
  have HY := hidden iy
  have hnb : (x == y) = false := beq_eq_false_iff_ne.2 hne
  obtain ⟨tx, htx⟩ : ∃ t, s.tag x = t := ⟨_, rfl⟩
  obtain ⟨ty, hty⟩ : ∃ t, s.tag y = t := ⟨_, rfl⟩
  obtain ⟨zx, hzx⟩ : ∃ t, s.size x = t := ⟨_, rfl⟩
  obtain ⟨zy, hzy⟩ : ∃ t, s.size y = t := ⟨_, rfl⟩
  obtain ⟨R, hR⟩ : ∃ t, txtR s r x y = t := ⟨_, rfl⟩
  obtain ⟨sT, hsT⟩ : ∃ t, sgn tx ty = t := ⟨_, rfl⟩
  obtain ⟨sZ, hsZ⟩ : ∃ t, sgn zx zy = t := ⟨_, rfl⟩
  have HTX := hidden htx
  have HTY := hidden hty
  have HZX := hidden hzx
  have HZY := hidden hzy
  have HST := hidden hsT
  have HSZ := hidden hsZ
  have HBT : Hid (∀ w, Ar w p s → Calls Try.prog 43 #[.pointer (some ⟨p.a, 0, none⟩), .agg #[.int .u64 x, .int .u64 y]] w fun e w' => e = .returned (.int .i64 R) ∧ Below w.heap.size w w') := fun w h => by rw [← hR]; exact byText_any x y w h hr x0 x1 y0 y1
  have ET : toldB s r x y = firstL [sT, R, sZ] := by unfold toldB; rw [htx, hty, hzx, hzy, hsT, hsZ, hR]
  obtain ⟨T, hT⟩ : ∃ t, firstL [sT, R, sZ] = t := ⟨_, rfl⟩
  rw [ET, hT] at HN
  have HT := hidden hT
  clear hA hp he wx wy ix iy hne htx hty hzx hzy hsT hsZ hR hT ET
  go_enter Try.func19, Try.ntmps19
  go_upto_region 1 with fail
  generalize w.alloc (.cells #[.int .u64 x, .int .u64 y] 56) = w0 at *
  have c0 := B0.out.c0
  have c1 := B0.out.c1
  go_upto_region 8 with (first
    | (go_at_call 26; refine (fault_pair_is x y w w0 HA0.out hr B0.out x0 x1 y0 y1 HE.out).mono ?_; rintro e w1 ⟨rfl, hb1⟩; have B1 := hidden hb1; have d0 := hb1.c0; have d1 := hb1.c1; clear hb1)
    | (go_at_call 38; refine (isIntP_is _ _ (by first | with_reducible exact x0 | with_reducible exact y0) (by first | with_reducible exact x1 | with_reducible exact y1) (by first | with_reducible exact HX.out | with_reducible exact HY.out)).mono ?_; rintro e w' ⟨rfl, hw'⟩; rw [hw']; clear hw' w'))
  clear c0 c1 B0 HE HX HY
  have HAB : Hid (∀ w', Box w w' x y → Ar w' p s) := fun w' h => HA0.out.under h.below
  go_region_held3 (fun w' => w'.cell? ⟨w.heap.size, 0, none⟩ = some (.int .u64 x) ∧ w'.cell? ⟨w.heap.size, 1, none⟩ = some (.int .u64 y)) (go_keep) (first
    | (go_at_call 40; refine (first_three w6 sT R sZ HT.out).mono ?_; rintro e w7 ⟨rfl, hb7⟩; have B7 := hidden (B6.out.next hb7); have m0 := B7.out.c0; have m1 := B7.out.c1; clear hb7)
    | (go_at_call 41; refine (cmp_int _ _ _ (by first | with_reducible exact HST.out | with_reducible exact HSZ.out)).mono ?_; rintro e w' ⟨rfl, hw'⟩; rw [hw']; clear hw' w')
    | (go_at_call 44; refine (sizev_is y _ (HAB.out _ B5.out) y0 y1 HZY.out).mono ?_; rintro e w6 ⟨rfl, m, hw⟩; have B6 : Hid (Box w w6 x y) := by { show Box _ _ _ _; rw [hw]; exact B5.out.next (below_drews _ _) }; have l0 := B6.out.c0; have l1 := B6.out.c1; clear hw)
    | (go_at_call 44; refine (sizev_is x _ (HAB.out _ B4.out) x0 x1 HZX.out).mono ?_; rintro e w5 ⟨rfl, m, hw⟩; have B5 : Hid (Box w w5 x y) := by { show Box _ _ _ _; rw [hw]; exact B4.out.next (below_drews _ _) }; have k0 := B5.out.c0; have k1 := B5.out.c1; clear hw)
    | (go_at_call 43; refine (HBT.out _ (HAB.out _ B3.out)).mono ?_; rintro e w4 ⟨rfl, hb⟩; have B4 := hidden (B3.out.next hb); have j0 := B4.out.c0; have j1 := B4.out.c1; clear hb)
    | (go_at_call 42; refine (tagv_is y _ (HAB.out _ B2.out) y0 y1 HTY.out).mono ?_; rintro e w3 ⟨rfl, m, hw⟩; have B3 : Hid (Box w w3 x y) := by { show Box _ _ _ _; rw [hw]; exact B2.out.next (below_drews _ _) }; have i0 := B3.out.c0; have i1 := B3.out.c1; clear hw)
    | (go_at_call 42; refine (tagv_is x _ (HAB.out _ (B1.out.next (below_drews _ 1))) x0 x1 HTX.out).mono ?_; rintro e w2 ⟨rfl, m, hw⟩; have B2 : Hid (Box w w2 x y) := by { show Box _ _ _ _; rw [hw]; exact (B1.out.next (below_drews _ 1)).next (below_drews _ _) }; have g0 := B2.out.c0; have g1 := B2.out.c1; clear hw))
  clear B1 B2 B3 B4 B5 B6 d0 d1 g0 g1 i0 i1 j0 j1 k0 k1 l0 l1 HBT
  by_cases hT : T = 0
  · have HN2 := hidden (HN.out.2.2 hT)
    subst hT
    by_cases ht : tx = 202
    · have HTB : Hid ((s.tag x == 202) = true) := by show _ = _; rw [HTX.out, ht]; rfl
      go_wp2_with (go_at_call 45; refine (isText_is x _ (HAB.out _ B7.out) x0 x1 HTB.out).mono ?_; rintro e w8 ⟨rfl, m8, hw⟩; have B8 : Hid (Box w w8 x y) := by { show Box _ _ _ _; rw [hw]; exact B7.out.next (below_drews _ _) }; clear hw)
      all_goals go_ret2
      all_goals exact Or.inr (Or.inr ⟨[], HN2.out.1 (HTX.out.trans ht), Or.inr ⟨fun c => absurd rfl c, rfl, O, HP.out.under B8.out.below, Grows.of_below O B8.out.below⟩⟩)
    · have HTB : Hid ((s.tag x == 202) = false) := by show _ = _; rw [HTX.out]; exact beq_eq_false_iff_ne.2 ht
      obtain ⟨F, G, fx, fy, hFG, hps⟩ := HN2.out.2 (by rw [HTX.out]; exact ht)
      have FX := hidden fx
      have FY := hidden fy
      have HFG := hidden hFG
      have HPS := hidden hps
      clear fx fy hFG hps
      have HPUT : Hid (∀ w8, Box w w8 x y → Calls Try.prog 46 #[.pointer (some ⟨kb, 0, none⟩), .pointer (some ⟨p.a, 0, none⟩), .agg #[.int .u64 x, .int .u64 y]] w8 fun e w' => ∃ v, e = .returned (.int .i64 v) ∧ HoldAs w O kb room ws (pairOut (ndW s r) x y) (ret2V 0 v) w') := fun w8 b8 => by
        have o8 : Only O w w8 := Only.of_below b8.below
        refine (putFields_any w8 (fun w' o => HAA.out w' (o8.trans o)) hr (HP.out.under b8.below) hl FX.out FY.out HFG.out x0 x1 y0 y1).mono ?_
        rintro e w9 (⟨h1, h2, rfl, h4⟩ | ⟨h1, rfl, O', h3, h4⟩)
        · exact ⟨11, rfl, Or.inr (Or.inr ⟨_, HPS.out, Or.inl ⟨h1, h2, rfl, o8.trans h4⟩⟩)⟩
        · exact ⟨0, rfl, Or.inr (Or.inr ⟨_, HPS.out, Or.inr ⟨h1, rfl, O', h3, (Grows.of_below O b8.below).trans h4⟩⟩)⟩
      go_wp2_with (first
        | (go_at_call 45; refine (isText_is x _ (HAB.out _ B7.out) x0 x1 HTB.out).mono ?_; rintro e w8 ⟨rfl, m8, hw⟩; have B8 : Hid (Box w w8 x y) := by { show Box _ _ _ _; rw [hw]; exact B7.out.next (below_drews _ _) }; have n0 := B8.out.c0; have n1 := B8.out.c1; clear hw)
        | (go_at_call 46; refine (HPUT.out _ B8.out).mono ?_; rintro e w9 ⟨v, rfl, h9⟩; have H9 := hidden h9; clear h9))
      all_goals go_ret2
      all_goals exact H9.out
  · have hTb : (T != 0) = true := by simp [hT]
    have HTN := hidden hT
    clear hT
    go_wp2_with fail
    all_goals go_ret2
    all_goals exact Or.inr (Or.inl ⟨HN.out.1, by rw [HN.out.2.1]; exact HTN.out, by rw [HN.out.2.1]; rfl, Only.of_below B7.out.below⟩)
/-- One pair is held against each other. -/
theorem hold_any (x y : Int) (w : World) (hA : ∀ w', Only O w w' → Ar w' p s) (hr : Rep s r) (hp : PW w O kb ws room) (hl : ws.length ≤ 390000000) (x0 : 0 ≤ x) (x1 : x ≤ 18446744073709551615) (y0 : 0 ≤ y) (y1 : y ≤ 18446744073709551615) :
    Calls Try.prog 19 #[.pointer (some ⟨kb, 0, none⟩), .pointer (some ⟨p.a, 0, none⟩), .agg #[.int .u64 x, .int .u64 y]] w fun e w' => HoldAs w O kb room ws (pairOut (ndW s r) x y) e w' := by
  by_cases he : (pairOut (ndW s r) x y).1 = 0
  · by_cases hi : isIntW x = true ∨ isIntW y = true
    · exact hold_int x y w hA hr hp x0 x1 y0 y1 he hi
    · have ix : isIntW x = false := by simpa using fun c => hi (Or.inl c)
      have iy : isIntW y = false := by simpa using fun c => hi (Or.inr c)
      by_cases hne : x = y
      · subst hne
        exact hold_same x w hA hr hp x0 x1 he ix
      · exact hold_far x y w hA hr hp hl x0 x1 y0 y1 he ix iy hne
  · exact hold_err x y w hA hr x0 x1 y0 y1 he
end Go.Proofs.Ytcbgjkedmboifab
