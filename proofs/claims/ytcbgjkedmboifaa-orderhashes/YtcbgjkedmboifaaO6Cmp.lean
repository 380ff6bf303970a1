/-
  Layer 6: what the document's own Compare tells. Condition: the document's own arena lies in memory; at most 10000 steps.
-/
import Derived.Test.YtcbgjkedmboifaaO6CmpA
import Derived.Test.YtcbgjkedmboifaaLibB
import Derived.Deep.RegionHeld
import Derived.Deep.RegionHeldLaw
import Derived.Deep.CutRange
namespace Go.Proofs.Ytcbgjkedmboifaa
open Go.ChangeShapes Go.WideShapes Go.ChangeAt Go.RowKit Go.Deep
set_option linter.unusedVariables false
set_option maxHeartbeats 2000000

variable {w w' : World} {p : Pl} {s : St} {rb : Nat} {r : RS} {a : Option Addr} {cap : Nat} {V : Nat → Value}
/-- Where the loop over the pairs is. -/
def CmpAt (nd : Int → Nd) (room : Int) (K : Nat) (res : Int × Int × Int) (w : World) (wv tv : Value) (wr : World) : Prop :=
  ∃ (ws : List (Int × Int)) (t : Nat), t ≤ K ∧ tv = .int .i64 t ∧ PR wr w.heap.size wv ws ∧ (∀ q, q ∈ ws → R64 q.1 ∧ R64 q.2) ∧ ws.length ≤ 4096 * t + 1 ∧ res = ((goC nd room (K - t) ws).1, (goC nd room (K - t) ws).2.1 + t, (goC nd room (K - t) ws).2.2) ∧ Below w.heap.size w wr
theorem ret_three {a b c a' b' c' : Int} (h1 : a = a') (h2 : b = b') (h3 : c = c') : Ending.returned (.tuple #[.int .i64 a, .int .i64 b, .int .i64 c]) = .returned (.tuple #[.int .i64 a', .int .i64 b', .int .i64 c']) := by rw [h1, h2, h3]
theorem pr_first (w : World) (x y : Int) : PR ((w.alloc (.cells #[.int .u64 x, .int .u64 y] 29)).alloc (.cells #[.slice (some ⟨w.heap.size, 0, none⟩) 2 2] 36)) w.heap.size (.slice (some ⟨w.heap.size + 1, 0, none⟩) 1 1) [(x, y)] := by
  refine ⟨w.heap.size + 1, 1, #[.slice (some ⟨w.heap.size, 0, none⟩) 2 2], rfl, Nat.le_succ _, ?_, rfl, Nat.le_refl _, by unfold maxLen; omega, fun i q hi => ?_⟩
  · have := blk_alloc_new (w.alloc (.cells #[.int .u64 x, .int .u64 y] 29)) (.cells #[.slice (some ⟨w.heap.size, 0, none⟩) 2 2] 36)
    rw [nblk_alloc] at this
    exact this
  · match i, hi with
    | 0, hi =>
      simp at hi
      subst hi
      exact ⟨_, rfl, w.heap.size, rfl, Nat.le_refl _, (blk_alloc_lt _ _ _ (by rw [nblk_alloc]; omega)).trans (blk_alloc_new _ _)⟩

set_option maxRecDepth 100000 in
set_option maxHeartbeats 40000000 in
theorem rcompare_go (x y room steps : Int) (w : World) (h : Both w p s rb r a cap V) (h0 : 0 ≤ x) (h1 : x ≤ 18446744073709551615) (g0 : 0 ≤ y) (g1 : y ≤ 18446744073709551615) (hr : 2 ≤ room) (hs : steps ≤ 10000) :
    Calls Try.prog 13 #[.pointer (some ⟨rb, 0, none⟩), .int .u64 x, .int .u64 y, .int .i64 room, .int .i64 steps] w fun e w' => e = .returned (.tuple #[.int .i64 (goC (ndW s r) room steps.toNat [(x, y)]).1, .int .i64 (goC (ndW s r) room steps.toNat [(x, y)]).2.1, .int .i64 (goC (ndW s r) room steps.toNat [(x, y)]).2.2]) ∧ Below w.heap.size w w' := by
  have HB0 := hidden h
  have HRES : Hid (∃ res, goC (ndW s r) room steps.toNat [(x, y)] = res) := ⟨_, rfl⟩
  obtain ⟨res, hres⟩ := HRES.out
  rw [hres]
  have HRS := hidden hres
  clear hres HRES h
  go_enter Try.func13, Try.ntmps13
  go_wp2_with fail
  go_loopw [13, 14] (fun wv tv wr => CmpAt (ndW s r) room steps.toNat res w wv tv wr) (fun _ tv _ => (steps - intOf tv).toNat)
  case atStart => exact ⟨[(x, y)], 0, Nat.zero_le _, rfl, pr_first w x y, fun q hq => by rw [List.mem_singleton.1 hq]; exact ⟨⟨h0, h1⟩, g0, g1⟩, by simp, by rw [Nat.sub_zero, HRS.out]; simp, ((Below.refl _ _).alloc (Nat.le_refl _) _).alloc (by simp) _⟩
  case round =>
    clear HRS h0 h1 g0 g1
    obtain ⟨ws, t, ht, rfl, hpr, hws, hwl, hgo, hbl⟩ := hrel
    have HGO := hidden hgo
    have BR0 := hidden hbl
    have HWS := hidden hws
    clear hgo hbl hws
    cases ws with
    | nil =>
      obtain ⟨g, c, cur, rfl, _⟩ := hpr
      have HE : Hid (res = (0, (t : Int), 0)) := by
        show _ = _
        rw [HGO.out]
        have e : ∀ k, goC (ndW s r) room k [] = (0, 0, 0) := fun k => by cases k <;> (unfold goC; rfl)
        rw [e]; simp
      go_wp2_with fail
      all_goals go_ret3
      all_goals exact ⟨by rw [HE.out]; rfl, BR0.out⟩
    | cons xy ws =>
      obtain ⟨x, y⟩ := xy
      obtain ⟨g, c, q, rfl, cg, cq0, cq1, hc1, hpr2⟩ := hpr.top
      obtain ⟨⟨x0, x1⟩, y0, y1⟩ := HWS.out (x, y) List.mem_cons_self
      have HW2 : Hid (∀ q, q ∈ ws → R64 q.1 ∧ R64 q.2) := fun q hq => HWS.out q (List.mem_cons_of_mem _ hq)
      have PT := hidden hpr2
      have hwl2 : ws.length ≤ 4096 * t := by simpa using hwl
      clear hpr hpr2 HWS hwl
      simp only at x0 x1 y0 y1
      by_cases hst : steps ≤ (t : Int)
      · have HE : Hid (res = (0, (t : Int), 13)) := by
          show _ = _
          rw [HGO.out, show steps.toNat - t = 0 from by omega]
          simp [goC]
        clear HGO PT
        go_wp2_with fail
        all_goals go_ret3
        all_goals exact ⟨by rw [HE.out]; rfl, BR0.out⟩
      · have hst2 : (t : Int) < steps := by omega
        obtain ⟨m, hm⟩ : ∃ m, steps.toNat - t = m + 1 := ⟨steps.toNat - t - 1, by omega⟩
        rw [hm] at HGO
        have HM : Hid (steps.toNat - (t + 1) = m) := by show _ = _; omega
        clear hm
        obtain ⟨E1, hE1⟩ : ∃ E, (ndW s r x).wrong = E := ⟨_, rfl⟩
        obtain ⟨E2, hE2⟩ : ∃ E, (ndW s r y).wrong = E := ⟨_, rfl⟩
        have HE1 := hidden hE1
        have HE2 := hidden hE2
        clear hE1 hE2
        go_upto_region 14 with (first | (go_at_call 26; refine (rwrong_is y E2 _ (HB0.out.under B1.out) y0 y1 HE2.out).mono ?_; rintro e w2 ⟨rfl, hb2⟩; have P2 := hidden (P1.out.below hb2); have B2 : Hid (Below w.heap.size w w2) := B1.out.trans (hb2.mono B1.out.size); clear hb2) | (go_at_call 26; refine (rwrong_is x E1 _ (HB0.out.under BR0.out) x0 x1 HE1.out).mono ?_; rintro e w1 ⟨rfl, hb1⟩; have P1 := hidden (PT.out.below hb1); have B1 : Hid (Below w.heap.size w w1) := BR0.out.trans (hb1.mono BR0.out.size); clear hb1))
        clear PT P1 B1 BR0 cg cq0 cq1
        by_cases hfun : E1 = 12 ∨ E2 = 12
        · skip
          have HE : Hid (res = (0, (t : Int) + 1, 12)) := by
            show _ = _
            rw [HGO.out, goC_err (E := 12) (po_fun (by rw [HE1.out, HE2.out]; exact hfun)) (by decide)]
            simp; omega
          clear HGO P2 HE1 HE2
          by_cases f1 : E1 = 12
          · have b1 : (E1 == 12) = true := by rw [f1]; rfl
            clear hfun
            go_wp2_with fail
            all_goals go_ret3
            all_goals exact ⟨by rw [HE.out]; rfl, B2.out⟩
          · have b1 : (E1 == 12) = false := beq_eq_false_iff_ne.2 f1
            have b2 : (E2 == 12) = true := by rcases hfun with c | c; exact absurd c f1; rw [c]; rfl
            clear hfun f1
            go_wp2_with fail
            all_goals go_ret3
            all_goals exact ⟨by rw [HE.out]; rfl, B2.out⟩
        · have b1 : (E1 == 12) = false := beq_eq_false_iff_ne.2 (fun c => hfun (Or.inl c))
          have b2 : (E2 == 12) = false := beq_eq_false_iff_ne.2 (fun c => hfun (Or.inr c))
          by_cases hbad : E1 ≠ 0 ∨ E2 ≠ 0
          · skip
            have HE : Hid (res = (0, (t : Int) + 1, 6)) := by
              show _ = _
              rw [HGO.out, goC_err (E := 6) (po_bad (by rw [HE1.out, HE2.out]; exact hfun) (by rw [HE1.out, HE2.out]; exact hbad)) (by decide)]
              simp; omega
            clear HGO P2 HE1 HE2 hfun
            by_cases f1 : E1 = 0
            · have c1 : (E1 != 0) = false := by rw [f1]; rfl
              have c2 : (E2 != 0) = true := by rcases hbad with c | c; exact absurd f1 c; simp [c]
              clear hbad f1
              go_wp2_with fail
              all_goals go_ret3
              all_goals exact ⟨by rw [HE.out]; rfl, B2.out⟩
            · have c1 : (E1 != 0) = true := by simp [f1]
              clear hbad f1
              go_wp2_with fail
              all_goals go_ret3
              all_goals exact ⟨by rw [HE.out]; rfl, B2.out⟩
          · have f1 : E1 = 0 := Classical.byContradiction (fun c => hbad (Or.inl c))
            have f2 : E2 = 0 := Classical.byContradiction (fun c => hbad (Or.inr c))
            subst f1 f2
            clear hbad hfun b1 b2
            go_upto_region 19 with fail
            rcases nd_ok HB0.out.rep x HE1.out with ⟨ix, nx⟩ | ⟨ix, kx, bx, hkx, hfx, hdx, hx⟩
            · rcases nd_ok HB0.out.rep y HE2.out with ⟨iy, ny⟩ | ⟨iy, ky, by', hky, hfy, hdy, hy⟩
              · skip
                obtain ⟨q1, q2, q3⟩ := po_num nx ny
                have IX := hidden ix
                have IY := hidden iy
                by_cases hn : sgn (numW x) (numW y) = 0
                · have HE : Hid (res = ((goC (ndW s r) room m ws).1, (goC (ndW s r) room m ws).2.1 + (t + 1 : Nat), (goC (ndW s r) room m ws).2.2)) := by
                    show _ = _
                    rw [HGO.out, goC_next (q3 hn) (fun c => absurd rfl c)]
                    simp; omega
                  have HN := hidden hn
                  clear HGO q1 q2 q3 hn nx ny ix iy
                  go_wp2_with (first | (go_at_call 27; refine (risInt_any _ _ (by first | exact x0 | exact y0) (by first | exact x1 | exact y1)).mono ?_; rintro e w' ⟨rfl, hw'⟩; rw [hw']; clear hw' w'; first | rw [IX.out] | rw [IY.out]) | (go_at_call 16; refine (rnum_any _ _ (by first | exact x0 | exact y0) (by first | exact x1 | exact y1)).mono ?_; rintro e w' ⟨rfl, hw'⟩; rw [hw']; clear hw' w') | (go_at_call 28; refine (rless_any _ _ _).mono ?_; rintro e w' ⟨rfl, hw'⟩; rw [hw']; clear hw' w'; rw [HN.out]))
                  all_goals go_roundw
                  case rel => exact ⟨ws, t + 1, by omega, by go_num, P2.out, HW2.out, by omega, by rw [HM.out]; exact HE.out, B2.out⟩
                  case measure => simp [intOf]; omega
                · have HE : Hid (res = (sgn (numW x) (numW y), (t : Int) + 1, 0)) := by
                    show _ = _
                    rw [HGO.out, goC_dec (q1) (q2) (hn)]
                    simp; omega
                  have HN := hidden hn
                  clear HGO q1 q2 q3 nx ny ix iy P2
                  obtain ⟨n, hsg⟩ : ∃ n, sgn (numW x) (numW y) = n := ⟨_, rfl⟩
                  rw [hsg] at HE hn
                  have HSG := hidden hsg
                  have hnb : (n != 0) = true := by simp [hn]
                  clear hsg HN
                  go_wp2_with (first | (go_at_call 27; refine (risInt_any _ _ (by first | exact x0 | exact y0) (by first | exact x1 | exact y1)).mono ?_; rintro e w' ⟨rfl, hw'⟩; rw [hw']; clear hw' w'; first | rw [IX.out] | rw [IY.out]) | (go_at_call 16; refine (rnum_any _ _ (by first | exact x0 | exact y0) (by first | exact x1 | exact y1)).mono ?_; rintro e w' ⟨rfl, hw'⟩; rw [hw']; clear hw' w') | (go_at_call 28; refine (less_is _ HSG.out).mono ?_; rintro e w' ⟨rfl, hw'⟩; rw [hw']; clear hw' w'))
                  all_goals go_ret3
                  all_goals exact ⟨by rw [HE.out]; rfl, B2.out⟩
              · skip
                have ky2 : (ndW s r y).key.head? = some 1 := by rcases hy with ⟨_, l, _, _, e⟩ | ⟨_, e⟩ <;> rw [e] <;> rfl
                obtain ⟨q1, q2⟩ := po_numblk nx HE2.out ky2
                have IX := hidden ix
                have IY := hidden iy
                have HE : Hid (res = (-1, (t : Int) + 1, 0)) := by
                  show _ = _
                  rw [HGO.out, goC_dec (q1) (q2) (by decide)]
                  simp; omega
                clear HGO q1 q2 nx ix iy P2 ky2 hy
                go_wp2_with (go_at_call 27; refine (risInt_any _ _ (by first | exact x0 | exact y0) (by first | exact x1 | exact y1)).mono ?_; rintro e w' ⟨rfl, hw'⟩; rw [hw']; clear hw' w'; first | rw [IX.out] | rw [IY.out])
                all_goals go_ret3
                all_goals exact ⟨by rw [HE.out]; rfl, B2.out⟩
            · rcases nd_ok HB0.out.rep y HE2.out with ⟨iy, ny⟩ | ⟨iy, ky, by', hky, hfy, hdy, hy⟩
              · skip
                have kx2 : (ndW s r x).key.head? = some 1 := by rcases hx with ⟨_, l, _, _, e⟩ | ⟨_, e⟩ <;> rw [e] <;> rfl
                obtain ⟨q1, q2⟩ := po_blknum HE1.out kx2 ny
                have IX := hidden ix
                have IY := hidden iy
                have HE : Hid (res = (1, (t : Int) + 1, 0)) := by
                  show _ = _
                  rw [HGO.out, goC_dec (q1) (q2) (by decide)]
                  simp; omega
                clear HGO q1 q2 ny ix iy P2 kx2 hx
                go_wp2_with (go_at_call 27; refine (risInt_any _ _ (by first | exact x0 | exact y0) (by first | exact x1 | exact y1)).mono ?_; rintro e w' ⟨rfl, hw'⟩; rw [hw']; clear hw' w'; first | rw [IX.out] | rw [IY.out])
                all_goals go_ret3
                all_goals exact ⟨by rw [HE.out]; rfl, B2.out⟩
              · by_cases exy : x = y
                · skip
                  subst exy
                  have IX := hidden ix
                  have HE : Hid (res = ((goC (ndW s r) room m ws).1, (goC (ndW s r) room m ws).2.1 + (t + 1 : Nat), (goC (ndW s r) room m ws).2.2)) := by
                    show _ = _
                    rw [HGO.out, goC_next (po_same HE1.out) (fun c => absurd rfl c)]
                    simp; omega
                  clear HGO ix iy hx hy
                  go_wp2_with (go_at_call 27; refine (risInt_any _ _ (by first | exact x0 | exact y0) (by first | exact x1 | exact y1)).mono ?_; rintro e w' ⟨rfl, hw'⟩; rw [hw']; clear hw' w'; rw [IX.out])
                  all_goals go_roundw
                  case rel => exact ⟨ws, t + 1, by omega, by go_num, P2.out, HW2.out, by omega, by rw [HM.out]; exact HE.out, B2.out⟩
                  case measure => simp [intOf]; omega
                · skip
                  have IX := hidden ix
                  have IY := hidden iy
                  have HKX := hidden hkx
                  have HFX := hidden hfx
                  have HDX := hidden hdx
                  have HKY := hidden hky
                  have HFY := hidden hfy
                  have HDY := hidden hdy
                  have KX : Hid (∃ l, (ndW s r x).key = 1 :: (ndW s r x).tag :: l) := by rcases hx with ⟨_, l, _, _, e⟩ | ⟨_, e⟩ <;> rw [e] <;> exact ⟨_, rfl⟩
                  have KY : Hid (∃ l, (ndW s r y).key = 1 :: (ndW s r y).tag :: l) := by rcases hy with ⟨_, l, _, _, e⟩ | ⟨_, e⟩ <;> rw [e] <;> exact ⟨_, rfl⟩
                  have TX : Hid ((ndW s r x).tag = bx.tag) := by show _ = _; rcases hx with ⟨t2, l, _, _, e⟩ | ⟨_, e⟩ <;> rw [e]; exact t2.symm; rfl
                  have TY : Hid ((ndW s r y).tag = by'.tag) := by show _ = _; rcases hy with ⟨t2, l, _, _, e⟩ | ⟨_, e⟩ <;> rw [e]; exact t2.symm; rfl
                  have exb : (x != y) = true := by simp [exy]
                  have HXX := hidden hx
                  have HYY := hidden hy
                  clear ix iy hkx hfx hdx hky hfy hdy hx hy
                  go_upto_region 28 with (first | (go_at_call 27; refine (risInt_any _ _ (by first | exact x0 | exact y0) (by first | exact x1 | exact y1)).mono ?_; rintro e w' ⟨rfl, hw'⟩; rw [hw']; clear hw' w'; first | rw [IX.out] | rw [IY.out]) | (go_at_call 29; refine (rfind_at y ky by' _ (HB0.out.under B3.out) y0 y1 HKY.out HFY.out HDY.out).mono ?_; rintro e w4 ⟨rfl, m4, hw4⟩; have P4 : Hid (PR w4 w.heap.size (.slice (some ⟨g, 0, none⟩) ws.length c) ws) := by { show PR _ _ _ _; rw [hw4]; exact P3.out.below (below_drews _ _) }; have B4 : Hid (Below w.heap.size w w4) := by { show Below _ _ _; rw [hw4]; exact B3.out.trans ((below_drews _ _).mono B3.out.size) }; clear hw4) | (go_at_call 29; refine (rfind_at x kx bx _ (HB0.out.under B2.out) x0 x1 HKX.out HFX.out HDX.out).mono ?_; rintro e w3 ⟨rfl, m3, hw3⟩; have P3 : Hid (PR w3 w.heap.size (.slice (some ⟨g, 0, none⟩) ws.length c) ws) := by { show PR _ _ _ _; rw [hw3]; exact P2.out.below (below_drews _ _) }; have B3 : Hid (Below w.heap.size w w3) := by { show Below _ _ _; rw [hw3]; exact B2.out.trans ((below_drews _ _).mono B2.out.size) }; clear hw3))
                  clear P2 P3 B2 B3
                  obtain ⟨ga, rfl, c2, dx0, dx1, ⟨vx, cx, dx2, ox⟩, lx1, lx2, lx3⟩ := blk_at (HB0.out.under B4.out) HKX.out
                  obtain ⟨ga', hga, c2', dy0, dy1, ⟨vy, cy, dy2, oy⟩, ly1, ly2, ly3⟩ := blk_at (HB0.out.under B4.out) HKY.out
                  have : ga = ga' := by simpa using hga
                  subst this
                  have OX := hidden ox
                  have OY := hidden oy
                  clear hga c2' ox oy ly3
                  have brb : rb < w4.heap.size := cell_lt c2
                  have bga : ga < w4.heap.size := cell_lt dx0
                  go_upto_region 30 with fail
                  have P5 := hidden (P4.out.below (((Below.refl _ _).alloc (Nat.le_refl _) (.cells #[.int .i64 bx.ad, .int .i64 bx.tag, .slice vx bx.F.length cx] 70)).alloc (by simp) (.cells #[.int .i64 by'.ad, .int .i64 by'.tag, .slice vy by'.F.length cy] 70)))
                  have B5 := hidden ((B4.out.alloc B4.out.size (.cells #[.int .i64 bx.ad, .int .i64 bx.tag, .slice vx bx.F.length cx] 70)).alloc (by have := B4.out.size; rw [nblk_alloc]; omega) (.cells #[.int .i64 by'.ad, .int .i64 by'.tag, .slice vy by'.F.length cy] 70))
                  have U1 : Hid (((w4.alloc (.cells #[.int .i64 bx.ad, .int .i64 bx.tag, .slice vx bx.F.length cx] 70)).alloc (.cells #[.int .i64 by'.ad, .int .i64 by'.tag, .slice vy by'.F.length cy] 70)).heap[w4.heap.size]? = some (.cells #[.int .i64 bx.ad, .int .i64 bx.tag, .slice vx bx.F.length cx] 70 (0, 0))) := (blk_alloc_lt _ _ _ (by rw [nblk_alloc]; omega)).trans (blk_alloc_new _ _)
                  have U2 : Hid (((w4.alloc (.cells #[.int .i64 bx.ad, .int .i64 bx.tag, .slice vx bx.F.length cx] 70)).alloc (.cells #[.int .i64 by'.ad, .int .i64 by'.tag, .slice vy by'.F.length cy] 70)).heap[w4.heap.size + 1]? = some (.cells #[.int .i64 by'.ad, .int .i64 by'.tag, .slice vy by'.F.length cy] 70 (0, 0))) := by have := blk_alloc_new (w4.alloc (.cells #[.int .i64 bx.ad, .int .i64 bx.tag, .slice vx bx.F.length cx] 70)) (.cells #[.int .i64 by'.ad, .int .i64 by'.tag, .slice vy by'.F.length cy] 70); rw [nblk_alloc] at this; exact this
                  have OX5 : Hid (0 < bx.F.length → ∃ gf, vx = some ⟨gf, 0, none⟩ ∧ Own ((w4.alloc (.cells #[.int .i64 bx.ad, .int .i64 bx.tag, .slice vx bx.F.length cx] 70)).alloc (.cells #[.int .i64 by'.ad, .int .i64 by'.tag, .slice vy by'.F.length cy] 70)) gf bx.F.length (fun i => bx.F.getD i 0)) := fun h => by obtain ⟨gf, e, ho⟩ := OX.out h; exact ⟨gf, e, ho.frame (S := fun _ => False) (((Only.refl _ _).alloc _).alloc _) id⟩
                  have OY5 : Hid (0 < by'.F.length → ∃ gf, vy = some ⟨gf, 0, none⟩ ∧ Own ((w4.alloc (.cells #[.int .i64 bx.ad, .int .i64 bx.tag, .slice vx bx.F.length cx] 70)).alloc (.cells #[.int .i64 by'.ad, .int .i64 by'.tag, .slice vy by'.F.length cy] 70)) gf by'.F.length (fun i => by'.F.getD i 0)) := fun h => by obtain ⟨gf, e, ho⟩ := OY.out h; exact ⟨gf, e, ho.frame (S := fun _ => False) (((Only.refl _ _).alloc _).alloc _) id⟩
                  generalize (w4.alloc (.cells #[.int .i64 bx.ad, .int .i64 bx.tag, .slice vx bx.F.length cx] 70)).alloc (.cells #[.int .i64 by'.ad, .int .i64 by'.tag, .slice vy by'.F.length cy] 70) = w5 at *
                  have cu1 : w5.cell? ⟨w4.heap.size, 1, none⟩ = some (.int .i64 bx.tag) := by simp [World.cell?, U1.out]
                  have cu2 : w5.cell? ⟨w4.heap.size, 2, none⟩ = some (.slice vx bx.F.length cx) := by simp [World.cell?, U1.out]
                  have cv1 : w5.cell? ⟨w4.heap.size + 1, 1, none⟩ = some (.int .i64 by'.tag) := by simp [World.cell?, U2.out]
                  have cv2 : w5.cell? ⟨w4.heap.size + 1, 2, none⟩ = some (.slice vy by'.F.length cy) := by simp [World.cell?, U2.out]
                  generalize w4.heap.size = u at *
                  clear P4 B4 OX OY brb bga dx0 dx1 dx2 dy0 dy1 dy2 c2
                  by_cases hn : sgn bx.tag by'.tag ≠ 0
                  · skip
                    have htag := po_tag exy HE1.out HE2.out KX.out KY.out (by rw [TX.out, TY.out]; exact hn)
                    rw [TX.out, TY.out] at htag
                    have HE : Hid (res = (sgn bx.tag by'.tag, (t : Int) + 1, 0)) := by
                      show _ = _
                      rw [HGO.out, goC_dec (htag.1) (htag.2) (hn)]
                      simp; omega
                    obtain ⟨n, hsg⟩ : ∃ n, sgn bx.tag by'.tag = n := ⟨_, rfl⟩
                    rw [hsg] at HE hn
                    have HSG := hidden hsg
                    have hnb : (n == 0) = false := beq_eq_false_iff_ne.2 hn
                    have hnb2 : (n != 0) = true := by simp [hn]
                    clear hsg HGO P5 htag
                    go_wp2_with (go_at_call 28; refine (less_is _ HSG.out).mono ?_; rintro e w' ⟨rfl, hw'⟩; rw [hw']; clear hw' w')
                    all_goals go_ret3
                    all_goals exact ⟨by rw [HE.out]; rfl, B5.out⟩
                  · have hn0 : sgn bx.tag by'.tag = 0 := Classical.byContradiction hn
                    have htt := sgn_zero hn0
                    clear hn
                    rcases HXX.out with ⟨t202, lx, _, tx, nx⟩ | ⟨tn, nx⟩
                    · rcases HYY.out with ⟨_, ly, _, ty, ny⟩ | ⟨tn2, _⟩
                      · skip
                        obtain ⟨q1, q2, q3⟩ := po_txt exy nx ny
                        have HLX := hidden (text_short2 HB0.out.rep tx)
                        have HLY := hidden (text_short2 HB0.out.rep ty)
                        have HTX : Hid (True → textAt s r x = (some lx, 0)) := fun _ => tx
                        have HTY : Hid (True → textAt s r y = (some ly, 0)) := fun _ => ty
                        rw [t202] at cu1
                        rw [← htt, t202] at cv1
                        clear tx ty hn0 t202 htt
                        by_cases hn : sgnL (bytesI lx) (bytesI ly) = 0
                        · have HE : Hid (res = ((goC (ndW s r) room m ws).1, (goC (ndW s r) room m ws).2.1 + (t + 1 : Nat), (goC (ndW s r) room m ws).2.2)) := by
                            show _ = _
                            rw [HGO.out, goC_next (q3 hn) (fun c => absurd rfl c)]
                            simp; omega
                          have HSG : Hid (True → sgnL (bytesI lx) (bytesI ly) = 0) := fun _ => hn
                          clear HGO q1 q2 q3 hn nx ny
                          go_wp2_with (first | (go_at_call 28; refine (less_is _ (show sgn 202 202 = 0 from rfl)).mono ?_; rintro e w' ⟨rfl, hw'⟩; rw [hw']; clear hw' w') | (go_at_call 30; refine (rread_is y _ (HB0.out.under B6.out) y0 y1 (HTY.out trivial)).mono ?_; rintro e w7 ⟨rfl, hb7⟩; have P7 := hidden (P6.out.below hb7); have B7 : Hid (Below w.heap.size w w7) := B6.out.trans (hb7.mono B6.out.size); clear hb7) | (go_at_call 30; refine (rread_is x _ (HB0.out.under B5.out) x0 x1 (HTX.out trivial)).mono ?_; rintro e w6 ⟨rfl, hb6⟩; have P6 := hidden (P5.out.below hb6); have B6 : Hid (Below w.heap.size w w6) := B5.out.trans (hb6.mono B5.out.size); clear hb6) | (go_at_call 31; refine (texts_is lx ly _ _ (by have := HLX.out; omega) (by have := HLY.out; omega) (HSG.out trivial)).mono ?_; rintro e w8 ⟨rfl, m8, hw8⟩; have P8 : Hid (PR w8 w.heap.size (.slice (some ⟨g, 0, none⟩) ws.length c) ws) := by { show PR _ _ _ _; rw [hw8]; exact P7.out.below (below_drews _ _) }; have B8 : Hid (Below w.heap.size w w8) := by { show Below _ _ _; rw [hw8]; exact B7.out.trans ((below_drews _ _).mono B7.out.size) }; clear hw8))
                          all_goals go_roundw
                          case rel => exact ⟨ws, t + 1, by omega, by go_num, P8.out, HW2.out, by omega, by rw [HM.out]; exact HE.out, B8.out⟩
                          case measure => simp [intOf]; omega
                        · have HE : Hid (res = (sgnL (bytesI lx) (bytesI ly), (t : Int) + 1, 0)) := by
                            show _ = _
                            rw [HGO.out, goC_dec (q1) (q2) (hn)]
                            simp; omega
                          obtain ⟨n, hsg⟩ : ∃ n, sgnL (bytesI lx) (bytesI ly) = n := ⟨_, rfl⟩
                          rw [hsg] at HE hn
                          have HSG : Hid (True → sgnL (bytesI lx) (bytesI ly) = n) := fun _ => hsg
                          have hnb2 : (n != 0) = true := by simp [hn]
                          clear hsg HGO q1 q2 q3 nx ny
                          go_wp2_with (first | (go_at_call 28; refine (less_is _ (show sgn 202 202 = 0 from rfl)).mono ?_; rintro e w' ⟨rfl, hw'⟩; rw [hw']; clear hw' w') | (go_at_call 30; refine (rread_is y _ (HB0.out.under B6.out) y0 y1 (HTY.out trivial)).mono ?_; rintro e w7 ⟨rfl, hb7⟩; have P7 := hidden (P6.out.below hb7); have B7 : Hid (Below w.heap.size w w7) := B6.out.trans (hb7.mono B6.out.size); clear hb7) | (go_at_call 30; refine (rread_is x _ (HB0.out.under B5.out) x0 x1 (HTX.out trivial)).mono ?_; rintro e w6 ⟨rfl, hb6⟩; have P6 := hidden (P5.out.below hb6); have B6 : Hid (Below w.heap.size w w6) := B5.out.trans (hb6.mono B5.out.size); clear hb6) | (go_at_call 31; refine (texts_is lx ly _ _ (by have := HLX.out; omega) (by have := HLY.out; omega) (HSG.out trivial)).mono ?_; rintro e w8 ⟨rfl, m8, hw8⟩; have P8 : Hid (PR w8 w.heap.size (.slice (some ⟨g, 0, none⟩) ws.length c) ws) := by { show PR _ _ _ _; rw [hw8]; exact P7.out.below (below_drews _ _) }; have B8 : Hid (Below w.heap.size w w8) := by { show Below _ _ _; rw [hw8]; exact B7.out.trans ((below_drews _ _).mono B7.out.size) }; clear hw8))
                          all_goals go_ret3
                          all_goals exact ⟨by rw [HE.out]; rfl, B8.out⟩
                      · exact absurd (htt.symm.trans t202) tn2
                    · rcases HYY.out with ⟨t2, _⟩ | ⟨tn2, ny⟩
                      · exact absurd (htt.trans t2) tn
                      · rw [← htt] at ny
                        obtain ⟨q1, q2, q3⟩ := po_blk exy nx ny
                        rw [← htt] at cv1
                        have HTG : Hid (sgn bx.tag bx.tag = 0) := sgn_self _
                        have hb202 : (bx.tag == 202) = false := beq_eq_false_iff_ne.2 tn
                        clear hn0 tn tn2 htt
                        by_cases hn : sgn bx.F.length by'.F.length ≠ 0
                        · skip
                          have HE : Hid (res = (sgn bx.F.length by'.F.length, (t : Int) + 1, 0)) := by
                            show _ = _
                            rw [HGO.out, goC_dec (q1) (q2) (hn)]
                            simp; omega
                          obtain ⟨n, hsg⟩ : ∃ n, sgn bx.F.length by'.F.length = n := ⟨_, rfl⟩
                          rw [hsg] at HE hn
                          have HSG := hidden hsg
                          have hnb : (n == 0) = false := beq_eq_false_iff_ne.2 hn
                          have hnb2 : (n != 0) = true := by simp [hn]
                          clear hsg HGO q1 q2 q3 nx ny P5
                          go_wp2_with (go_at_call 28; refine (rless_any _ _ _).mono ?_; rintro e w' ⟨rfl, hw'⟩; rw [hw']; clear hw' w'; first | rw [HTG.out] | rw [HSG.out])
                          go_loop [30] (fun j => j = .int .i64 ((bx.F.length : Int) - 1)) (fun _ => 0)
                          case atStart => rfl
                          case round =>
                            subst hrel
                            by_cases hj : 0 ≤ (bx.F.length : Int) - 1
                            · go_wp2_with fail
                              all_goals go_ret3
                              all_goals exact ⟨by rw [HE.out]; rfl, B5.out⟩
                            · go_wp2_with fail
                              all_goals go_ret3
                              all_goals exact ⟨by rw [HE.out]; rfl, B5.out⟩
                        · skip
                          have hn0 : sgn bx.F.length by'.F.length = 0 := Classical.byContradiction hn
                          have hlen : by'.F.length = bx.F.length := by have := sgn_zero hn0; omega
                          have HQ := hidden (q3 hn0)
                          have HSG : Hid (sgn (bx.F.length : Int) (bx.F.length : Int) = 0) := sgn_self _
                          have HZL : Hid ((bx.F.zip by'.F).length = bx.F.length) := by show _ = _; rw [List.length_zip, hlen]; omega
                          have HZA : Hid (∀ i, i < bx.F.length → (bx.F.zip by'.F)[i]? = some (bx.F.getD i 0, by'.F.getD i 0)) := fun i hi => by
                            exact (List.getElem?_zip_eq_some (z := (bx.F.getD i 0, by'.F.getD i 0))).2 ⟨by show _ = some (bx.F.getD i 0); rw [List.getD_eq_getElem?_getD, List.getElem?_eq_getElem hi]; rfl, by show _ = some (by'.F.getD i 0); rw [List.getD_eq_getElem?_getD, List.getElem?_eq_getElem (show i < by'.F.length by omega)]; rfl⟩
                          have HZR : Hid (∀ q, q ∈ bx.F.zip by'.F → R64 q.1 ∧ R64 q.2) := fun q hq => ⟨HB0.out.rng HKX.out _ (List.of_mem_zip hq).1, HB0.out.rng HKY.out _ (List.of_mem_zip hq).2⟩
                          rw [hlen] at cv2 OY5 U2
                          generalize bx.F.zip by'.F = Z at *
                          have OX6 : Hid (0 < bx.F.length → ∃ gx gy, vx = some ⟨gx, 0, none⟩ ∧ vy = some ⟨gy, 0, none⟩ ∧ Own w5 gx bx.F.length (fun i => bx.F.getD i 0) ∧ Own w5 gy bx.F.length (fun i => by'.F.getD i 0)) := fun h => by obtain ⟨gx, e1, o1⟩ := OX5.out h; obtain ⟨gy, e2, o2⟩ := OY5.out h; exact ⟨gx, gy, e1, e2, o1, o2⟩
                          generalize bx.F.length = L at *
                          clear hn hn0 hlen q1 q2 q3 nx ny OX5 OY5
                          go_wp2_with (go_at_call 28; refine (rless_any _ _ _).mono ?_; rintro e w' ⟨rfl, hw'⟩; rw [hw']; clear hw' w'; first | rw [HTG.out] | rw [HSG.out])
                          go_loopw [13, 30] (fun wv jv wr => PushAt w w5 room ws Z wv jv wr) (fun _ jv _ => (intOf jv + 1).toNat)
                          case atStart => exact ⟨Z.length, Nat.le_refl _, by rw [HZL.out], by rw [List.drop_length, List.nil_append]; exact P5.out, fun h => absurd h (Nat.lt_irrefl _), B5.out, Kept.refl _⟩
                          case round =>
                            clear P5 B5 cu1 cu2 cv1 cv2
                            obtain ⟨d, hd, rfl, hpr, hrm, hbl, hkp⟩ := hrel
                            have hd2 : d ≤ L := by rw [HZL.out] at hd; exact hd
                            have BRI := hidden hbl
                            have KPI := hidden hkp
                            have HRM := hidden hrm
                            by_cases hd0 : d = 0
                            · subst hd0
                              have PF := hidden hpr
                              have HE : Hid (res = ((goC (ndW s r) room m (Z ++ ws)).1, (goC (ndW s r) room m (Z ++ ws)).2.1 + (t + 1 : Nat), (goC (ndW s r) room m (Z ++ ws)).2.2)) := by
                                show _ = _
                                rw [HGO.out, goC_next HQ.out (fun c => by
                                  have := HRM.out (by cases Z with
                                    | nil => exact absurd rfl c
                                    | cons a l => exact Nat.succ_pos _)
                                  rw [List.drop_zero] at this
                                  exact this)]
                                simp; omega
                              clear HGO hpr hrm hbl hkp hd
                              have hj : ¬ (0 : Int) ≤ ((0 : Nat) : Int) - 1 := by omega
                              go_wp2_with fail
                              all_goals go_roundw
                              case rel => exact ⟨Z ++ ws, t + 1, by omega, by go_num, by have := PF.out; rw [List.drop_zero] at this; exact this, fun q hq => (by rcases List.mem_append.1 hq with h | h; exact HZR.out q h; exact HW2.out q h), by rw [List.length_append, HZL.out]; omega, by rw [HM.out]; exact HE.out, BRI.out⟩
                              case measure => simp [intOf]; omega
                            · obtain ⟨e, rfl⟩ : ∃ e, d = e + 1 := ⟨d - 1, by omega⟩
                              obtain ⟨gx, gy, evx, evy, ox, oy⟩ := OX6.out (by omega)
                              have ox2 := hkp.own ox
                              have oy2 := hkp.own oy
                              have hu1 := hkp _ _ _ (by decide) U1.out
                              have hu2 := hkp _ _ _ (by decide) U2.out
                              rw [evx] at hu1
                              rw [evy] at hu2
                              have k1 : wr.cell? ⟨u, 2, none⟩ = some (.slice (some ⟨gx, 0, none⟩) L cx) := by simp [World.cell?, hu1]
                              have k2 : wr.cell? ⟨u + 1, 2, none⟩ = some (.slice (some ⟨gy, 0, none⟩) L cy) := by simp [World.cell?, hu2]
                              have f3 : ∀ w', Kept wr w' → w'.cell? ⟨gx, e, none⟩ = some (.int .u64 (bx.F.getD e 0)) := fun w' k => (k.own ox2).cell (i := e) (by omega)
                              have f4 : ∀ w', Kept wr w' → w'.cell? ⟨gy, e, none⟩ = some (.int .u64 (by'.F.getD e 0)) := fun w' k => (k.own oy2).cell (i := e) (by omega)
                              have hz := HZA.out e (by omega)
                              have hdrop : Z.drop e = (bx.F.getD e 0, by'.F.getD e 0) :: Z.drop (e + 1) := by
                                have hlt : e < Z.length := by omega
                                rw [List.drop_eq_getElem_cons hlt]
                                rw [List.getElem?_eq_getElem hlt] at hz
                                rw [Option.some.inj hz]
                              have HDR := hidden hdrop
                              generalize bx.F.getD e 0 = X at *
                              generalize by'.F.getD e 0 = Y at *
                              obtain ⟨g', c', w6, happ, hpr6, hb6, hk6⟩ := push_one X Y hpr hbl.size (by rw [List.length_append, List.length_drop, HZL.out]; omega)
                              have n1 : w6.cell? ⟨u, 2, none⟩ = some (.slice (some ⟨gx, 0, none⟩) L cx) := by simp [World.cell?, hk6 _ _ _ (by decide) hu1]
                              have n2 : w6.cell? ⟨u + 1, 2, none⟩ = some (.slice (some ⟨gy, 0, none⟩) L cy) := by simp [World.cell?, hk6 _ _ _ (by decide) hu2]
                              have n3 := f3 w6 hk6
                              have n4 := f4 w6 hk6
                              have k3 := f3 wr (Kept.refl _)
                              have k4 := f4 wr (Kept.refl _)
                              have P6 := hidden hpr6
                              have B6 := hidden (hbl.trans hb6)
                              have K6 : Hid (Kept w5 w6) := fun q cur ty ht h => hk6 q cur ty ht (hkp q cur ty ht h)
                              have hlw : (Z.drop (e + 1) ++ ws).length + 1 < 100000000 := by rw [List.length_append, List.length_drop, HZL.out]; omega
                              have HLW : Hid ((Z.drop e).length + ws.length = (Z.drop (e + 1) ++ ws).length + 1) := by show _ = _; rw [HDR.out, List.length_cons, List.length_append]; omega
                              generalize hnn : (Z.drop (e + 1) ++ ws).length = N at *
                              have hj : (0 : Int) ≤ ((e + 1 : Nat) : Int) - 1 := by omega
                              have he0 : (0 : Int) ≤ (e : Int) := by omega
                              have hel : (e : Int) < (L : Int) := by omega
                              clear hpr hrm hbl hkp hd hz hdrop ox oy ox2 oy2 hu1 hu2 hpr6 hb6 hk6 evx evy hnn f3 f4
                              go_upto_region 40 with fail
                              by_cases hroom : room < 2 * ((N : Int) + 1)
                              · have HE : Hid (res = (0, (t : Int) + 1, 11)) := by
                                  show _ = _
                                  have hle : (Z.drop e).length ≤ Z.length := by rw [List.length_drop]; omega
                                  have hl2 := HLW.out
                                  rw [HGO.out, goC_full HQ.out (fun c => by rw [c] at HDR; have := HDR.out; rw [List.drop_nil] at this; cases this) (by omega)]
                                  simp; omega
                                go_region_held_law (fun w' => w'.cell? ⟨u, 2, none⟩ = some (.slice (some ⟨gx, 0, none⟩) L cx) ∧ w'.cell? ⟨u + 1, 2, none⟩ = some (.slice (some ⟨gy, 0, none⟩) L cy) ∧ w'.cell? ⟨gx, e, none⟩ = some (.int .u64 X) ∧ w'.cell? ⟨gy, e, none⟩ = some (.int .u64 Y)) (first | exact ⟨n1, n2, n3, n4⟩ | go_keep) (refine step_append_pair rfl (.tmp 179) (.tmp 191) rfl rfl rfl happ ?_)
                                all_goals clear happ
                                all_goals go_wp2_with fail
                                all_goals go_ret3
                                all_goals exact ⟨by rw [HE.out]; rfl, B6.out⟩
                              · go_region_held_law (fun w' => w'.cell? ⟨u, 2, none⟩ = some (.slice (some ⟨gx, 0, none⟩) L cx) ∧ w'.cell? ⟨u + 1, 2, none⟩ = some (.slice (some ⟨gy, 0, none⟩) L cy) ∧ w'.cell? ⟨gx, e, none⟩ = some (.int .u64 X) ∧ w'.cell? ⟨gy, e, none⟩ = some (.int .u64 Y)) (first | exact ⟨n1, n2, n3, n4⟩ | go_keep) (refine step_append_pair rfl (.tmp 179) (.tmp 191) rfl rfl rfl happ ?_)
                                all_goals clear happ
                                all_goals go_wp2_with fail
                                all_goals go_roundw
                                case rel => exact ⟨e, by rw [HZL.out]; omega, by go_num, by rw [HDR.out, List.cons_append]; exact P6.out, fun _ => by rw [HLW.out]; omega, B6.out, K6.out⟩
                                case measure => (first | (simp [intOf]; done) | (simp [intOf]; omega))
set_option maxRecDepth 100000 in
/-- What the document's own Compare tells. -/
theorem rcompare_any (x y room steps : Int) (w : World) (h : Both w p s rb r a cap V) (h0 : 0 ≤ x) (h1 : x ≤ 18446744073709551615) (g0 : 0 ≤ y) (g1 : y ≤ 18446744073709551615) (hs : steps ≤ 10000) :
    Calls Try.prog 13 #[.pointer (some ⟨rb, 0, none⟩), .int .u64 x, .int .u64 y, .int .i64 room, .int .i64 steps] w fun e w' => e = .returned (.tuple #[.int .i64 (cmpC (ndW s r) x y room steps).1, .int .i64 (cmpC (ndW s r) x y room steps).2.1, .int .i64 (cmpC (ndW s r) x y room steps).2.2]) ∧ Below w.heap.size w w' := by
  by_cases hr : room < 2
  · have e : cmpC (ndW s r) x y room steps = (0, 0, 11) := by unfold cmpC; rw [if_pos hr]
    rw [e]
    go_enter Try.func13, Try.ntmps13
    go_wp2_with fail
    all_goals go_ret3
    all_goals exact ⟨rfl, Below.refl _ _⟩
  · have e : cmpC (ndW s r) x y room steps = goC (ndW s r) room steps.toNat [(x, y)] := by unfold cmpC; rw [if_neg hr]
    rw [e]
    exact rcompare_go x y room steps w h h0 h1 g0 g1 (by omega) hs
end Go.Proofs.Ytcbgjkedmboifaa
