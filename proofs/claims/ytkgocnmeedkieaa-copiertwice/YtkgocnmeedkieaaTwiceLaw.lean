/-
  CopierTwice: whatever number of cells, blocks and roots are handed to it, the call returns true and writes nothing that was there. Condition: the slices lie in memory.
-/
import Derived.Test.YtkgocnmeedkieaaSameLaw
namespace Go.Proofs.Ytkgocnmeedkieaa
open Go.ChangeShapes Go.WideShapes Go.ChangeAt Go.RowKit Go.Deep
set_option linter.unusedVariables false
set_option maxHeartbeats 2000000

theorem top_take (l : List Blk) : lenB (l.take l.length) = lenB l := by rw [List.take_length]
theorem twice_no (n : Int) (al : Option Addr) (ll cl : Nat) (rl : Option Addr) (rm rc : Nat) (w : World) (h : n < 2 ∨ 32768 < n) :
    Calls Try.prog 7 #[.int .i64 n, .slice al ll cl, .slice rl rm rc] w fun e w' => e = .returned (.bool true) ∧ Below w.heap.size w w' := by
  by_cases c : n < 2
  · go_enter Try.func7, Try.ntmps7
    go_wp2_with (first | (go_at_call 9; refine (awake3_any _).mono ?_; rintro e w0 ⟨rfl, b0⟩) | (go_at_call 10; refine (lay_no n al ll cl _ h).mono ?_; rintro e w' ⟨rfl, hw'⟩; rw [hw']; clear hw' w'))
    all_goals go_ret
    all_goals exact ⟨rfl, b0⟩
  · have c2 : 32768 < n := by omega
    have H : Hid _ := h
    clear h
    go_enter Try.func7, Try.ntmps7
    go_wp2_with (first | (go_at_call 9; refine (awake3_any _).mono ?_; rintro e w0 ⟨rfl, b0⟩) | (go_at_call 10; refine (lay_no n al ll cl _ H.out).mono ?_; rintro e w' ⟨rfl, hw'⟩; rw [hw']; clear hw' w'))
    all_goals go_ret
    all_goals exact ⟨rfl, b0⟩
set_option maxRecDepth 100000 in
theorem twice_yes (n : Int) (al : Option Addr) (ll cl : Nat) (I : Nat → BI) (rl : Option Addr) (rm rc : Nat) (Z : Nat → Int) (w : World) (h1 : 2 ≤ n) (h2 : n ≤ 32768) (hl : ll ≤ maxLen) (hI : BlocksIn w w.heap.size al ll I) (hZ : WS w rl rm rc Z) (hrm : rm ≤ maxLen) :
    Calls Try.prog 7 #[.int .i64 n, .slice al ll cl, .slice rl rm rc] w fun e w' => e = .returned (.bool true) ∧ Below w.heap.size w w' := by
  have HI : Hid _ := hI
  have HZ : Hid _ := hZ
  have HL : Hid _ := hl
  have HRM : Hid _ := hrm
  clear hI hZ hl hrm
  go_enter Try.func7, Try.ntmps7
  go_wp2_with fail
  refine (awake3_any _).mono ?_
  rintro e w0 ⟨rfl, b0⟩
  go_wp2_with fail
  refine (lay_yes n al ll cl I _ h1 h2 HL.out (BlocksIn.mono (BlocksIn.below (Bd := w.heap.size) HI.out b0) b0.size)).mono ?_
  rintro e w1 ⟨p, rb, r, a, cap, V, rfl, h3, b1, j1, j2, j3, j4, j5⟩
  have hs0 := b0.size
  have hA := h3.ar
  have HR : Hid _ := h3.bo.rep
  have hB := b0.trans (b1.mono hs0)
  have l2 : w.heap.size ≤ p.h := by omega
  have l3 : w.heap.size ≤ p.c := by omega
  have l4 : w.heap.size ≤ p.b := by omega
  have HZ1 : Hid (WS w1 rl rm rc Z) := HZ.out.below hB
  have HLO : Hid _ := HZ.out.lo
  have HHI : Hid _ := HZ.out.hi
  clear h3 b0 b1 j1 j2 j3 j4 j5 hs0 HZ HI
  generalize layB n.toNat (min ll 60) I (min ll 60) = s at *
  obtain ⟨mb, hmb⟩ : ∃ mb, mb = r.L.length := ⟨_, rfl⟩
  have HMB : Hid _ := hmb
  clear hmb
  go_wp2_with fail
  refine (words_any mb _ hA HR.out HMB.out HZ1.out HRM.out).mono ?_
  rintro e w2 ⟨g, cg, rfl, own2, hg2, b2⟩
  have hA2 := ar_below hA b2
  have hB2 := hB.trans (b2.mono hB.size)
  have ws2 := rng_words (c := cg) HLO.out HHI.out own2
  have hM : min rm 60 ≤ 60 := by omega
  clear hA hB b2 own2 HZ1 HLO HHI HRM HL HMB
  generalize (fun i => wordV (Z i) mb (blkW s r)) = X at ws2
  generalize min rm 60 = M at *
  go_wp2_with fail
  refine (graph_any _ hA2 HR.out ws2 (by omega)).mono ?_
  rintro e w3 ⟨gf, cf, gt, ct, gl, cl', hs, cs, rfl, hGr, b3⟩
  have hA3 := ar_below hA2 b3
  have hB3 := hB2.trans (b3.mono hB2.size)
  have ws23 := ws2.below b3
  have HOWN : Hid (∀ q, w2.heap.size ≤ q → ¬ p.own q) := by
    have i1 := lt_of_some hA2.hh
    have i2 := hA2.hc.lt
    have i3 := hA2.hb.lt
    intro q hq hs'
    rcases hs' with e | e | e <;> omega
  have HWLO : Hid _ := ws2.lo
  have HWHI : Hid _ := ws2.hi
  have hlen : (reachG s r (listX X M)).length ≤ 32768 := by
    have n2 := hA2.n2; have t2 := hA2.t2; have htop := HR.out.top; have := lenB_length' r.L
    have := reach_len HR.out (listX X M)
    omega
  have HGD : Hid (GoodG r (reachG s r (listX X M))) := reach_good HR.out (listX X M)
  obtain ⟨RG, hRG⟩ : ∃ RG, reachG s r (listX X M) = RG := ⟨_, rfl⟩
  rw [hRG] at hGr hlen HGD ⊢
  have HRG := hidden hRG
  have HGr := hidden hGr
  have HB3 := hidden hB3
  clear ws2 hA2 hB2 b3 hg2 hGr hB3 hRG
  go_wp2_with fail
  go_loop [50] (fun i => ∃ j : Nat, j ≤ RG.length ∧ i = .int .i64 j ∧ Hid (NoStrayTo s r RG j)) (fun i => RG.length - (intOf i).toNat)
  case atStart => exact ⟨0, Nat.zero_le _, rfl, fun k hk => absurd hk (Nat.not_lt_zero _)⟩
  case round =>
    obtain ⟨j, hj, rfl, HS⟩ := hrel
    by_cases hlt : j < RG.length
    · have t0 := gr_lens HGr.out hlt
      have f0 := gr_flds HGr.out hlt
      have HN := hidden (HGr.out.nodes j hlt)
      have x1 : (0 : Int) ≤ (j : Int) := by omega
      have x2 : (j : Int) < (RG.length : Int) := by omega
      have hmem : RG.getD j 0 ∈ RG := by rw [List.getD_eq_getElem?_getD, List.getElem?_eq_getElem hlt]; exact List.getElem_mem hlt
      have hgl : RG.getD j 0 < r.L.length := HGD.out.2 _ hmem
      have HFL : Hid ((blkAt r (RG.getD j 0)).F.length ≤ maxLen) := by have := (HR.out.tag _ _ (blkAt_some hgl)).2.2; show _ ≤ _; unfold maxLen; omega
      have HRN : Hid (∀ q, q < (blkAt r (RG.getD j 0)).F.length → -1 ≤ (nodeF s r RG (blkAt r (RG.getD j 0)) q).1 ∧ (nodeF s r RG (blkAt r (RG.getD j 0)) q).1 ≤ 1000000 ∧ 0 ≤ (nodeF s r RG (blkAt r (RG.getD j 0)) q).2.2 ∧ (nodeF s r RG (blkAt r (RG.getD j 0)) q).2.2 ≤ 18446744073709551615) := fun q _ => by
        obtain ⟨u0, u1⟩ := fieldRange hA3 HR.out hgl q
        exact nodeF_rng _ (by omega) _ u0 u1
      have HST : Hid ((blkAt r (RG.getD j 0)).tag = 202 → NoStrayTo s r RG (j + 1)) := fun h => noStrayTo_text HS.out h
      have HSS : Hid ((∀ q, q < (blkAt r (RG.getD j 0)).F.length → ¬ Stray (nodeF s r RG (blkAt r (RG.getD j 0)) q)) → NoStrayTo s r RG (j + 1)) := fun h => noStrayTo_step HS.out h
      clear hmem hgl HS
      generalize (fun q => nodeF s r RG (blkAt r (RG.getD j 0)) q) = N at *
      obtain ⟨tg, htg⟩ : ∃ tg, (blkAt r (RG.getD j 0)).tag = tg := ⟨_, rfl⟩
      obtain ⟨fl, hfl⟩ : ∃ fl, (blkAt r (RG.getD j 0)).F.length = fl := ⟨_, rfl⟩
      rw [htg] at t0 HST
      rw [hfl] at f0 HN HFL HRN HSS
      clear htg hfl
      by_cases ht : tg = 202
      · have HX : Hid (NoStrayTo s r RG (j + 1)) := HST.out ht
        rw [ht] at t0
        clear ht HST HSS HN HFL HRN f0
        go_wp2_with fail
        go_round
        case rel => exact ⟨j + 1, by omega, by go_num, HX⟩
        case measure => simp [intOf]; omega
      · have hne : (tg != 202) = true := by rw [bne_iff_ne]; exact ht
        clear ht HST
        go_wp2_with (go_at_call 19; refine (stray_any _ HN.out HFL.out HRN.out).mono ?_; rintro e w5 ⟨b5, rfl, hb5, hw5⟩; rw [hw5]; clear hw5 w5; have HB5 := hidden hb5; clear hb5; cases b5)
        · go_round
          case rel => exact ⟨j + 1, by omega, by go_num, HSS.out (by first | exact HB5.out rfl | exact HB5.out trivial)⟩
          case measure => simp [intOf]; omega
        · go_ret
          exact ⟨rfl, HB3.out⟩
    · have ej : j = RG.length := by omega
      have hnl : ¬ ((j : Int) < (RG.length : Int)) := by omega
      have HS2 : Hid (NoStrayTo s r RG RG.length) := by rw [← ej]; exact HS.out
      have HMX : Hid (M ≤ maxLen) := by show _ ≤ _; unfold maxLen; omega
      have HRF : Hid (∀ i, i < M → -1 ≤ (gNode s r RG (X i)).1 ∧ (gNode s r RG (X i)).1 ≤ 1000000 ∧ 0 ≤ (gNode s r RG (X i)).2.2 ∧ (gNode s r RG (X i)).2.2 ≤ 18446744073709551615) := fun i hi => gNode_rng _ (by omega) (HWLO.out i hi) (HWHI.out i hi)
      have HFI := hidden HGr.out.first
      clear ej HS hlt
      go_wp2_with (go_at_call 19; refine (stray_any _ HFI.out HMX.out HRF.out).mono ?_; rintro e w5 ⟨b5, rfl, hb5, hw5⟩; rw [hw5]; clear hw5 w5; have HB5 := hidden hb5; clear hb5; cases b5)
      · have HNS : Hid (NoStray s r (listX X M)) := by
          have hq := HRG.out
          refine nostray_of ?_ ?_
          · rw [hq]; intro i hi; exact (by first | exact HB5.out rfl | exact HB5.out trivial : ∀ i, i < M → ¬ Stray (gNode s r RG (X i))) i hi
          · rw [hq]; exact HS2.out
        clear HB5 HS2 HRF HFI
        refine (collect_any _ hA3 HR.out ws23 (by omega)).mono ?_
        rintro e w4 ⟨al4, c4, s4, rfl, ws4, f4, hA4, hR4, o4⟩
        have HB4 := hidden (HB3.out.trans (o4.under HB3.out.size l2 l3 l4))
        have HLO := hidden hA3.lo
        have HHI := hidden hA3.hi
        have n2 := hA4.n2; have t1 := hA4.t1; have t2 := hA4.t2; have b1 := hA4.b1
        have ht4 : s4.top ≤ 100000 := by omega
        have hbb4 : s4.base ≤ 32768 := by omega
        have HR4 := hidden hR4
        have HF4 : Hid (∀ ad, al4 = some ad → 0 < M → ¬ p.own ad.block) := by
          have i1 := lt_of_some hA3.hh
          have i2 := hA3.hc.lt
          have i3 := hA3.hb.lt
          intro ad had _ hs'
          have := f4 ad had
          rcases hs' with e | e | e <;> omega
        have HLO4 := hidden hA4.lo
        have HHI4 := hidden hA4.hi
        obtain ⟨K, hK⟩ : ∃ K, K = (collR s r (listX X M)).L.length := ⟨_, rfl⟩
        have hKl : K ≤ 32768 := by have := lenB_length' (collR s r (listX X M)).L; have := HR4.out.top; omega
        have HK := hidden hK
        clear f4 o4 ws23 hA3 HGr HB3 HOWN hR4 hK
        go_wp2_with (first | (go_at_call 21; refine (base_eq s4.base _ hA4 rfl).mono ?_; rintro e w' ⟨rfl, hw'⟩; rw [hw']; clear hw' w') | (go_at_call 22; refine (top_is (s4.top : Int) _ hA4 rfl).mono ?_; rintro e w' ⟨rfl, hw'⟩; rw [hw']; clear hw' w'))
        refine (blocks_any K _ hA4 HR4.out HK.out).mono ?_
        rintro e w5 ⟨ba, bc, rfl, u1, u2, b5⟩
        have hA5 := ar_below hA4 b5
        have HB5 := hidden (HB4.out.trans (b5.mono HB4.out.size))
        have ws5 : WS w5 ba K bc (blkW s4 (collR s r (listX X M))) := ws_any u1 u2 (fun i _ => blkW_lo s4 _ i) (fun i _ => blkW_hi hA5 HR4.out i)
        have HF5 : Hid (∀ ad, ba = some ad → 0 < K → ¬ p.own ad.block) := by
          have i1 := lt_of_some hA4.hh
          have i2 := hA4.hc.lt
          have i3 := hA4.hb.lt
          intro ad had _ hs'
          obtain ⟨g', rfl, hg', _⟩ := u2 ad had
          rcases hs' with e | e | e <;> simp at e <;> omega
        have ws45 := ws4.below b5
        clear u1 u2 b5 hA4 HB4 ws4
        go_wp2_with (go_at_call 21; refine (base_eq s4.base _ hA5 rfl).mono ?_; rintro e w' ⟨rfl, hw'⟩; rw [hw']; clear hw' w')
        refine (collect_any _ hA5 HR4.out ws45 (by omega)).mono ?_
        rintro e w6 ⟨al6, c6, s6, rfl, ws6, f6, hA6, hR6, o6⟩
        have HB6 := hidden (HB5.out.trans (o6.under HB5.out.size l2 l3 l4))
        have wx6 := ws45.frame0 o6 HF4.out
        have wb6 := ws5.frame0 o6 HF5.out
        have HF6 : Hid (∀ ad, al6 = some ad → 0 < M → ¬ p.own ad.block) := by
          have i1 := lt_of_some hA5.hh
          have i2 := hA5.hc.lt
          have i3 := hA5.hb.lt
          intro ad had _ hs'
          have := f6 ad had
          rcases hs' with e | e | e <;> omega
        have hlx : listX (fun i => collW s r (listX X M) (X i)) M = (listX X M).map (collW s r (listX X M)) := listX_map X M _
        rw [hlx] at hR6 ws6
        have HLX := hidden hlx
        have n26 := hA6.n2; have t16 := hA6.t1; have t26 := hA6.t2; have b16 := hA6.b1
        have ht6 : s6.top ≤ 100000 := by omega
        have hbb6 : s6.base ≤ 32768 := by omega
        have HTK : Hid (∀ k, lenB ((collR s4 (collR s r (listX X M)) ((listX X M).map (collW s r (listX X M)))).L.take k) = lenB ((collR s r (listX X M)).L.take k)) := fun k => again_take HR.out HLO.out HHI.out HR4.out ht4 HNS.out k
        have HK6 : Hid (K = (collR s4 (collR s r (listX X M)) ((listX X M).map (collW s r (listX X M)))).L.length) := by
          show _ = _
          rw [collR_len, HK.out, collR_len]
          have := again_reach HR.out HLO.out HHI.out HR4.out ht4 HNS.out
          have e2 : (listX X M).map (collW s r (listX X M)) = (listX X M).map (newW s r (otherB r) (reachG s r (listX X M))) := rfl
          rw [e2, this, List.length_range]
        have hTT : (s6.top : Int) - s6.base = (s4.top : Int) - s4.base := by
          have e1 := hR6.top
          have e2 := HR4.out.top
          have e3 := HTK.out K
          rw [HK6.out, List.take_length, ← HK6.out, HK.out, List.take_length] at e3
          omega
        have HTH : Hid (∀ i, i < M → collW s6 (collR s4 (collR s r (listX X M)) ((listX X M).map (collW s r (listX X M)))) (((listX X M).map (collW s r (listX X M))).map (collW s4 (collR s r (listX X M)) ((listX X M).map (collW s r (listX X M))))) (collW s4 (collR s r (listX X M)) ((listX X M).map (collW s r (listX X M))) (collW s r (listX X M) (X i))) = collW s r (listX X M) (X i)) := fun i hi => thrice HR.out HLO.out HHI.out HR4.out ht4 HLO4.out HHI4.out hR6 ht6 HNS.out (listX_mem hi)
        have HR6 := hidden hR6
        clear hR6 f6 o6 ws45 ws5 hA5 HB5 HF5 hlx HNS HLO HHI
        go_wp2_with fail
        refine (blocks_any K _ hA6 HR6.out HK6.out).mono ?_
        rintro e w7 ⟨ba7, bc7, rfl, u1, u2, b7⟩
        have hA7 := ar_below hA6 b7
        have HB7 := hidden (HB6.out.trans (b7.mono HB6.out.size))
        have ws7 : WS w7 ba7 K bc7 (blkW s6 (collR s4 (collR s r (listX X M)) ((listX X M).map (collW s r (listX X M))))) := ws_any u1 u2 (fun i _ => blkW_lo s6 _ i) (fun i _ => blkW_hi hA7 HR6.out i)
        have wx7 := wx6.below b7
        have wb7 := wb6.below b7
        have wy7 := ws6.below b7
        clear u1 u2 b7 hA6 HB6 wx6 wb6 ws6
        have hTn : (((s6.top : Int) - s6.base) != ((s4.top : Int) - s4.base)) = false := by rw [hTT]; exact bne_self_eq_false _
        have HBW : Hid (∀ k, blkW s6 (collR s4 (collR s r (listX X M)) ((listX X M).map (collW s r (listX X M)))) k - 2 * (s6.base : Int) = blkW s4 (collR s r (listX X M)) k - 2 * (s4.base : Int)) := fun k => by
          have := HTK.out k
          unfold blkW
          omega
        have HUB : Hid (∀ k, blkW s6 (collR s4 (collR s r (listX X M)) ((listX X M).map (collW s r (listX X M)))) k ≤ 200000 ∧ blkW s4 (collR s r (listX X M)) k ≤ 200000) := fun k => by
          have e1 := lenB_take_all (collR s4 (collR s r (listX X M)) ((listX X M).map (collW s r (listX X M)))).L k
          have e2 := lenB_take_all (collR s r (listX X M)).L k
          have e3 := HR6.out.top
          have e4 := HR4.out.top
          unfold blkW
          omega
        have HXL : Hid (∀ i, i < M → 0 ≤ collW s r (listX X M) (X i) ∧ collW s r (listX X M) (X i) ≤ 18446744073709551615) := fun i hi => ⟨wx7.lo i hi, wx7.hi i hi⟩
        obtain ⟨r6, hr6⟩ : ∃ r6, r6 = collR s4 (collR s r (listX X M)) ((listX X M).map (collW s r (listX X M))) := ⟨_, rfl⟩
        rw [← hr6] at HR6 HK6 ws7 HBW HUB HTH
        obtain ⟨X2, hX2⟩ : ∃ X2 : Nat → Int, X2 = fun i => collW s4 (collR s r (listX X M)) ((listX X M).map (collW s r (listX X M))) (collW s r (listX X M) (X i)) := ⟨_, rfl⟩
        rw [← hX2] at wy7
        have HZ : Hid (∀ i, i < M → collW s6 r6 (listX X2 M) (X2 i) = collW s r (listX X M) (X i)) := fun i hi => by
          have e1 : listX X2 M = ((listX X M).map (collW s r (listX X M))).map (collW s4 (collR s r (listX X M)) ((listX X M).map (collW s r (listX X M)))) := by
            rw [hX2]
            have := listX_map (fun i => collW s r (listX X M) (X i)) M (collW s4 (collR s r (listX X M)) ((listX X M).map (collW s r (listX X M))))
            rw [HLX.out] at this
            exact this
          rw [e1]
          have := HTH.out i hi
          rw [hX2]
          exact this
        obtain ⟨X1, hX1⟩ : ∃ X1 : Nat → Int, X1 = fun i => collW s r (listX X M) (X i) := ⟨_, rfl⟩
        rw [← hX1] at wx7
        have HZ1 : Hid (∀ i, i < M → X1 i = collW s6 r6 (listX X2 M) (X2 i)) := fun i hi => by rw [hX1]; exact (HZ.out i hi).symm
        generalize blkW s6 r6 = CW at *
        generalize blkW s4 (collR s r (listX X M)) = BW at *
        clear HTH HLX HTK HK6 HK HR4 HR HRG HGD hX1 hX2 hr6 HZ HWLO HWHI hlen HLO4 HHI4
        go_wp2_with (first | (go_at_call 21; refine (base_eq s6.base _ hA7 rfl).mono ?_; rintro e w' ⟨rfl, hw'⟩; rw [hw']; clear hw' w') | (go_at_call 22; refine (top_is (s6.top : Int) _ hA7 rfl).mono ?_; rintro e w' ⟨rfl, hw'⟩; rw [hw']; clear hw' w'))
        go_loopw [110] (fun i wr => ∃ j k : Nat, j ≤ K ∧ i = .int .i64 j ∧ wr = w7.drewN k) (fun i _ => K - (intOf i).toNat)
        case atStart => exact ⟨0, 0, Nat.zero_le _, rfl, rfl⟩
        case round =>
          obtain ⟨j', k', hj', rfl, hw⟩ := hrel
          have HW : Hid _ := hw
          have hA8 : Ar wr p s6 := by rw [hw]; exact hA7.drewN k'
          by_cases hlt : j' < K
          · obtain ⟨x, rfl, hx⟩ := ws7.cell j' hlt
            obtain ⟨y, rfl, hy⟩ := wb7.cell j' hlt
            have hx' : wr.cell? (x.add j') = some (.int .u64 (CW j')) := by rw [hw]; exact hx
            have hy' : wr.cell? (y.add j') = some (.int .u64 (BW j')) := by rw [hw]; exact hy
            have q0 := ws7.lo j' hlt
            have q1 := wb7.lo j' hlt
            obtain ⟨q2, q3⟩ := HUB.out j'
            have q4 := HBW.out j'
            have x1 : (0 : Int) ≤ (j' : Int) := by omega
            have x2 : (j' : Int) < (K : Int) := by omega
            generalize CW j' = cI at *
            generalize BW j' = bI at *
            have w1 := wrapId cI (by omega) (by omega)
            have w2 := wrapId bI (by omega) (by omega)
            have w3 := wrapId (2 * (s6.base : Int)) (by omega) (by omega)
            have w4 := wrapId (2 * (s4.base : Int)) (by omega) (by omega)
            have w5 := wrapId (cI - 2 * (s6.base : Int)) (by omega) (by omega)
            have w6' := wrapId (bI - 2 * (s4.base : Int)) (by omega) (by omega)
            have hne : ((cI - 2 * (s6.base : Int)) != (bI - 2 * (s4.base : Int))) = false := by rw [q4]; exact bne_self_eq_false _
            clear hw hx hy q4
            go_wp2_with fail
            go_quiet ((go_at_call 21; exact Calls.quiet_of_same (base_eq s6.base _ (hA8.drewN _) rfl)))
            go_wp2_with fail
            go_roundw
            case rel => exact ⟨j' + 1, _, by omega, by go_num, by rw [HW.out]; exact World.drewN_drewN _ _ _⟩
            case measure => simp [intOf]; omega
          · have hnl : ¬ ((j' : Int) < (K : Int)) := by omega
            have wy8 : WS wr al6 M c6 X2 := ws_drew hw wy7
            have wx8 : WS wr al4 M c4 X1 := ws_drew hw wx7
            have HB8 : Hid (Below w.heap.size w wr) := by rw [hw]; exact below_drewN HB7.out k'
            clear hw hlt ws7 wb7 hA7
            go_wp2_with fail
            refine (collect_any _ hA8 HR6.out wy8 (by omega)).mono ?_
            rintro e w9 ⟨al9, c9, s9, rfl, ws9, f9, hA9, hR9, o9⟩
            have wx9 := wx8.frame0 o9 HF4.out
            have HB9 := hidden (HB8.out.trans (o9.under HB8.out.size l2 l3 l4))
            clear f9 o9 hR9 wx8 wy8
            go_wp2_with (go_at_call 13; refine (equal_yes _ wx9 ws9 HMX.out HZ1.out).mono ?_; rintro e w10 ⟨rfl, k10, hw10⟩; have HB10 := hidden (below_is2 HB9.out hw10); clear hw10)
            go_ret
            exact ⟨rfl, HB10.out⟩
      · go_ret
        exact ⟨rfl, HB3.out⟩
end Go.Proofs.Ytkgocnmeedkieaa
