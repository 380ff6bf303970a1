/-
  CopierOrder: whatever number of cells, blocks and roots are handed to it, the call returns true and writes nothing that was there. Condition: the slices lie in memory.
-/
import Derived.Test.YtkgocnmeedkieaaFreesLaw
import Derived.Test.YtkgocnmeedkieaaPlainOrder
namespace Go.Proofs.Ytkgocnmeedkieaa
open Go.ChangeShapes Go.WideShapes Go.ChangeAt Go.RowKit Go.Deep
set_option linter.unusedVariables false
set_option maxHeartbeats 2000000

theorem order_no (n : Int) (al : Option Addr) (ll cl : Nat) (rl : Option Addr) (rm rc : Nat) (w : World) (h : n < 2 ∨ 32768 < n) :
    Calls Try.prog 8 #[.int .i64 n, .slice al ll cl, .slice rl rm rc] w fun e w' => e = .returned (.bool true) ∧ Below w.heap.size w w' := by
  by_cases c : n < 2
  · go_enter Try.func8, Try.ntmps8
    go_wp2_with (first | (go_at_call 9; refine (awake3_any _).mono ?_; rintro e w0 ⟨rfl, b0⟩) | (go_at_call 10; refine (lay_no n al ll cl _ h).mono ?_; rintro e w' ⟨rfl, hw'⟩; rw [hw']; clear hw' w'))
    all_goals go_ret
    all_goals exact ⟨rfl, b0⟩
  · have c2 : 32768 < n := by omega
    have H : Hid _ := h
    clear h
    go_enter Try.func8, Try.ntmps8
    go_wp2_with (first | (go_at_call 9; refine (awake3_any _).mono ?_; rintro e w0 ⟨rfl, b0⟩) | (go_at_call 10; refine (lay_no n al ll cl _ H.out).mono ?_; rintro e w' ⟨rfl, hw'⟩; rw [hw']; clear hw' w'))
    all_goals go_ret
    all_goals exact ⟨rfl, b0⟩
theorem addr_add (g q : Nat) : (Addr.mk g 0 none).add q = ⟨g, q, none⟩ := by
  cases q with
  | zero => rfl
  | succ q => simp [Addr.add]
/-- A root, or a word of one of the first k that were met, leads to block i0. -/
def NearL (s : St) (r : RS) (X : Nat → Int) (M : Nat) (G : List Nat) (i0 k : Nat) : Prop := (∃ x, x ∈ listX X M ∧ leadI s r x = some i0) ∨ ∃ k' g, k' < k ∧ G[k']? = some g ∧ ∃ x, x ∈ wordsOf (blkAt r g) ∧ leadI s r x = some i0
theorem near_next {s : St} {r : RS} {X : Nat → Int} {M : Nat} {G : List Nat} {i0 k gk : Nat} (hk : G[k]? = some gk) (h : NearL s r X M G i0 (k + 1)) : NearL s r X M G i0 k ∨ ((blkAt r gk).tag ≠ 202 ∧ ∃ j, j < (blkAt r gk).F.length ∧ leadI s r ((blkAt r gk).F.getD j 0) = some i0) := by
  rcases h with h | ⟨k', g, hk', hg, x, hx, hl⟩
  · exact Or.inl (Or.inl h)
  · by_cases e : k' < k
    · exact Or.inl (Or.inr ⟨k', g, e, hg, x, hx, hl⟩)
    · have e2 : k' = k := by omega
      subst e2
      rw [hk] at hg
      cases hg
      right
      unfold wordsOf at hx
      split at hx
      · cases hx
      · rename_i ht
        refine ⟨ht, ?_⟩
        obtain ⟨j, hj, e3⟩ := List.getElem_of_mem hx
        exact ⟨j, hj, by rw [List.getD_eq_getElem?_getD, List.getElem?_eq_getElem hj]; show leadI s r (blkAt r gk).F[j] = _; rw [e3]; exact hl⟩
theorem near_ne {r : RS} {G : List Nat} {gk i0 k i : Nat} (h : GoodG r G) (hk : G[k]? = some gk) (hi : G[i]? = some i0) (hki : k < i) (e : gk = i0) : False := by
  subst e
  obtain ⟨h1, e1⟩ := List.getElem?_eq_some_iff.1 hk
  obtain ⟨h2, e2⟩ := List.getElem?_eq_some_iff.1 hi
  exact (List.pairwise_iff_getElem.1 h.1 k i h1 h2 hki) (e1.trans e2.symm)
theorem ar_drew {w w' : World} {p : Pl} {s : St} {m : Nat} (e : w' = w.drewN m) (h : Ar w p s) : Ar w' p s := by rw [e]; exact h.drewN m
theorem cell_drew {w w' : World} {a : Addr} {v : Value} {m : Nat} (e : w' = w.drewN m) (h : w.cell? a = some v) : w'.cell? a = some v := by rw [e]; exact h
theorem drew_chain {w w' w'' : World} {a b : Nat} (e : w' = w.drewN a) (f : w'' = w'.drewN b) : w'' = w.drewN (a + b) := by rw [f, e]; exact World.drewN_drewN _ _ _
theorem cell_at {w w' : World} {a : Addr} {v : Value} {n : Nat} (e : w' = w.drewN n) (h : (w.drewN n).cell? a = some v) : w'.cell? a = some v := by rw [e]; exact h
set_option maxRecDepth 100000 in
theorem order_yes (n : Int) (al : Option Addr) (ll cl : Nat) (I : Nat → BI) (rl : Option Addr) (rm rc : Nat) (Z : Nat → Int) (w : World) (h1 : 2 ≤ n) (h2 : n ≤ 32768) (hl : ll ≤ maxLen) (hI : BlocksIn w w.heap.size al ll I) (hZ : WS w rl rm rc Z) (hrm : rm ≤ maxLen) :
    Calls Try.prog 8 #[.int .i64 n, .slice al ll cl, .slice rl rm rc] w fun e w' => e = .returned (.bool true) ∧ Below w.heap.size w w' := by
  have HI : Hid _ := hI
  have HZ : Hid _ := hZ
  have HL : Hid _ := hl
  have HRM : Hid _ := hrm
  clear hI hZ hl hrm
  go_enter Try.func8, Try.ntmps8
  go_wp2_with fail
  refine (awake3_any _).mono ?_
  rintro e w0 ⟨rfl, b0⟩
  go_wp2_with fail
  refine (lay_yes n al ll cl I _ h1 h2 HL.out (BlocksIn.mono (BlocksIn.below (Bd := w.heap.size) HI.out b0) b0.size)).mono ?_
  rintro e w1 ⟨p, rb, r, a, cap, V, rfl, h3, b1, j1, j2, j3, j4, j5⟩
  have hs0 := b0.size
  have hA := h3.ar
  have HR : Hid _ := h3.bo.rep
  have hB := b0.trans (b1.mono hs0)
  have l2 : w.heap.size ≤ p.h := by omega
  have l3 : w.heap.size ≤ p.c := by omega
  have l4 : w.heap.size ≤ p.b := by omega
  have HZ1 : Hid (WS w1 rl rm rc Z) := HZ.out.below hB
  have HLO : Hid _ := HZ.out.lo
  have HHI : Hid _ := HZ.out.hi
  clear h3 b0 b1 j1 j2 j3 j4 j5 hs0 HZ HI l2 l3 l4
  generalize layB n.toNat (min ll 60) I (min ll 60) = s at *
  obtain ⟨mb, hmb⟩ : ∃ mb, mb = r.L.length := ⟨_, rfl⟩
  have HMB : Hid _ := hmb
  clear hmb
  go_wp2_with fail
  refine (words_any mb _ hA HR.out HMB.out HZ1.out HRM.out).mono ?_
  rintro e w2 ⟨g, cg, rfl, own2, hg2, b2⟩
  have hA2 := ar_below hA b2
  have hB2 := hB.trans (b2.mono hB.size)
  have ws2 := rng_words (c := cg) HLO.out HHI.out own2
  have hM : min rm 60 ≤ 60 := by omega
  clear hA hB b2 own2 HZ1 HLO HHI HRM HL HMB
  generalize (fun i => wordV (Z i) mb (blkW s r)) = X at ws2
  generalize min rm 60 = M at *
  go_wp2_with fail
  refine (reach_any _ hA2 HR.out ws2 (by omega)).mono ?_
  rintro e w3 ⟨al3, c3, rfl, ws3, f3, b3⟩
  have hA3 := ar_below hA2 b3
  have hB3 := hB2.trans (b3.mono hB2.size)
  have ws23 := ws2.below b3
  have hGood := hidden (reach_good HR.out (listX X M))
  have hOri := hidden (reach_origin s r (listX X M))
  clear f3 b3 ws2 hA2 hB2
  generalize reachG s r (listX X M) = G at *
  obtain ⟨K, hK⟩ : ∃ K, K = G.length := ⟨_, rfl⟩
  have HK : Hid _ := hK
  rw [← hK] at ws3 ⊢
  have n2 := hA3.n2
  have b1 := hA3.b1
  have t2 := hA3.t2
  have hKl : K ≤ 32768 := by
    have := (goodG_len hGood.out).2
    have := lenB_length' r.L
    have := HR.out.top
    omega
  have HBLK : Hid (∀ i, i < K → ∃ i0, G[i]? = some i0 ∧ r.L[i0]? = some (blkAt r i0) ∧ blkAt r (G.getD i 0) = blkAt r i0) := by
    intro i hi
    have hl : i < G.length := by omega
    refine ⟨G[i], List.getElem?_eq_getElem hl, blkAt_some (hGood.out.2 _ (List.getElem_mem hl)), ?_⟩
    rw [List.getD_eq_getElem?_getD, List.getElem?_eq_getElem hl]
    rfl
  have HWS3 : Hid _ := ws3
  have HWS23 : Hid _ := ws23
  have htop : s.top ≤ 100000 := by omega
  clear hK ws3 ws23
  go_wp2_with fail
  go_loopw [51] (fun v wr => ∃ (i m : Nat), i ≤ K ∧ v = .int .i64 i ∧ wr = w3.drewN m) (fun v _ => K - (intOf v).toNat)
  case atStart => exact ⟨0, 0, Nat.zero_le _, rfl, rfl⟩
  case round =>
    obtain ⟨i, m, hi, rfl, hw⟩ := hrel
    have HW : Hid _ := hw
    clear hw
    by_cases hlt : i < K
    · obtain ⟨i0, g0, hb0, hg0⟩ := HBLK.out i hlt
      obtain ⟨x3, rfl, hx3⟩ := HWS3.out.cell i hlt
      rw [hg0] at hx3
      have HX3 : Hid (∀ m, (w3.drewN m).cell? (x3.add i) = some (.int .u64 (2 * ((blkAt r i0).ad : Int)))) := fun m => hx3
      have hin0 := HR.out.inside hb0
      have HG0 : Hid _ := g0
      have HB0 : Hid _ := hb0
      have y0 : 1 ≤ (blkAt r i0).ad := by omega
      have y1 : (blkAt r i0).ad ≤ 100000 := by omega
      have HAD : Hid (∀ gk, r.L[gk]? = some (blkAt r gk) → (blkAt r gk).ad = (blkAt r i0).ad → gk = i0) := fun gk hb e => HR.out.inj hb HB0.out e
      have HEQ : Hid (∀ x, leadI s r x = some i0 → 2 * (s.find x).1 = 2 * ((blkAt r i0).ad : Int)) := fun x e => by rw [lead_ad HR.out e]
      generalize (blkAt r i0).ad = A0 at *
      have x0 : (0 : Int) ≤ (i : Int) := by omega
      have x1 : (i : Int) < (K : Int) := by omega
      clear g0 hb0 hg0 hx3 hin0
      go_wp2_with fail
      go_loopw [13, 56] (fun fv v wr => ∃ (q m : Nat) (f : Bool), q ≤ M ∧ v = .int .i64 q ∧ fv = .bool f ∧ Hid ((∃ j, j < q ∧ leadI s r (X j) = some i0) → f = true) ∧ wr = w3.drewN m) (fun _ v _ => M - (intOf v).toNat)
      case atStart => exact ⟨0, m, false, Nat.zero_le _, rfl, rfl, fun ⟨j, hj, _⟩ => absurd hj (Nat.not_lt_zero _), HW.out⟩
      case round =>
        clear HW
        obtain ⟨q, m, f, hq, rfl, rfl, HF, hw⟩ := hrel
        have hA4 : Ar wr p s := by rw [hw]; exact hA3.drewN m
        by_cases hqM : q < M
        · obtain ⟨y, ey, hy⟩ := HWS23.out.cell q hqM
          cases ey
          have hy4 : wr.cell? ⟨g, q, none⟩ = some (.int .u64 (X q)) := by rw [hw, ← addr_add]; exact hy
          have z0 := HWS23.out.lo q hqM
          have z1 := HWS23.out.hi q hqM
          have HW : Hid _ := hw
          have HFQ : Hid (leadI s r (X q) = some i0 → 2 * (s.find (X q)).1 = 2 * (A0 : Int)) := HEQ.out (X q)
          have v0 : (0 : Int) ≤ (q : Int) := by omega
          have v1 : (q : Int) < (M : Int) := by omega
          obtain ⟨fr0, fr1⟩ := find_rng hA3 (X q)
          clear hw hy
          generalize hfd : s.find (X q) = fd at *
          obtain ⟨fq, dq⟩ := fd
          have HFD : Hid _ := hfd
          simp only at HFQ fr0 fr1
          clear hfd
          go_wp2_with fail
          refine (leads_at (X q) (2 * fq) dq _ hA4 z0 z1 (by rw [HFD.out]) (by rw [HFD.out])).mono ?_
          rintro e w4 ⟨rfl, m4, hw4⟩
          have HW4 : Hid (w4 = w3.drewN (m + m4)) := by show _ = _; rw [hw4, HW.out]; exact World.drewN_drewN _ _ _
          have hc4 : w4.cell? (x3.add i) = some (.int .u64 (2 * (A0 : Int))) := by rw [HW4.out]; exact HX3.out _
          clear hw4 hy4 hA4 HW
          cases f with
          | true =>
            go_wp2_with fail
            go_roundw
            case rel => exact ⟨q + 1, m + m4, true, by omega, by go_num, rfl, fun _ => rfl, HW4.out⟩
            case measure => simp [intOf]; omega
          | false =>
            go_wp2_with fail
            all_goals go_roundw
            all_goals first | exact ⟨q + 1, m + m4, _, by omega, by go_num, rfl, fun ⟨j, hj, hl⟩ => (by by_cases e : j < q; exact absurd (HF.out ⟨j, e, hl⟩) (by simp); have e2 : j = q := (by omega); subst e2; have := HFQ.out hl; simp [this]), HW4.out⟩ | (simp [intOf]; omega)
        · have HROOT : Hid ((∃ x, x ∈ listX X M ∧ leadI s r x = some i0) → f = true) := by
            rintro ⟨x, hx, hl⟩
            unfold listX at hx
            simp at hx
            obtain ⟨j, hj, rfl⟩ := hx
            exact HF.out ⟨j, by omega, hl⟩
          have HW : Hid _ := hw
          have HP0 : Hid ((NearL s r X M G i0 0) → f = true) := by
            rintro (h | ⟨k', g', hk', _⟩)
            · exact HROOT.out h
            · exact absurd hk' (Nat.not_lt_zero _)
          clear hw hA4 HF HROOT
          go_wp2_with fail
          go_loopw [13, 18] (fun fv v wr => ∃ (k m : Nat) (f : Bool), k ≤ i ∧ v = .int .i64 k ∧ fv = .bool f ∧ Hid (NearL s r X M G i0 k → f = true) ∧ wr = w3.drewN m) (fun _ v _ => i - (intOf v).toNat)
          case atStart => exact ⟨0, m, f, Nat.zero_le _, rfl, rfl, HP0, HW.out⟩
          case round =>
            clear HW HP0
            obtain ⟨k, m, f, hk, rfl, rfl, HF, hw⟩ := hrel
            have HW : Hid _ := hw
            clear hw
            by_cases hki : k < i
            · obtain ⟨gk, g1, hb1, hg1⟩ := HBLK.out k (by omega)
              obtain ⟨x4, ex4, hx4⟩ := HWS3.out.cell k (by omega)
              cases ex4
              rw [hg1] at hx4
              have HX4 : Hid (∀ m, (w3.drewN m).cell? (x3.add k) = some (.int .u64 (2 * ((blkAt r gk).ad : Int)))) := fun m => hx4
              have hin1 := HR.out.inside hb1
              have HSZ : Hid _ := (HR.out.word hb1 htop).2
              have HTG : Hid _ := HR.out.tagOf hb1 htop
              have HFL : Hid (∀ j, j < (blkAt r gk).F.length → s.get (2 * ((blkAt r gk).ad : Int)) j = (blkAt r gk).F.getD j 0 ∧ s.fieldE (2 * ((blkAt r gk).ad : Int)) j = 0) := fun j hj => HR.out.fieldOf hb1 htop hj
              have HFR : Hid (∀ j, j < (blkAt r gk).F.length → 0 ≤ (blkAt r gk).F.getD j 0 ∧ (blkAt r gk).F.getD j 0 ≤ 18446744073709551615) := fun j hj => by
                have e := HR.out.fld gk _ hb1 j _ (List.getElem?_eq_getElem hj)
                rw [List.getD_eq_getElem?_getD, List.getElem?_eq_getElem hj]
                show 0 ≤ (blkAt r gk).F[j] ∧ (blkAt r gk).F[j] ≤ _
                rw [← e]
                exact ⟨hA3.lo _, hA3.hi _⟩
              have hfl := (HR.out.tag gk _ hb1).2.2
              have NE : ((2 * ((blkAt r gk).ad : Int)) == 2 * (A0 : Int)) = false := by
                rw [beq_eq_false_iff_ne]
                intro e
                have e2 := HAD.out gk hb1 (by omega)
                exact near_ne hGood.out g1 HG0.out hki e2
              have HNX : Hid (∀ f', (NearL s r X M G i0 k ∨ ((blkAt r gk).tag ≠ 202 ∧ ∃ j, j < (blkAt r gk).F.length ∧ leadI s r ((blkAt r gk).F.getD j 0) = some i0) → f' = true) → (NearL s r X M G i0 (k + 1) → f' = true)) := fun f' h hn => h (near_next g1 hn)
              have y2 : 1 ≤ (blkAt r gk).ad := by omega
              have y3 : (blkAt r gk).ad ≤ 100000 := by omega
              have k0 : (0 : Int) ≤ (k : Int) := by omega
              have k1 : (k : Int) < (K : Int) := by omega
              clear g1 hb1 hg1 hx4 hin1
              generalize blkAt r gk = bk at *
              obtain ⟨Ak, tk, Fk⟩ := bk
              simp only at HX4 HSZ HTG HFL HFR hfl NE HNX y2 y3
              generalize hnk : NearL s r X M G i0 k = NK at *
              clear hnk
              go_wp2_with fail
              go_loopw [13, 19] (fun fv v wr => ∃ (j m : Nat) (f : Bool), j ≤ Fk.length ∧ v = .int .i64 j ∧ fv = .bool f ∧ Hid (NK ∨ (tk ≠ 202 ∧ ∃ j', j' < j ∧ leadI s r (Fk.getD j' 0) = some i0) → f = true) ∧ wr = w3.drewN m) (fun _ v _ => Fk.length - (intOf v).toNat)
              case atStart => exact ⟨0, m, f, Nat.zero_le _, rfl, rfl, fun h => (by rcases h with h | ⟨_, j, hj, _⟩; exact HF.out h; exact absurd hj (Nat.not_lt_zero _)), HW.out⟩
              case round =>
                clear HW HF
                obtain ⟨j, m, f, hj, rfl, rfl, HF, hw⟩ := hrel
                have hA4 : Ar wr p s := by rw [hw]; exact hA3.drewN m
                have hc4 : wr.cell? (x3.add k) = some (.int .u64 (2 * (Ak : Int))) := by rw [hw]; exact HX4.out m
                have HW : Hid _ := hw
                clear hw
                by_cases hjl : j < Fk.length
                · by_cases ht : tk = 202
                  · have T1 : (tk != 202) = false := by rw [ht]; rfl
                    have HEND : Hid (NK ∨ (tk ≠ 202 ∧ ∃ j, j < Fk.length ∧ leadI s r (Fk.getD j 0) = some i0) → f = true) := by
                      rintro (h | ⟨h, _⟩)
                      · exact HF.out (Or.inl h)
                      · exact absurd ht h
                    clear ht HF
                    go_wp2_with (first | (go_at_call 25; refine (size_is (2 * (Ak : Int)) (Fk.length : Int) _ hA4 (by omega) (by omega) HSZ.out).mono ?_; rintro e w5 ⟨rfl, m5, hw5⟩; have hA5 := ar_drew hw5 hA4; have hc5 := cell_drew hw5 hc4; have HW5 := hidden hw5; clear hw5) | (go_at_call 27; refine (tag_is (2 * (Ak : Int)) tk _ hA5 (by omega) (by omega) HTG.out).mono ?_; rintro e w6 ⟨rfl, m6, hw6⟩; have hc6 := cell_drew hw6 hc5; have HW6 := hidden hw6; clear hw6))
                    have HW7 : Hid (w6 = w3.drewN (m + m5 + m6)) := drew_chain (drew_chain HW.out HW5.out) HW6.out
                    have hc7 : w6.cell? (x3.add i) = some (.int .u64 (2 * (A0 : Int))) := by rw [HW7.out]; exact HX3.out _
                    clear HW HW5 HW6 hA4 hA5 hc4 hc5
                    go_quiet (fail)
                    go_wp2_with fail
                    go_roundw
                    case rel => exact ⟨k + 1, _, f, by omega, by go_num, rfl, HNX.out f HEND.out, by rw [HW7.out]; exact World.drewN_drewN _ _ _⟩
                    case measure => simp [intOf]; omega
                  · have T1 : (tk != 202) = true := by rw [bne_iff_ne]; exact ht
                    obtain ⟨gt, ge⟩ := HFL.out j hjl
                    obtain ⟨fr2, fr3⟩ := HFR.out j hjl
                    have HGT : Hid _ := gt
                    have HGE : Hid _ := ge
                    have HT : Hid _ := ht
                    have HFQ : Hid (leadI s r (Fk.getD j 0) = some i0 → 2 * (s.find (Fk.getD j 0)).1 = 2 * (A0 : Int)) := HEQ.out _
                    obtain ⟨fr0, fr1⟩ := find_rng hA3 (Fk.getD j 0)
                    have HLJ : Hid (∀ f' : Bool, (f = true → f' = true) → (leadI s r (Fk.getD j 0) = some i0 → f' = true) → (NK ∨ (tk ≠ 202 ∧ ∃ j', j' < j + 1 ∧ leadI s r (Fk.getD j' 0) = some i0) → f' = true)) := by
                      intro f' h1 h2 h3
                      rcases h3 with h3 | ⟨h3, j', hj', h4⟩
                      · exact h1 (HF.out (Or.inl h3))
                      · by_cases e : j' < j
                        · exact h1 (HF.out (Or.inr ⟨h3, j', e, h4⟩))
                        · have e2 : j' = j := by omega
                          subst e2; exact h2 h4
                    have HFIT : Hid s.Fits := HR.out.fits
                    clear gt ge ht HF
                    generalize hfd : s.find (Fk.getD j 0) = fd at *
                    obtain ⟨fq, dq⟩ := fd
                    have HFD : Hid _ := hfd
                    simp only at HFQ fr0 fr1
                    clear hfd
                    generalize Fk.getD j 0 = xj at *
                    have v0 : (0 : Int) ≤ (j : Int) := by omega
                    cases f
                    all_goals go_wp2_with (first | (go_at_call 25; refine (size_is (2 * (Ak : Int)) (Fk.length : Int) _ hA4 (by omega) (by omega) HSZ.out).mono ?_; rintro e w5 ⟨rfl, m5, hw5⟩; have hA5 := ar_drew hw5 hA4; have hc5 := cell_drew hw5 hc4; have HW5 := hidden hw5; clear hw5) | (go_at_call 27; refine (tag_is (2 * (Ak : Int)) tk _ hA5 (by omega) (by omega) HTG.out).mono ?_; rintro e w6 ⟨rfl, m6, hw6⟩; have hA6 := ar_drew hw6 hA5; have hc6 := cell_drew hw6 hc5; have HW6 := hidden hw6; clear hw6) | (go_at_call 28; refine (get_at (2 * (Ak : Int)) j xj 0 _ hA6 HFIT.out (by omega) (by omega) HGT.out HGE.out).mono ?_; rintro e w7 ⟨rfl, m7, hw7⟩; have hA7 := ar_drew hw7 hA6; have HW7 := hidden hw7; clear hw7) | (go_at_call 26; refine (leads_at xj (2 * fq) dq _ hA7 fr2 fr3 (by rw [HFD.out]) (by rw [HFD.out])).mono ?_; rintro e w8 ⟨rfl, m8, hw8⟩; have HW9 := hidden (drew_chain (drew_chain (drew_chain (drew_chain HW.out HW5.out) HW6.out) HW7.out) hw8); have hc8 := cell_at HW9.out (HX3.out _); clear hw8))
                    all_goals clear HW HW5 HW6 HW7 hA4 hA5 hA6 hA7 hc4 hc5 hc6
                    all_goals go_roundw
                    all_goals first | exact ⟨j + 1, _, true, by omega, by go_num, rfl, HLJ.out true (fun _ => rfl) (fun _ => rfl), HW9.out⟩ | exact ⟨j + 1, _, _, by omega, by go_num, rfl, HLJ.out _ (fun h => (by cases h)) (fun h => (by rw [HFQ.out h]; exact beq_self_eq_true _)), HW9.out⟩ | (simp [intOf]; omega)
                · have HEND : Hid (NK ∨ (tk ≠ 202 ∧ ∃ j, j < Fk.length ∧ leadI s r (Fk.getD j 0) = some i0) → f = true) := by
                    rintro (h | ⟨h, j', hj', h2⟩)
                    · exact HF.out (Or.inl h)
                    · exact HF.out (Or.inr ⟨h, j', by omega, h2⟩)
                  clear HF
                  go_wp2_with (first | (go_at_call 25; refine (size_is (2 * (Ak : Int)) (Fk.length : Int) _ hA4 (by omega) (by omega) HSZ.out).mono ?_; rintro e w5 ⟨rfl, m5, hw5⟩; have hc5 := cell_drew hw5 hc4; have HW5 := hidden hw5; clear hw5))
                  have HW7 : Hid (w5 = w3.drewN (m + m5)) := drew_chain HW.out HW5.out
                  have hc7 : w5.cell? (x3.add i) = some (.int .u64 (2 * (A0 : Int))) := by rw [HW7.out]; exact HX3.out _
                  clear HW HW5 hA4 hc4
                  go_quiet (fail)
                  go_wp2_with fail
                  go_roundw
                  case rel => exact ⟨k + 1, _, f, by omega, by go_num, rfl, HNX.out f HEND.out, by rw [HW7.out]; exact World.drewN_drewN _ _ _⟩
                  case measure => simp [intOf]; omega
            · have hf : f = true := HF.out (by
                have e : k = i := by omega
                subst e
                exact hOri.out k i0 HG0.out)
              subst hf
              go_wp2_with fail
              go_roundw
              case rel => exact ⟨i + 1, m, by omega, by go_num, HW.out⟩
              case measure => simp [intOf]; omega
    · have hb9 : Hid (Below w.heap.size w wr) := by rw [HW.out]; exact below_drewN hB3 m
      go_wp2_with fail
      go_ret
      exact ⟨rfl, hb9.out⟩
end Go.Proofs.Ytkgocnmeedkieaa
