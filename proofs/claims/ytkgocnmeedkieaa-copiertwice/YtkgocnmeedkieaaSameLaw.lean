/-
  What the graph tells of a word and of a block's fields is the same behind a collection. Plain; no program.
  CopierSame: whatever number of cells, blocks and roots are handed to it, the call returns true and writes nothing that was there. Condition: the slices lie in memory.
-/
import Derived.Test.YtkgocnmeedkieaaL3Graph
import Derived.Test.YtkgocnmeedkieaaFreesLaw
namespace Go.Proofs.Ytkgocnmeedkieaa
open Go.RowKit Go.Deep
set_option linter.unusedVariables false
variable {s s' : St} {r : RS} {xs : List Int}

theorem listX_map (X : Nat → Int) (m : Nat) (f : Int → Int) : listX (fun i => f (X i)) m = (listX X m).map f := by unfold listX; rw [List.map_map]; rfl
theorem listX_mem {X : Nat → Int} {m i : Nat} (hi : i < m) : X i ∈ listX X m := by unfold listX; exact List.mem_map.2 ⟨i, List.mem_range.2 hi, rfl⟩
theorem gNode_rng (G : List Nat) (hG : G.length ≤ 100000) {x : Int} (h0 : 0 ≤ x) (h1 : x ≤ 18446744073709551615) : -1 ≤ (gNode s r G x).1 ∧ (gNode s r G x).1 ≤ 1000000 ∧ 0 ≤ (gNode s r G x).2.2 ∧ (gNode s r G x).2.2 ≤ 18446744073709551615 := by
  cases e : leadI s r x with
  | none => rw [gNode_none e]; exact ⟨(by decide : (-1 : Int) ≤ -1), (by decide : (-1 : Int) ≤ 1000000), h0, h1⟩
  | some i =>
    rw [gNode_some e]
    have := List.idxOf_le_length (l := G) (a := i)
    refine ⟨?_, ?_, Int.le_refl _, (by decide : (0 : Int) ≤ 18446744073709551615)⟩
    · show -1 ≤ ((G.idxOf i : Nat) : Int); omega
    · show ((G.idxOf i : Nat) : Int) ≤ 1000000; omega
theorem nodeF_rng (G : List Nat) (hG : G.length ≤ 100000) (b : Blk) {k : Nat} (h0 : 0 ≤ b.F.getD k 0) (h1 : b.F.getD k 0 ≤ 18446744073709551615) : -1 ≤ (nodeF s r G b k).1 ∧ (nodeF s r G b k).1 ≤ 1000000 ∧ 0 ≤ (nodeF s r G b k).2.2 ∧ (nodeF s r G b k).2.2 ≤ 18446744073709551615 := by
  unfold nodeF
  split
  · exact ⟨(by decide : (-1 : Int) ≤ -1), (by decide : (-1 : Int) ≤ 1000000), h0, h1⟩
  · exact gNode_rng G hG h0 h1
theorem addr_zero {x : Int} (h : isIntW x = true ∨ x = 0) : addrW x = 0 := by
  unfold addrW
  rcases h with h | h
  · unfold isIntW at h
    rw [beq_iff_eq] at h
    rw [if_pos (Or.inl (by omega))]
  · subst h; decide
/-- If no node is stray, no word is. -/
theorem nostray_of {X : Nat → Int} {m : Nat} (hf : ∀ i, i < m → ¬ Stray (gNode s r (reachG s r (listX X m)) (X i)))
    (hb : ∀ k, k < (reachG s r (listX X m)).length → ¬ (blkAt r ((reachG s r (listX X m)).getD k 0)).tag = 202 → ∀ q, q < (blkAt r ((reachG s r (listX X m)).getD k 0)).F.length → ¬ Stray (nodeF s r (reachG s r (listX X m)) (blkAt r ((reachG s r (listX X m)).getD k 0)) q)) : NoStray s r (listX X m) := by
  have key : ∀ x, leadI s r x = none → ¬ Stray (gNode s r (reachG s r (listX X m)) x) → addrW x = 0 := fun x e hn => by
    rw [gNode_none e] at hn
    refine addr_zero ?_
    by_cases h1 : isIntW x = true
    · exact Or.inl h1
    · by_cases h2 : x = 0
      · exact Or.inr h2
      · exact absurd ⟨(by decide : (-1 : Int) < 0), by simpa using h1, h2⟩ hn
  intro x hx e
  rcases hx with hx | ⟨k, g, hk, hw⟩
  · unfold listX at hx
    obtain ⟨i, hi, rfl⟩ := List.mem_map.1 hx
    exact key _ e (hf i (List.mem_range.1 hi))
  · have hkl := (List.getElem?_eq_some_iff.1 hk).1
    have hg : (reachG s r (listX X m)).getD k 0 = g := by rw [List.getD_eq_getElem?_getD, hk]; rfl
    unfold wordsOf at hw
    by_cases ht : (blkAt r g).tag = 202
    · rw [if_pos ht] at hw; cases hw
    · rw [if_neg ht] at hw
      obtain ⟨q, hq⟩ := List.getElem?_of_mem hw
      have hql := (List.getElem?_eq_some_iff.1 hq).1
      have := hb k hkl (by rw [hg]; exact ht) q (by rw [hg]; exact hql)
      rw [hg] at this
      unfold nodeF at this
      rw [if_neg ht, List.getD_eq_getElem?_getD, hq] at this
      exact key x e this
/-- A block's fields are told alike. -/
theorem same_field (hr : Rep s r) (lo : ∀ i, 0 ≤ s.C i) (hi : ∀ i, s.C i ≤ 18446744073709551615) (hr' : Rep s' (collR s r xs)) (ht' : s'.top ≤ 100000) (hns : NoStray s r xs) {k : Nat} (hk : k < (reachG s r xs).length) {q : Nat} (hq : q < (blkAt r ((reachG s r xs).getD k 0)).F.length) :
    nodeF s' (collR s r xs) (List.range (reachG s r xs).length) (blkAt (collR s r xs) k) q = nodeF s r (reachG s r xs) (blkAt r ((reachG s r xs).getD k 0)) q := by
  obtain ⟨t1, _, t3⟩ := again_tag (s := s) (r := r) (xs := xs) hk
  unfold nodeF
  rw [t1, t3]
  by_cases ht : (blkAt r ((reachG s r xs).getD k 0)).tag = 202
  · rw [if_pos ht, if_pos ht, if_pos ht]
  · rw [if_neg ht, if_neg ht, if_neg ht]
    have e : ∀ F : List Int, q < F.length → (F.map (newW s r (otherB r) (reachG s r xs))).getD q 0 = newW s r (otherB r) (reachG s r xs) (F.getD q 0) ∧ F.getD q 0 ∈ F := fun F hF => by
      rw [List.getD_eq_getElem?_getD, List.getD_eq_getElem?_getD, List.getElem?_map, List.getElem?_eq_getElem hF]
      exact ⟨rfl, List.getElem_mem hF⟩
    rw [(e _ hq).1]
    refine again_node hr lo hi hr' ht' hns (Or.inr ⟨k, (reachG s r xs).getD k 0, ?_, ?_⟩)
    · rw [List.getD_eq_getElem?_getD, List.getElem?_eq_getElem hk]; rfl
    · unfold wordsOf
      rw [if_neg ht]
      exact (e _ hq).2
end Go.Proofs.Ytkgocnmeedkieaa

namespace Go.Proofs.Ytkgocnmeedkieaa
open Go.ChangeShapes Go.WideShapes Go.ChangeAt Go.RowKit Go.Deep
set_option linter.unusedVariables false
set_option maxHeartbeats 2000000

theorem same_no (n : Int) (al : Option Addr) (ll cl : Nat) (rl : Option Addr) (rm rc : Nat) (w : World) (h : n < 2 ∨ 32768 < n) :
    Calls Try.prog 5 #[.int .i64 n, .slice al ll cl, .slice rl rm rc] w fun e w' => e = .returned (.bool true) ∧ Below w.heap.size w w' := by
  by_cases c : n < 2
  · go_enter Try.func5, Try.ntmps5
    go_wp2_with (first | (go_at_call 9; refine (awake3_any _).mono ?_; rintro e w0 ⟨rfl, b0⟩) | (go_at_call 10; refine (lay_no n al ll cl _ h).mono ?_; rintro e w' ⟨rfl, hw'⟩; rw [hw']; clear hw' w'))
    all_goals go_ret
    all_goals exact ⟨rfl, b0⟩
  · have c2 : 32768 < n := by omega
    have H : Hid _ := h
    clear h
    go_enter Try.func5, Try.ntmps5
    go_wp2_with (first | (go_at_call 9; refine (awake3_any _).mono ?_; rintro e w0 ⟨rfl, b0⟩) | (go_at_call 10; refine (lay_no n al ll cl _ H.out).mono ?_; rintro e w' ⟨rfl, hw'⟩; rw [hw']; clear hw' w'))
    all_goals go_ret
    all_goals exact ⟨rfl, b0⟩
theorem gr_lens {w : World} {B m nt n gf gt ct gl cl : Nat} {s : St} {r : RS} {RG : List Nat} {X : Nat → Int} {hs cs : Nat → Nat} (h : Gr w B s r RG X m nt n gf gt ct gl cl hs cs) {k : Nat} (hk : k < nt) : w.cell? ⟨gt, k, none⟩ = some (.int .i64 (blkAt r (RG.getD k 0)).tag) := rowV_cell h.tags hk
theorem gr_flds {w : World} {B m nt n gf gt ct gl cl : Nat} {s : St} {r : RS} {RG : List Nat} {X : Nat → Int} {hs cs : Nat → Nat} (h : Gr w B s r RG X m nt n gf gt ct gl cl hs cs) {k : Nat} (hk : k < n) : w.cell? ⟨gl, k, none⟩ = some (.slice (some ⟨hs k, 0, none⟩) (blkAt r (RG.getD k 0)).F.length (cs k)) := rowV_cell h.flds hk
/-- What the law's first loop has looked at. -/
def NoStrayTo (s : St) (r : RS) (RG : List Nat) (j : Nat) : Prop := ∀ k, k < j → ¬ (blkAt r (RG.getD k 0)).tag = 202 → ∀ q, q < (blkAt r (RG.getD k 0)).F.length → ¬ Stray (nodeF s r RG (blkAt r (RG.getD k 0)) q)
theorem noStrayTo_text {s : St} {r : RS} {RG : List Nat} {j : Nat} (h : NoStrayTo s r RG j) (ht : (blkAt r (RG.getD j 0)).tag = 202) : NoStrayTo s r RG (j + 1) := fun k hk hn => by
  by_cases e : k < j
  · exact h k e hn
  · have : k = j := by omega
    subst this; exact absurd ht hn
theorem noStrayTo_step {s : St} {r : RS} {RG : List Nat} {j : Nat} (h : NoStrayTo s r RG j) (hj : ∀ q, q < (blkAt r (RG.getD j 0)).F.length → ¬ Stray (nodeF s r RG (blkAt r (RG.getD j 0)) q)) : NoStrayTo s r RG (j + 1) := fun k hk hn => by
  by_cases e : k < j
  · exact h k e hn
  · have : k = j := by omega
    subst this; exact hj
set_option maxRecDepth 100000 in
theorem same_yes (n : Int) (al : Option Addr) (ll cl : Nat) (I : Nat → BI) (rl : Option Addr) (rm rc : Nat) (Z : Nat → Int) (w : World) (h1 : 2 ≤ n) (h2 : n ≤ 32768) (hl : ll ≤ maxLen) (hI : BlocksIn w w.heap.size al ll I) (hZ : WS w rl rm rc Z) (hrm : rm ≤ maxLen) :
    Calls Try.prog 5 #[.int .i64 n, .slice al ll cl, .slice rl rm rc] w fun e w' => e = .returned (.bool true) ∧ Below w.heap.size w w' := by
  have HI : Hid _ := hI
  have HZ : Hid _ := hZ
  have HL : Hid _ := hl
  have HRM : Hid _ := hrm
  clear hI hZ hl hrm
  go_enter Try.func5, Try.ntmps5
  go_wp2_with fail
  refine (awake3_any _).mono ?_
  rintro e w0 ⟨rfl, b0⟩
  go_wp2_with fail
  refine (lay_yes n al ll cl I _ h1 h2 HL.out (BlocksIn.mono (BlocksIn.below (Bd := w.heap.size) HI.out b0) b0.size)).mono ?_
  rintro e w1 ⟨p, rb, r, a, cap, V, rfl, h3, b1, j1, j2, j3, j4, j5⟩
  have hs0 := b0.size
  have hA := h3.ar
  have HR : Hid _ := h3.bo.rep
  have hB := b0.trans (b1.mono hs0)
  have l2 : w.heap.size ≤ p.h := by omega
  have l3 : w.heap.size ≤ p.c := by omega
  have l4 : w.heap.size ≤ p.b := by omega
  have HZ1 : Hid (WS w1 rl rm rc Z) := HZ.out.below hB
  have HLO : Hid _ := HZ.out.lo
  have HHI : Hid _ := HZ.out.hi
  clear h3 b0 b1 j1 j2 j3 j4 j5 hs0 HZ HI
  generalize layB n.toNat (min ll 60) I (min ll 60) = s at *
  obtain ⟨mb, hmb⟩ : ∃ mb, mb = r.L.length := ⟨_, rfl⟩
  have HMB : Hid _ := hmb
  clear hmb
  go_wp2_with fail
  refine (words_any mb _ hA HR.out HMB.out HZ1.out HRM.out).mono ?_
  rintro e w2 ⟨g, cg, rfl, own2, hg2, b2⟩
  have hA2 := ar_below hA b2
  have hB2 := hB.trans (b2.mono hB.size)
  have ws2 := rng_words (c := cg) HLO.out HHI.out own2
  have hM : min rm 60 ≤ 60 := by omega
  clear hA hB b2 own2 HZ1 HLO HHI HRM HL HMB
  generalize (fun i => wordV (Z i) mb (blkW s r)) = X at ws2
  generalize min rm 60 = M at *
  go_wp2_with fail
  refine (graph_any _ hA2 HR.out ws2 (by omega)).mono ?_
  rintro e w3 ⟨gf, cf, gt, ct, gl, cl', hs, cs, rfl, hGr, b3⟩
  have hA3 := ar_below hA2 b3
  have hB3 := hB2.trans (b3.mono hB2.size)
  have ws23 := ws2.below b3
  have HOWN : Hid (∀ q, w2.heap.size ≤ q → ¬ p.own q) := by
    have i1 := lt_of_some hA2.hh
    have i2 := hA2.hc.lt
    have i3 := hA2.hb.lt
    intro q hq hs'
    rcases hs' with e | e | e <;> omega
  have HWLO : Hid _ := ws2.lo
  have HWHI : Hid _ := ws2.hi
  have hlen : (reachG s r (listX X M)).length ≤ 32768 := by
    have n2 := hA2.n2; have t2 := hA2.t2; have htop := HR.out.top; have := lenB_length' r.L
    have := reach_len HR.out (listX X M)
    omega
  have HGD : Hid (GoodG r (reachG s r (listX X M))) := reach_good HR.out (listX X M)
  obtain ⟨RG, hRG⟩ : ∃ RG, reachG s r (listX X M) = RG := ⟨_, rfl⟩
  rw [hRG] at hGr hlen HGD ⊢
  have HRG := hidden hRG
  have HGr := hidden hGr
  have HB3 := hidden hB3
  clear ws2 hA2 hB2 b3 hg2 hGr hB3 hRG
  go_wp2_with fail
  go_loop [47] (fun i => ∃ j : Nat, j ≤ RG.length ∧ i = .int .i64 j ∧ Hid (NoStrayTo s r RG j)) (fun i => RG.length - (intOf i).toNat)
  case atStart => exact ⟨0, Nat.zero_le _, rfl, fun k hk => absurd hk (Nat.not_lt_zero _)⟩
  case round =>
    obtain ⟨j, hj, rfl, HS⟩ := hrel
    by_cases hlt : j < RG.length
    · have t0 := gr_lens HGr.out hlt
      have f0 := gr_flds HGr.out hlt
      have HN := hidden (HGr.out.nodes j hlt)
      have x1 : (0 : Int) ≤ (j : Int) := by omega
      have x2 : (j : Int) < (RG.length : Int) := by omega
      have hmem : RG.getD j 0 ∈ RG := by rw [List.getD_eq_getElem?_getD, List.getElem?_eq_getElem hlt]; exact List.getElem_mem hlt
      have hgl : RG.getD j 0 < r.L.length := HGD.out.2 _ hmem
      have HFL : Hid ((blkAt r (RG.getD j 0)).F.length ≤ maxLen) := by have := (HR.out.tag _ _ (blkAt_some hgl)).2.2; show _ ≤ _; unfold maxLen; omega
      have HRN : Hid (∀ q, q < (blkAt r (RG.getD j 0)).F.length → -1 ≤ (nodeF s r RG (blkAt r (RG.getD j 0)) q).1 ∧ (nodeF s r RG (blkAt r (RG.getD j 0)) q).1 ≤ 1000000 ∧ 0 ≤ (nodeF s r RG (blkAt r (RG.getD j 0)) q).2.2 ∧ (nodeF s r RG (blkAt r (RG.getD j 0)) q).2.2 ≤ 18446744073709551615) := fun q _ => by
        obtain ⟨u0, u1⟩ := fieldRange hA3 HR.out hgl q
        exact nodeF_rng _ (by omega) _ u0 u1
      have HST : Hid ((blkAt r (RG.getD j 0)).tag = 202 → NoStrayTo s r RG (j + 1)) := fun h => noStrayTo_text HS.out h
      have HSS : Hid ((∀ q, q < (blkAt r (RG.getD j 0)).F.length → ¬ Stray (nodeF s r RG (blkAt r (RG.getD j 0)) q)) → NoStrayTo s r RG (j + 1)) := fun h => noStrayTo_step HS.out h
      clear hmem hgl HS
      generalize (fun q => nodeF s r RG (blkAt r (RG.getD j 0)) q) = N at *
      obtain ⟨tg, htg⟩ : ∃ tg, (blkAt r (RG.getD j 0)).tag = tg := ⟨_, rfl⟩
      obtain ⟨fl, hfl⟩ : ∃ fl, (blkAt r (RG.getD j 0)).F.length = fl := ⟨_, rfl⟩
      rw [htg] at t0 HST
      rw [hfl] at f0 HN HFL HRN HSS
      clear htg hfl
      by_cases ht : tg = 202
      · have HX : Hid (NoStrayTo s r RG (j + 1)) := HST.out ht
        rw [ht] at t0
        clear ht HST HSS HN HFL HRN f0
        go_wp2_with fail
        go_round
        case rel => exact ⟨j + 1, by omega, by go_num, HX⟩
        case measure => simp [intOf]; omega
      · have hne : (tg != 202) = true := by rw [bne_iff_ne]; exact ht
        clear ht HST
        go_wp2_with (go_at_call 19; refine (stray_any _ HN.out HFL.out HRN.out).mono ?_; rintro e w5 ⟨b5, rfl, hb5, hw5⟩; rw [hw5]; clear hw5 w5; have HB5 := hidden hb5; clear hb5; cases b5)
        · go_round
          case rel => exact ⟨j + 1, by omega, by go_num, HSS.out (by first | exact HB5.out rfl | exact HB5.out trivial)⟩
          case measure => simp [intOf]; omega
        · go_ret
          exact ⟨rfl, HB3.out⟩
    · have ej : j = RG.length := by omega
      have hnl : ¬ ((j : Int) < (RG.length : Int)) := by omega
      have HS2 : Hid (NoStrayTo s r RG RG.length) := by rw [← ej]; exact HS.out
      have HMX : Hid (M ≤ maxLen) := by show _ ≤ _; unfold maxLen; omega
      have HRF : Hid (∀ i, i < M → -1 ≤ (gNode s r RG (X i)).1 ∧ (gNode s r RG (X i)).1 ≤ 1000000 ∧ 0 ≤ (gNode s r RG (X i)).2.2 ∧ (gNode s r RG (X i)).2.2 ≤ 18446744073709551615) := fun i hi => gNode_rng _ (by omega) (HWLO.out i hi) (HWHI.out i hi)
      have HFI := hidden HGr.out.first
      clear ej HS hlt
      go_wp2_with (go_at_call 19; refine (stray_any _ HFI.out HMX.out HRF.out).mono ?_; rintro e w5 ⟨b5, rfl, hb5, hw5⟩; rw [hw5]; clear hw5 w5; have HB5 := hidden hb5; clear hb5; cases b5)
      · have HNS : Hid (NoStray s r (listX X M)) := by
          have hq := HRG.out
          refine nostray_of ?_ ?_
          · rw [hq]; intro i hi; exact (by first | exact HB5.out rfl | exact HB5.out trivial : ∀ i, i < M → ¬ Stray (gNode s r RG (X i))) i hi
          · rw [hq]; exact HS2.out
        clear HB5 HS2 HRF HFI
        refine (collect_any _ hA3 HR.out ws23 (by omega)).mono ?_
        rintro e w4 ⟨al4, c4, s4, rfl, ws4, f4, hA4, hR4, o4⟩
        have HB4 := hidden (HB3.out.trans (o4.under HB3.out.size l2 l3 l4))
        have HGr4 := hidden (HGr.out.frame o4 (fun q _ _ hq _ _ => HOWN.out q hq))
        have HLO := hidden hA3.lo
        have HHI := hidden hA3.hi
        have n2 := hA4.n2; have t2 := hA4.t2; have b1 := hA4.b1
        have ht4 : s4.top ≤ 100000 := by omega
        have HR4 := hidden hR4
        clear f4 o4 ws23 hA3 HGr HB3 HOWN hR4
        go_wp2_with fail
        refine (graph_any _ hA4 HR4.out ws4 (by omega)).mono ?_
        rintro e w5 ⟨gf2, cf2, gt2, ct2, gl2, cl2, hs2, cs2, rfl, hGr2, b5⟩
        have hre : reachG s4 (collR s r (listX X M)) (listX (fun i => collW s r (listX X M) (X i)) M) = List.range RG.length := by
          rw [listX_map, ← HRG.out]
          exact again_reach HR.out HLO.out HHI.out HR4.out ht4 HNS.out
        rw [hre, List.length_range] at hGr2 ⊢
        have HG2 := hidden hGr2
        have HG1 := hidden (HGr4.out.below b5)
        have HB5 := hidden (HB4.out.trans (b5.mono HB4.out.size))
        have HEF : Hid (∀ i, i < M → gNode s r RG (X i) = gNode s4 (collR s r (listX X M)) (List.range RG.length) (collW s r (listX X M) (X i))) := fun i hi => by
          have := again_node HR.out HLO.out HHI.out HR4.out ht4 HNS.out (Or.inl (listX_mem hi) : Seen s r (listX X M) (X i))
          rw [HRG.out] at this
          have e2 : collW s r (listX X M) (X i) = newW s r (otherB r) RG (X i) := by unfold collW; rw [HRG.out]
          rw [e2]; exact this.symm
        clear hGr2 b5 ws4 hA4 HGr4 HB4 hre
        have HF1 := hidden HG1.out.first
        have HF2 := hidden HG2.out.first
        go_wp2_with (go_at_call 20; refine (alike_yes _ HF1.out HF2.out HMX.out HEF.out).mono ?_; rintro e w6 ⟨rfl, k6, hw6⟩; have HW6 := hidden hw6; clear hw6)
        have HTG : Hid (∀ k, k < RG.length → (blkAt (collR s r (listX X M)) ((List.range RG.length).getD k 0)).tag = (blkAt r (RG.getD k 0)).tag ∧ (blkAt (collR s r (listX X M)) ((List.range RG.length).getD k 0)).F.length = (blkAt r (RG.getD k 0)).F.length ∧ ∀ q, q < (blkAt r (RG.getD k 0)).F.length → nodeF s r RG (blkAt r (RG.getD k 0)) q = nodeF s4 (collR s r (listX X M)) (List.range RG.length) (blkAt (collR s r (listX X M)) ((List.range RG.length).getD k 0)) q) := fun k hk => by
          have e : (List.range RG.length).getD k 0 = k := by rw [List.getD_eq_getElem?_getD, List.getElem?_range hk]; rfl
          have hk' : k < (reachG s r (listX X M)).length := by rw [HRG.out]; exact hk
          obtain ⟨t1, t3, _⟩ := again_tag (s := s) (r := r) (xs := listX X M) hk'
          rw [e]
          rw [HRG.out] at t1 t3
          refine ⟨t1, t3, fun q hq => ?_⟩
          have := same_field HR.out HLO.out HHI.out HR4.out ht4 HNS.out hk' (q := q) (by rw [HRG.out]; exact hq)
          rw [HRG.out] at this
          exact this.symm
        generalize collR s r (listX X M) = r4 at *
        have HLB : Hid (∀ k, k < RG.length → (blkAt r (RG.getD k 0)).F.length ≤ maxLen) := fun k hk => by
          have hmem : RG.getD k 0 ∈ RG := by rw [List.getD_eq_getElem?_getD, List.getElem?_eq_getElem hk]; exact List.getElem_mem hk
          have := (HR.out.tag _ _ (blkAt_some (HGD.out.2 _ hmem))).2.2
          unfold maxLen; omega
        clear HF1 HF2 HEF HLO HHI HNS HR4 HR
        go_loopw [90] (fun i wr => ∃ j k : Nat, j ≤ RG.length ∧ i = .int .i64 j ∧ wr = w5.drewN k) (fun i _ => RG.length - (intOf i).toNat)
        case atStart => exact ⟨0, k6, Nat.zero_le _, rfl, HW6.out⟩
        case round =>
          clear HW6
          obtain ⟨j', k', hj', rfl, hw⟩ := hrel
          have HW : Hid _ := hw
          by_cases hlt : j' < RG.length
          · obtain ⟨e1, e2, e3⟩ := HTG.out j' hlt
            have t0 : wr.cell? ⟨gt, j', none⟩ = some (.int .i64 (blkAt r (RG.getD j' 0)).tag) := by rw [hw]; exact gr_lens HG1.out hlt
            have t1 : wr.cell? ⟨gt2, j', none⟩ = some (.int .i64 (blkAt r (RG.getD j' 0)).tag) := by rw [hw, ← e1]; exact gr_lens HG2.out hlt
            have f0 : wr.cell? ⟨gl, j', none⟩ = some (.slice (some ⟨hs j', 0, none⟩) (blkAt r (RG.getD j' 0)).F.length (cs j')) := by rw [hw]; exact gr_flds HG1.out hlt
            have f1 : wr.cell? ⟨gl2, j', none⟩ = some (.slice (some ⟨hs2 j', 0, none⟩) (blkAt r (RG.getD j' 0)).F.length (cs2 j')) := by rw [hw, ← e2]; exact gr_flds HG2.out hlt
            have HN1 : Hid (NS wr (hs j') (blkAt r (RG.getD j' 0)).F.length (nodeF s r RG (blkAt r (RG.getD j' 0)))) := by rw [hw]; exact HG1.out.nodes j' hlt
            have HN2 : Hid (NS wr (hs2 j') (blkAt r (RG.getD j' 0)).F.length (nodeF s4 r4 (List.range RG.length) (blkAt r4 ((List.range RG.length).getD j' 0)))) := by rw [hw, ← e2]; exact HG2.out.nodes j' hlt
            have HE3 := hidden e3
            have HL := hidden (HLB.out j' hlt)
            have x1 : (0 : Int) ≤ (j' : Int) := by omega
            have x2 : (j' : Int) < (RG.length : Int) := by omega
            clear e1 e2 e3 hw
            obtain ⟨tg, htg⟩ : ∃ tg, (blkAt r (RG.getD j' 0)).tag = tg := ⟨_, rfl⟩
            rw [htg] at t0 t1
            clear htg
            have hne : (tg != tg) = false := bne_self_eq_false _
            obtain ⟨fl, hfl⟩ : ∃ fl, (blkAt r (RG.getD j' 0)).F.length = fl := ⟨_, rfl⟩
            rw [hfl] at f0 f1 HN1 HN2 HE3 HL
            clear hfl
            go_wp2_with fail
            go_quiet ((go_at_call 20; exact Calls.quiet_of (alike_yes _ (HN1.out.drewN _) (HN2.out.drewN _) HL.out HE3.out)))
            go_wp2_with fail
            go_roundw
            case rel => exact ⟨j' + 1, _, by omega, by go_num, by rw [HW.out]; exact World.drewN_drewN _ _ _⟩
            case measure => simp [intOf]; omega
          · have hnl : ¬ ((j' : Int) < (RG.length : Int)) := by omega
            have HBE : Hid (Below w.heap.size w wr) := by rw [hw]; exact below_drewN HB5.out k'
            clear hw hlt
            go_wp2_with fail
            go_ret
            exact ⟨rfl, HBE.out⟩
      · go_ret
        exact ⟨rfl, HB3.out⟩
end Go.Proofs.Ytkgocnmeedkieaa
