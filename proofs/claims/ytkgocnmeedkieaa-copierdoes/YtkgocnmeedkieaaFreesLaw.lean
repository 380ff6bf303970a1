/-
  CopierFrees: whatever number of cells, blocks and roots are handed to it, the call returns true and writes nothing that was there. Condition: the slices lie in memory.
-/
import Derived.Test.YtkgocnmeedkieaaL3Awake
import Derived.Test.YtkgocnmeedkieaaPlainColl2
import Derived.Test.YtkgocnmeedkieaaR3Mem
namespace Go.Proofs.Ytkgocnmeedkieaa
open Go.ChangeShapes Go.WideShapes Go.ChangeAt Go.RowKit Go.Deep
set_option linter.unusedVariables false
set_option maxHeartbeats 2000000

theorem frees_no (n : Int) (al : Option Addr) (ll cl : Nat) (rl : Option Addr) (rm rc : Nat) (w : World) (h : n < 2 ∨ 32768 < n) :
    Calls Try.prog 6 #[.int .i64 n, .slice al ll cl, .slice rl rm rc] w fun e w' => e = .returned (.bool true) ∧ Below w.heap.size w w' := by
  by_cases c : n < 2
  · go_enter Try.func6, Try.ntmps6
    go_wp2_with (first | (go_at_call 9; refine (awake3_any _).mono ?_; rintro e w0 ⟨rfl, b0⟩) | (go_at_call 10; refine (lay_no n al ll cl _ h).mono ?_; rintro e w' ⟨rfl, hw'⟩; rw [hw']; clear hw' w'))
    all_goals go_ret
    all_goals exact ⟨rfl, b0⟩
  · have c2 : 32768 < n := by omega
    have H : Hid _ := h
    clear h
    go_enter Try.func6, Try.ntmps6
    go_wp2_with (first | (go_at_call 9; refine (awake3_any _).mono ?_; rintro e w0 ⟨rfl, b0⟩) | (go_at_call 10; refine (lay_no n al ll cl _ H.out).mono ?_; rintro e w' ⟨rfl, hw'⟩; rw [hw']; clear hw' w'))
    all_goals go_ret
    all_goals exact ⟨rfl, b0⟩
theorem rng_words {Z : Nat → Int} {m mb : Nat} {X : Nat → Int} (lo : ∀ i, i < m → 0 ≤ Z i) (hi : ∀ i, i < m → Z i ≤ 18446744073709551615) {w : World} {g c : Nat} (h : Own w g (min m 60) (fun i => wordV (Z i) mb X)) : WS w (some ⟨g, 0, none⟩) (min m 60) c (fun i => wordV (Z i) mb X) :=
  ws_own h (fun i hi' => wordV_lo (lo i (by omega))) (fun i hi' => wordV_hi (hi i (by omega)))
set_option maxRecDepth 100000 in
theorem frees_yes (n : Int) (al : Option Addr) (ll cl : Nat) (I : Nat → BI) (rl : Option Addr) (rm rc : Nat) (Z : Nat → Int) (w : World) (h1 : 2 ≤ n) (h2 : n ≤ 32768) (hl : ll ≤ maxLen) (hI : BlocksIn w w.heap.size al ll I) (hZ : WS w rl rm rc Z) (hrm : rm ≤ maxLen) :
    Calls Try.prog 6 #[.int .i64 n, .slice al ll cl, .slice rl rm rc] w fun e w' => e = .returned (.bool true) ∧ Below w.heap.size w w' := by
  have HI : Hid _ := hI
  have HZ : Hid _ := hZ
  have HL : Hid _ := hl
  have HRM : Hid _ := hrm
  clear hI hZ hl hrm
  go_enter Try.func6, Try.ntmps6
  go_wp2_with fail
  refine (awake3_any _).mono ?_
  rintro e w0 ⟨rfl, b0⟩
  go_wp2_with fail
  refine (lay_yes n al ll cl I _ h1 h2 HL.out (BlocksIn.mono (BlocksIn.below (Bd := w.heap.size) HI.out b0) b0.size)).mono ?_
  rintro e w1 ⟨p, rb, r, a, cap, V, rfl, h3, b1, j1, j2, j3, j4, j5⟩
  have hs0 := b0.size
  have hA := h3.ar
  have HR : Hid _ := h3.bo.rep
  have hB := b0.trans (b1.mono hs0)
  have l2 : w.heap.size ≤ p.h := by omega
  have l3 : w.heap.size ≤ p.c := by omega
  have l4 : w.heap.size ≤ p.b := by omega
  have HZ1 : Hid (WS w1 rl rm rc Z) := HZ.out.below hB
  have HLO : Hid _ := HZ.out.lo
  have HHI : Hid _ := HZ.out.hi
  clear h3 b0 b1 j1 j2 j3 j4 j5 hs0 HZ HI
  generalize layB n.toNat (min ll 60) I (min ll 60) = s at *
  obtain ⟨mb, hmb⟩ : ∃ mb, mb = r.L.length := ⟨_, rfl⟩
  have HMB : Hid _ := hmb
  clear hmb
  go_wp2_with fail
  refine (words_any mb _ hA HR.out HMB.out HZ1.out HRM.out).mono ?_
  rintro e w2 ⟨g, cg, rfl, own2, hg2, b2⟩
  have hA2 := ar_below hA b2
  have hB2 := hB.trans (b2.mono hB.size)
  have ws2 := rng_words (c := cg) HLO.out HHI.out own2
  have hM : min rm 60 ≤ 60 := by omega
  clear hA hB b2 own2 HZ1 HLO HHI HRM HL HMB
  generalize (fun i => wordV (Z i) mb (blkW s r)) = X at ws2
  generalize min rm 60 = M at *
  go_wp2_with (go_at_call 21; refine (base_eq s.base _ hA2 rfl).mono ?_; rintro e w' ⟨rfl, hw'⟩; rw [hw']; clear hw' w')
  refine (reach_any _ hA2 HR.out ws2 (by omega)).mono ?_
  rintro e w3 ⟨al3, c3, rfl, ws3, f3, b3⟩
  have hA3 := ar_below hA2 b3
  have hB3 := hB2.trans (b3.mono hB2.size)
  have ws23 := ws2.below b3
  clear ws3 f3 b3 ws2 hA2 hB2
  go_wp2_with fail
  refine (collect_any _ hA3 HR.out ws23 (by omega)).mono ?_
  rintro e w4 ⟨al4, c4, s4, rfl, ws4, f4, hA4, hR4, o4⟩
  have hB4 := hB3.trans (o4.under hB3.size l2 l3 l4)
  have hbase : s4.base = otherB r := hR4.base
  have hne : s4.base ≠ s.base := by rw [hbase]; exact otherB_ne HR.out (by have := hA3.n1; omega)
  have B1 : ((s4.base : Int) == (s.base : Int)) = false := by rw [beq_eq_false_iff_ne]; omega
  have htop := hR4.top
  rw [collR_lenB] at htop
  obtain ⟨N, hN⟩ : ∃ N, N = lenG r (reachG s r (listX X M)) := ⟨_, rfl⟩
  obtain ⟨K, hK⟩ : ∃ K, K = (reachG s r (listX X M)).length := ⟨_, rfl⟩
  have HK : Hid (K = (collR s r (listX X M)).L.length) := by show _ = _; rw [collR_len]; exact hK
  rw [← hN] at htop ⊢
  rw [← hK]
  have hR5 : Hid (Rep s4 (collR s r (listX X M))) := hR4
  generalize collR s r (listX X M) = r4 at hR5 HK
  have HTOP : Hid ((s4.top : Int) = (s4.base : Int) + N) := by show _ = _; omega
  have n2 := hA4.n2
  have b1 := hA4.b1
  have t2 := hA4.t2
  have q1 : N ≤ 32768 := by omega
  have q2 : s4.base ≤ 32768 := by omega
  have hKl : K ≤ 32768 := by have := lenB_length' r4.L; have := hR5.out.top; have := HK.out; omega
  clear ws4 f4 hR4 hbase hne htop hN hK hA3 hB3 ws23 o4
  go_wp2_with (first | (go_at_call 21; refine (base_eq s4.base _ hA4 rfl).mono ?_; rintro e w' ⟨rfl, hw'⟩; rw [hw']; clear hw' w') | (go_at_call 22; refine (top_is ((s4.base : Int) + N) _ hA4 HTOP.out).mono ?_; rintro e w' ⟨rfl, hw'⟩; rw [hw']; clear hw' w'))
  refine (blocks_any K _ hA4 hR5.out HK.out).mono ?_
  rintro e w5 ⟨ba, bc, rfl, u1, u2, b5⟩
  have hA5 := ar_below hA4 b5
  have hB5 := hB4.trans (b5.mono hB4.size)
  clear u1 u2 b5 hA4 hB4
  go_wp2_with (go_at_call 21; refine (base_eq s4.base _ hA5 rfl).mono ?_; rintro e w' ⟨rfl, hw'⟩; rw [hw']; clear hw' w')
  refine (blocks_any K _ hA5 hR5.out HK.out).mono ?_
  rintro e w6 ⟨ba6, bc6, rfl, u1, u2, b6⟩
  have hA6 := ar_below hA5 b6
  have hB6 := hB5.trans (b6.mono hB5.size)
  have ws6 : WS w6 ba6 K bc6 (blkW s4 r4) := ws_any u1 u2 (fun i _ => blkW_lo s4 r4 i) (fun i _ => blkW_hi hA6 hR5.out i)
  clear u1 u2 b6 hA5 hB5
  go_wp2_with fail
  go_loopw [13, 72] (fun at' i wr => ∃ (k m : Nat), k ≤ K ∧ i = .int .i64 k ∧ at' = .int .i64 ((s4.base + lenB (r4.L.take k) : Nat) : Int) ∧ wr = w6.drewN m) (fun _ i _ => K - (intOf i).toNat)
  case atStart => exact ⟨0, 0, Nat.zero_le _, rfl, rfl, rfl⟩
  case round =>
    obtain ⟨k, m, hk, rfl, rfl, hw⟩ := hrel
    have HW : Hid _ := hw
    have hA7 : Ar wr p s4 := by rw [hw]; exact hA6.drewN m
    have ws7 : WS wr ba6 K bc6 (blkW s4 r4) := ws_drew hw ws6
    clear hw
    by_cases hlt : k < K
    · obtain ⟨b, hb⟩ : ∃ b, r4.L[k]? = some b := ⟨_, List.getElem?_eq_getElem (by have := HK.out; omega)⟩
      have hbw := blkW_eq hR5.out hb
      have had := hR5.out.ad k b hb
      have hin := hR5.out.inside hb
      have hsz := (hR5.out.word hb (by omega)).2
      have HS : Hid _ := lenB_succ r4.L k b hb
      have hfl := (hR5.out.tag k b hb).2.2
      obtain ⟨x, rfl, hx⟩ := ws7.cell k hlt
      rw [hbw] at hx
      have HSZ : Hid _ := hsz
      have HAD : Hid (b.ad = s4.base + lenB (r4.L.take k) + 1) := had
      have HP : Hid (ptrW ((s4.base + lenB (r4.L.take k) : Nat) + 1 : Int) = 2 * (b.ad : Int)) := by show _ = _; unfold ptrW; rw [if_neg (by omega)]; omega
      have x0 : (0 : Int) ≤ (k : Int) := by omega
      have x1 : (k : Int) < (K : Int) := by omega
      have y0 : 1 ≤ b.ad := by omega
      have y1 : b.ad ≤ 65536 := by omega
      obtain ⟨A, hAe⟩ : ∃ A, A = s4.base + lenB (r4.L.take k) := ⟨_, rfl⟩
      have y2 : A ≤ 65536 := by omega
      have HAE : Hid _ := hAe
      rw [← hAe] at HP ⊢
      clear hb hbw had hin hsz hAe ws7
      go_wp2_with (first | (go_at_call 24; refine (rptr_eq _ (2 * (b.ad : Int)) _ (by omega) (by omega) HP.out).mono ?_; rintro e w' ⟨rfl, hw'⟩; rw [hw']; clear hw' w') | (go_at_call 25; refine (size_is (2 * (b.ad : Int)) (b.F.length : Int) _ hA7 (by omega) (by omega) HSZ.out).mono ?_; rintro e w8 ⟨rfl, m8, hw8⟩; have HW8 := hidden hw8; clear hw8))
      go_roundw
      case rel => exact ⟨k + 1, m + m8, by omega, by go_num, by rw [HS.out, ← Nat.add_assoc, ← Nat.add_assoc, ← HAE.out]; go_num, by rw [HW8.out, HW.out]; exact World.drewN_drewN _ _ _⟩
      case measure => simp [intOf]; omega
    · have HE : Hid ((s4.base + lenB (r4.L.take k) : Nat) = s4.top) := by
        have := HK.out
        have := hR5.out.top
        show _ = _
        rw [List.take_of_length_le (by omega)]; omega
      have hb9 : Hid (Below w.heap.size w wr) := by rw [HW.out]; exact below_drewN hB6 m
      rw [HE.out]
      go_wp2_with (go_at_call 22; refine (top_is (s4.top : Int) _ hA7 rfl).mono ?_; rintro e w' ⟨rfl, hw'⟩; rw [hw']; clear hw' w')
      go_ret
      exact ⟨rfl, hb9.out⟩
end Go.Proofs.Ytkgocnmeedkieaa
