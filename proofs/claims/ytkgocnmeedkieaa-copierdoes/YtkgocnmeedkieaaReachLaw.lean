/-
  CopierReach: whatever number of cells, blocks and roots are handed to it, the call returns true and writes nothing that was there. Condition: the slices lie in memory.
-/
import Derived.Test.YtkgocnmeedkieaaFreesLaw
import Derived.Test.YtkgocnmeedkieaaR3Reach
import Derived.Test.YtkgocnmeedkieaaL3Same
namespace Go.Proofs.Ytkgocnmeedkieaa
open Go.ChangeShapes Go.WideShapes Go.ChangeAt Go.RowKit Go.Deep
set_option linter.unusedVariables false
set_option maxHeartbeats 2000000

theorem two_below {w w' : World} {p : Pl} {s : St} {rb : Nat} {r : RS} {a : Option Addr} {cap : Nat} {V : Nat → Value} (h : Two w p s rb r a cap V) (k : Below w.heap.size w w') : Two w' p s rb r a cap V := h.frame (S := fun _ => False) (Only.of_below k) (fun _ _ => id)
theorem creach_no (n : Int) (al : Option Addr) (ll cl : Nat) (rl : Option Addr) (rm rc : Nat) (w : World) (h : n < 2 ∨ 32768 < n) :
    Calls Try.prog 4 #[.int .i64 n, .slice al ll cl, .slice rl rm rc] w fun e w' => e = .returned (.bool true) ∧ Below w.heap.size w w' := by
  by_cases c : n < 2
  · go_enter Try.func4, Try.ntmps4
    go_wp2_with (first | (go_at_call 9; refine (awake3_any _).mono ?_; rintro e w0 ⟨rfl, b0⟩) | (go_at_call 10; refine (lay_no n al ll cl _ h).mono ?_; rintro e w' ⟨rfl, hw'⟩; rw [hw']; clear hw' w'))
    all_goals go_ret
    all_goals exact ⟨rfl, b0⟩
  · have c2 : 32768 < n := by omega
    have H : Hid _ := h
    clear h
    go_enter Try.func4, Try.ntmps4
    go_wp2_with (first | (go_at_call 9; refine (awake3_any _).mono ?_; rintro e w0 ⟨rfl, b0⟩) | (go_at_call 10; refine (lay_no n al ll cl _ H.out).mono ?_; rintro e w' ⟨rfl, hw'⟩; rw [hw']; clear hw' w'))
    all_goals go_ret
    all_goals exact ⟨rfl, b0⟩
set_option maxRecDepth 100000 in
theorem creach_yes (n : Int) (al : Option Addr) (ll cl : Nat) (I : Nat → BI) (rl : Option Addr) (rm rc : Nat) (Z : Nat → Int) (w : World) (h1 : 2 ≤ n) (h2 : n ≤ 32768) (hl : ll ≤ maxLen) (hI : BlocksIn w w.heap.size al ll I) (hZ : WS w rl rm rc Z) (hrm : rm ≤ maxLen) :
    Calls Try.prog 4 #[.int .i64 n, .slice al ll cl, .slice rl rm rc] w fun e w' => e = .returned (.bool true) ∧ Below w.heap.size w w' := by
  have HI : Hid _ := hI
  have HZ : Hid _ := hZ
  have HL : Hid _ := hl
  have HRM : Hid _ := hrm
  clear hI hZ hl hrm
  go_enter Try.func4, Try.ntmps4
  go_wp2_with fail
  refine (awake3_any _).mono ?_
  rintro e w0 ⟨rfl, b0⟩
  go_wp2_with fail
  refine (lay_yes n al ll cl I _ h1 h2 HL.out (BlocksIn.mono (BlocksIn.below (Bd := w.heap.size) HI.out b0) b0.size)).mono ?_
  rintro e w1 ⟨p, rb, r, a, cap, V, rfl, h3, b1, j1, j2, j3, j4, j5⟩
  have hs0 := b0.size
  have HR : Hid _ := h3.bo.rep
  have hB := b0.trans (b1.mono hs0)
  have HZ1 : Hid (WS w1 rl rm rc Z) := HZ.out.below hB
  have HLO : Hid _ := HZ.out.lo
  have HHI : Hid _ := HZ.out.hi
  clear b0 b1 j1 j2 j3 j4 j5 hs0 HZ HI
  generalize layB n.toNat (min ll 60) I (min ll 60) = s at *
  obtain ⟨mb, hmb⟩ : ∃ mb, mb = r.L.length := ⟨_, rfl⟩
  have HMB : Hid _ := hmb
  clear hmb
  go_wp2_with fail
  refine (words_any mb _ h3.ar HR.out HMB.out HZ1.out HRM.out).mono ?_
  rintro e w2 ⟨g, cg, rfl, own2, hg2, b2⟩
  have h4 := two_below h3 b2
  have hB2 := hB.trans (b2.mono hB.size)
  have ws2 := rng_words (c := cg) HLO.out HHI.out own2
  have hM : min rm 60 ≤ 60 := by omega
  clear h3 hB b2 own2 HZ1 HLO HHI HRM HL HMB
  generalize (fun i => wordV (Z i) mb (blkW s r)) = X at ws2
  generalize min rm 60 = M at *
  go_wp2_with fail
  refine (reach_any _ h4.ar HR.out ws2 (by omega)).mono ?_
  rintro e w3 ⟨al3, c3, rfl, ws3, f3, b3⟩
  have h5 := two_below h4 b3
  have hB3 := hB2.trans (b3.mono hB2.size)
  have ws23 := ws2.below b3
  clear f3 b3 ws2 h4 hB2
  go_wp2_with fail
  refine (rreach_any _ h5.bo ws23 (by omega)).mono ?_
  rintro e w4 ⟨g4, c4, rfl, own4, b4⟩
  have H6 := hidden (two_below h5 b4)
  have HB4 := hidden (hB3.trans (b4.mono hB3.size))
  have W3 := hidden (ws3.below b4)
  have hlen : (reachG s r (listX X M)).length ≤ 32768 := by
    obtain ⟨z1, z2, z3, z4, z5⟩ := h5.bo.sizes
    have := (goodG_len (reach_good HR.out (listX X M))).2
    omega
  have HAD : Hid (∀ i, i < (reachG s r (listX X M)).length → 0 ≤ reachW r (reachG s r (listX X M)) i ∧ reachW r (reachG s r (listX X M)) i ≤ 18446744073709551615) := fun i hi => ⟨ws3.lo i hi, ws3.hi i hi⟩
  have W4 := hidden (ws_own (c := c4) own4 (fun i hi => (HAD.out i hi).1) (fun i hi => (HAD.out i hi).2))
  have HLM : Hid ((reachG s r (listX X M)).length ≤ maxLen) := by show _ ≤ _; unfold maxLen; omega
  have HEQ : Hid (∀ i, i < (reachG s r (listX X M)).length → 2 * ((blkAt r ((reachG s r (listX X M)).getD i 0)).ad : Int) = reachW r (reachG s r (listX X M)) i) := fun i _ => rfl
  clear ws3 ws23 h5 hB3 b4 own4 HAD
  generalize lenG r (reachG s r (listX X M)) = N at *
  generalize (reachG s r (listX X M)).length = K at *
  have hNN : ((N : Int) == (N : Int)) = true := beq_self_eq_true _
  go_wp2_with (first
    | (go_at_call 13; refine (equal_yes _ W3.out W4.out HLM.out HEQ.out).mono ?_; rintro e w5 ⟨rfl, k5, hw5⟩; have H7 := hidden (two_drew3 hw5 H6.out); have HB5 := hidden (below_drew3 hw5 HB4.out); clear hw5)
    | (go_at_call 15; refine (same3_any _ H7.out).mono ?_; rintro e w6 ⟨rfl, b6⟩; have HB6 := hidden (HB5.out.trans (b6.mono HB5.out.size)); clear b6))
  go_ret
  exact ⟨rfl, HB6.out⟩
end Go.Proofs.Ytkgocnmeedkieaa
