/-
  ArenaDoes: whatever number of cells, steps and word are handed to it, the call returns true and writes nothing that was there. Condition: the slice lies in memory.
-/
import Derived.Test.YtaoohkjhniigfaaSame
namespace Go.Proofs.Ytaoohkjhniigfaa
open Go.ChangeShapes Go.WideShapes Go.ChangeAt Go.RowKit Go.Deep
set_option linter.unusedVariables false
set_option maxHeartbeats 2000000

theorem does_no (n : Int) (al : Option Addr) (ll cl : Nat) (x : Int) (w : World) (h : n < 2 ∨ 32768 < n) :
    Calls Try.prog 3 #[.int .i64 n, .slice al ll cl, .int .u64 x] w fun e w' => e = .returned (.bool true) ∧ Below w.heap.size w w' := by
  go_enter Try.func3, Try.ntmps3
  go_wp2_with (first | (go_at_call 8; refine (awake_any _).mono ?_; rintro e w0 ⟨rfl, b0⟩) | (go_at_call 9; refine (new_no n _ h).mono ?_; rintro e w' ⟨rfl, rfl⟩) | (go_at_call 10; refine (rnew_no n _ h).mono ?_; rintro e w' ⟨rfl, rfl⟩))
  all_goals go_ret
  all_goals exact ⟨rfl, b0⟩
theorem does_yes (n : Int) (al : Option Addr) (ll cl : Nat) (S : Nat → Stp) (x : Int) (w : World) (h1 : 2 ≤ n) (h2 : n ≤ 32768) (hl : ll ≤ maxLen) (x0 : 0 ≤ x) (x1 : x ≤ 18446744073709551615)
    (hS : Steps w w.heap.size al ll S) :
    Calls Try.prog 3 #[.int .i64 n, .slice al ll cl, .int .u64 x] w fun e w' => e = .returned (.bool true) ∧ Below w.heap.size w w' := by
  have HS : Hid _ := hS
  have HL : Hid _ := hl
  clear hS hl
  go_enter Try.func3, Try.ntmps3
  go_wp2_with fail
  refine (awake_any _).mono ?_
  rintro e w0 ⟨rfl, b0⟩
  go_wp2_with fail
  refine (new_at n _ h1 h2).mono ?_
  rintro e w1 ⟨p, rfl, ha, b1, i1, i2, i3, i4⟩
  have B := b0.size
  have hB := b0.trans (b1.mono B)
  have j1 : w.heap.size ≤ p.a := by omega
  have j2 : w.heap.size ≤ p.h := by omega
  have j3 : w.heap.size ≤ p.c := by omega
  have j4 : w.heap.size ≤ p.b := by omega
  have HS1 : Hid (Steps w1 w.heap.size al ll S) := steps_below HS.out hB
  clear b0 b1 i1 i2 i3 i4 B
  go_wp2_with fail
  refine (rnew_yes n _ h1 h2).mono ?_
  rintro e w2 ⟨rfl, hr, b2⟩
  have h0 := two_new ha hr b2
  have hB2 := hB.trans (b2.mono hB.size)
  have HS2 : Hid (Steps w2 w.heap.size al ll S) := steps_below HS.out hB2
  clear hr ha HS1 hB
  generalize w1.heap.size = rb at h0 ⊢
  go_wp2_with fail
  refine (play_any n.toNat w.heap.size al ll cl S _ h0 rfl HL.out HS2.out ⟨j1, j2, j3, j4⟩ hB2.size).mono ?_
  rintro e w3 ⟨rfl, s, r, a, cap, V, h3, hn, b3⟩
  have hB3 := hB2.trans b3
  clear h0 hB2 b3 HS2
  go_wp2_with (go_at_call 12; refine (all_any x _ h3 x0 x1).mono ?_; rintro e w4 ⟨rfl, b4⟩)
  all_goals go_ret
  all_goals exact ⟨rfl, hB3.trans (b4.mono hB3.size)⟩
end Go.Proofs.Ytaoohkjhniigfaa
