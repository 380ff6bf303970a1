/-
  What the document's own functions for numbers, addresses and headers return that layer 2's statements call, each by its plain arithmetic; nothing in memory changes. Conditions: each argument fits its kind.
-/
import Derived.Test.YtjnlfnecmiklhaaLibA
namespace Go.Proofs.Ytjnlfnecmiklhaa
open Go.ChangeShapes Go.WideShapes Go.ChangeAt Go.RowKit
set_option linter.unusedVariables false
set_option maxHeartbeats 400000

theorem rcut_any (n : Int) (w : World) (h : -9223372036854775808 ≤ n) (h' : n ≤ 9223372036854775807) :
    Calls Try.prog 56 #[.int .i64 n] w fun e w' => e = .returned (.int .i64 (cutN n)) ∧ w' = w := by
  go_enter Try.func56, Try.ntmps56
  go_wp2
  all_goals go_ret
  all_goals exact ⟨ret_int (by unfold cutN; omega), rfl⟩
theorem rint_any (n : Int) (w : World) (h : -9223372036854775808 ≤ n) (h' : n ≤ 9223372036854775807) :
    Calls Try.prog 32 #[.int .i64 n] w fun e w' => e = .returned (.int .u64 (intW n)) ∧ w' = w := by
  have lo := cutN_lo n
  have hi := cutN_hi n
  go_enter Try.func32, Try.ntmps32
  go_wp2_with (go_at_call 56; refine (rcut_any _ _ (by omega) (by omega)).mono ?_; rintro e w' ⟨rfl, rfl⟩)
  all_goals go_ret
  all_goals refine ⟨ret_int ?_, rfl⟩
  · rw [← intW_cut n, IntKind.wrap_u64, IntKind.wrap_u64]; unfold intW; omega
  · rw [← intW_cut n]; unfold intW; omega
theorem risInt_any (x : Int) (w : World) (h : 0 ≤ x) (h' : x ≤ 18446744073709551615) :
    Calls Try.prog 81 #[.int .u64 x] w fun e w' => e = .returned (.bool (isIntW x)) ∧ w' = w := by
  go_enter Try.func81, Try.ntmps81
  go_wp2
  go_ret
  exact ⟨rfl, rfl⟩
theorem rptr_any (a : Int) (w : World) (h : -9223372036854775808 ≤ a) (h' : a ≤ 9223372036854775807) :
    Calls Try.prog 20 #[.int .i64 a] w fun e w' => e = .returned (.int .u64 (ptrW a)) ∧ w' = w := by
  by_cases c1 : a < 0
  · go_enter Try.func20, Try.ntmps20
    go_wp2
    all_goals go_ret
    all_goals exact ⟨ret_int (by unfold ptrW; split <;> omega), rfl⟩
  · by_cases c2 : 2147483647 < a
    all_goals
      go_enter Try.func20, Try.ntmps20
      go_wp2
      all_goals go_ret
      all_goals exact ⟨ret_int (by unfold ptrW; split <;> omega), rfl⟩
theorem raddr_any (x : Int) (w : World) (h : 0 ≤ x) (h' : x ≤ 18446744073709551615) :
    Calls Try.prog 82 #[.int .u64 x] w fun e w' => e = .returned (.int .i64 (addrW x)) ∧ w' = w := by
  by_cases c1 : x % 2 = 1
  · have g : (x % 2 == 1) = true := by rw [beq_iff_eq]; omega
    have HC : Hid (x % 2 = 1) := c1
    clear c1
    go_enter Try.func82, Try.ntmps82
    go_wp2
    all_goals go_ret
    all_goals exact ⟨ret_int (by have c1 := HC.out; unfold addrW; split <;> omega), rfl⟩
  · have g : (x % 2 == 1) = false := by rw [beq_eq_false_iff_ne]; omega
    have HC : Hid (¬ x % 2 = 1) := c1
    clear c1
    by_cases c2 : 4294967294 < x
    all_goals
      go_enter Try.func82, Try.ntmps82
      go_wp2
      all_goals go_ret
      all_goals exact ⟨ret_int (by have c1 := HC.out; unfold addrW; split <;> omega), rfl⟩
theorem rhead_any (t s : Int) (w : World) (h : -9223372036854775808 ≤ t) (h' : t ≤ 9223372036854775807) (g : -9223372036854775808 ≤ s) (g' : s ≤ 9223372036854775807) :
    Calls Try.prog 83 #[.int .i64 t, .int .i64 s] w fun e w' => e = .returned (.int .u64 (headW t s)) ∧ w' = w := by
  by_cases c : t < 0 ∨ 255 < t ∨ s < 0 ∨ 2147483647 < s
  · have hv : headW t s = 0 := by unfold headW; rw [if_pos c]
    rw [hv]
    clear hv
    by_cases c1 : t < 0
    · clear c
      go_enter Try.func83, Try.ntmps83
      go_wp2_with fail
      all_goals go_ret
      all_goals exact ⟨rfl, rfl⟩
    · by_cases c2 : 255 < t
      · clear c
        go_enter Try.func83, Try.ntmps83
        go_wp2_with fail
        all_goals go_ret
        all_goals exact ⟨rfl, rfl⟩
      · by_cases c3 : s < 0
        · clear c
          go_enter Try.func83, Try.ntmps83
          go_wp2_with fail
          all_goals go_ret
          all_goals exact ⟨rfl, rfl⟩
        · have c4 : 2147483647 < s := by omega
          clear c
          go_enter Try.func83, Try.ntmps83
          go_wp2_with fail
          all_goals go_ret
          all_goals exact ⟨rfl, rfl⟩
  · have hv : headW t s = intW (256 * s + t) := by unfold headW; rw [if_neg c]
    rw [hv]
    clear hv
    have c1 : 0 ≤ t := by omega
    have c2 : t ≤ 255 := by omega
    have c3 : 0 ≤ s := by omega
    have c4 : s ≤ 2147483647 := by omega
    clear c
    go_enter Try.func83, Try.ntmps83
    go_wp2_with (go_at_call 32; refine (rint_any _ _ (by omega) (by omega)).mono ?_; rintro e w' ⟨rfl, rfl⟩)
    all_goals go_ret
    all_goals exact ⟨ret_int (by first | (congr 1; done) | (congr 1; omega)), rfl⟩
end Go.Proofs.Ytjnlfnecmiklhaa
