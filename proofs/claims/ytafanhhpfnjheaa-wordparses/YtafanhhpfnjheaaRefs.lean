/-
  What the document's own functions for numbers, addresses and headers return, and package word's for addresses and headers, each by its plain arithmetic; nothing in memory changes. Conditions: each argument fits its kind.
-/
import Derived.Test.YtafanhhpfnjheaaWords
namespace Go.Proofs.Ytafanhhpfnjheaa
open Go.ChangeShapes Go.WideShapes Go.ChangeAt Go.RowKit
set_option linter.unusedVariables false
set_option maxHeartbeats 400000

theorem rcut_any (n : Int) (w : World) (h : -9223372036854775808 ≤ n) (h' : n ≤ 9223372036854775807) :
    Calls Try.prog 28 #[.int .i64 n] w fun e w' => e = .returned (.int .i64 (cutN n)) ∧ w' = w := by
  go_enter Try.func28, Try.ntmps28
  go_wp2
  all_goals go_ret
  all_goals exact ⟨ret_int (by unfold cutN; omega), rfl⟩
theorem rint_any (n : Int) (w : World) (h : -9223372036854775808 ≤ n) (h' : n ≤ 9223372036854775807) :
    Calls Try.prog 9 #[.int .i64 n] w fun e w' => e = .returned (.int .u64 (intW n)) ∧ w' = w := by
  have lo := cutN_lo n
  have hi := cutN_hi n
  go_enter Try.func9, Try.ntmps9
  go_wp2_with (go_at_call 28; refine (rcut_any _ _ (by omega) (by omega)).mono ?_; rintro e w' ⟨rfl, rfl⟩)
  all_goals go_ret
  all_goals refine ⟨ret_int ?_, rfl⟩
  · rw [← intW_cut n, IntKind.wrap_u64, IntKind.wrap_u64]; unfold intW; omega
  · rw [← intW_cut n]; unfold intW; omega
theorem rnum_any (x : Int) (w : World) (h : 0 ≤ x) (h' : x ≤ 18446744073709551615) :
    Calls Try.prog 11 #[.int .u64 x] w fun e w' => e = .returned (.int .i64 (numW x)) ∧ w' = w := by
  go_enter Try.func11, Try.ntmps11
  go_wp2
  all_goals go_ret
  all_goals exact ⟨ret_int (by unfold numW; split <;> omega), rfl⟩
theorem risInt_any (x : Int) (w : World) (h : 0 ≤ x) (h' : x ≤ 18446744073709551615) :
    Calls Try.prog 13 #[.int .u64 x] w fun e w' => e = .returned (.bool (isIntW x)) ∧ w' = w := by
  go_enter Try.func13, Try.ntmps13
  go_wp2
  go_ret
  exact ⟨rfl, rfl⟩
theorem ptr_any (a : Int) (w : World) (h : -9223372036854775808 ≤ a) (h' : a ≤ 9223372036854775807) :
    Calls Try.prog 14 #[.int .i64 a] w fun e w' => e = .returned (.int .u64 (ptrW a)) ∧ w' = w := by
  by_cases c1 : a < 0
  · go_enter Try.func14, Try.ntmps14
    go_wp2
    all_goals go_ret
    all_goals exact ⟨ret_int (by unfold ptrW; split <;> omega), rfl⟩
  · by_cases c2 : 2147483647 < a
    all_goals
      go_enter Try.func14, Try.ntmps14
      go_wp2
      all_goals go_ret
      all_goals exact ⟨ret_int (by unfold ptrW; split <;> omega), rfl⟩
theorem rptr_any (a : Int) (w : World) (h : -9223372036854775808 ≤ a) (h' : a ≤ 9223372036854775807) :
    Calls Try.prog 15 #[.int .i64 a] w fun e w' => e = .returned (.int .u64 (ptrW a)) ∧ w' = w := by
  by_cases c1 : a < 0
  · go_enter Try.func15, Try.ntmps15
    go_wp2
    all_goals go_ret
    all_goals exact ⟨ret_int (by unfold ptrW; split <;> omega), rfl⟩
  · by_cases c2 : 2147483647 < a
    all_goals
      go_enter Try.func15, Try.ntmps15
      go_wp2
      all_goals go_ret
      all_goals exact ⟨ret_int (by unfold ptrW; split <;> omega), rfl⟩
theorem addr_any (x : Int) (w : World) (h : 0 ≤ x) (h' : x ≤ 18446744073709551615) :
    Calls Try.prog 16 #[.int .u64 x] w fun e w' => e = .returned (.int .i64 (addrW x)) ∧ w' = w := by
  by_cases c1 : x % 2 = 1
  · have g : isIntW x = true := by unfold isIntW; rw [beq_iff_eq]; omega
    have HC : Hid (x % 2 = 1) := c1
    clear c1
    go_enter Try.func16, Try.ntmps16
    go_wp2_with (go_at_call 12; refine (isInt_any _ _ (by omega) (by omega)).mono ?_; rintro e w' ⟨rfl, rfl⟩)
    all_goals go_ret
    all_goals exact ⟨ret_int (by have c1 := HC.out; unfold addrW; split <;> omega), rfl⟩
  · have g : isIntW x = false := by unfold isIntW; rw [beq_eq_false_iff_ne]; omega
    have HC : Hid (¬ x % 2 = 1) := c1
    clear c1
    by_cases c2 : 4294967294 < x
    all_goals
      go_enter Try.func16, Try.ntmps16
      go_wp2_with (go_at_call 12; refine (isInt_any _ _ (by omega) (by omega)).mono ?_; rintro e w' ⟨rfl, rfl⟩)
      all_goals go_ret
      all_goals exact ⟨ret_int (by have c1 := HC.out; unfold addrW; split <;> omega), rfl⟩
theorem raddr_any (x : Int) (w : World) (h : 0 ≤ x) (h' : x ≤ 18446744073709551615) :
    Calls Try.prog 17 #[.int .u64 x] w fun e w' => e = .returned (.int .i64 (addrW x)) ∧ w' = w := by
  by_cases c1 : x % 2 = 1
  · have g : (x % 2 == 1) = true := by rw [beq_iff_eq]; omega
    have HC : Hid (x % 2 = 1) := c1
    clear c1
    go_enter Try.func17, Try.ntmps17
    go_wp2
    all_goals go_ret
    all_goals exact ⟨ret_int (by have c1 := HC.out; unfold addrW; split <;> omega), rfl⟩
  · have g : (x % 2 == 1) = false := by rw [beq_eq_false_iff_ne]; omega
    have HC : Hid (¬ x % 2 = 1) := c1
    clear c1
    by_cases c2 : 4294967294 < x
    all_goals
      go_enter Try.func17, Try.ntmps17
      go_wp2
      all_goals go_ret
      all_goals exact ⟨ret_int (by have c1 := HC.out; unfold addrW; split <;> omega), rfl⟩
end Go.Proofs.Ytafanhhpfnjheaa
