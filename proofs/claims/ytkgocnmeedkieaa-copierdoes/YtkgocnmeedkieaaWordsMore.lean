/-
  What package word's functions for addresses and headers return, each by its plain arithmetic; nothing in memory changes. Conditions: each argument fits its kind.
-/
import Derived.Test.YtkgocnmeedkieaaWords
namespace Go.Proofs.Ytkgocnmeedkieaa
open Go.ChangeShapes Go.WideShapes Go.ChangeAt Go.RowKit
set_option linter.unusedVariables false
set_option maxHeartbeats 400000

theorem ptr_any (a : Int) (w : World) (h : -9223372036854775808 ≤ a) (h' : a ≤ 9223372036854775807) :
    Calls Try.prog 48 #[.int .i64 a] w fun e w' => e = .returned (.int .u64 (ptrW a)) ∧ w' = w := by
  by_cases c1 : a < 0
  · go_enter Try.func48, Try.ntmps48
    go_wp2
    all_goals go_ret
    all_goals exact ⟨ret_int (by unfold ptrW; split <;> omega), rfl⟩
  · by_cases c2 : 2147483647 < a
    all_goals
      go_enter Try.func48, Try.ntmps48
      go_wp2
      all_goals go_ret
      all_goals exact ⟨ret_int (by unfold ptrW; split <;> omega), rfl⟩
theorem addr_any (x : Int) (w : World) (h : 0 ≤ x) (h' : x ≤ 18446744073709551615) :
    Calls Try.prog 69 #[.int .u64 x] w fun e w' => e = .returned (.int .i64 (addrW x)) ∧ w' = w := by
  by_cases c1 : x % 2 = 1
  · have g : isIntW x = true := by unfold isIntW; rw [beq_iff_eq]; omega
    have HC : Hid (x % 2 = 1) := c1
    clear c1
    go_enter Try.func69, Try.ntmps69
    go_wp2_with (go_at_call 78; refine (isInt_any _ _ (by omega) (by omega)).mono ?_; rintro e w' ⟨rfl, rfl⟩)
    all_goals go_ret
    all_goals exact ⟨ret_int (by have c1 := HC.out; unfold addrW; split <;> omega), rfl⟩
  · have g : isIntW x = false := by unfold isIntW; rw [beq_eq_false_iff_ne]; omega
    have HC : Hid (¬ x % 2 = 1) := c1
    clear c1
    by_cases c2 : 4294967294 < x
    all_goals
      go_enter Try.func69, Try.ntmps69
      go_wp2_with (go_at_call 78; refine (isInt_any _ _ (by omega) (by omega)).mono ?_; rintro e w' ⟨rfl, rfl⟩)
      all_goals go_ret
      all_goals exact ⟨ret_int (by have c1 := HC.out; unfold addrW; split <;> omega), rfl⟩
theorem head_any (t s : Int) (w : World) (h : -9223372036854775808 ≤ t) (h' : t ≤ 9223372036854775807) (g : -9223372036854775808 ≤ s) (g' : s ≤ 9223372036854775807) :
    Calls Try.prog 55 #[.int .i64 t, .int .i64 s] w fun e w' => e = .returned (.int .u64 (headW t s)) ∧ w' = w := by
  by_cases c : t < 0 ∨ 255 < t ∨ s < 0 ∨ 2147483647 < s
  · have hv : headW t s = 0 := by unfold headW; rw [if_pos c]
    rw [hv]
    clear hv
    by_cases c1 : t < 0
    · clear c
      go_enter Try.func55, Try.ntmps55
      go_wp2_with fail
      all_goals go_ret
      all_goals exact ⟨rfl, rfl⟩
    · by_cases c2 : 255 < t
      · clear c
        go_enter Try.func55, Try.ntmps55
        go_wp2_with fail
        all_goals go_ret
        all_goals exact ⟨rfl, rfl⟩
      · by_cases c3 : s < 0
        · clear c
          go_enter Try.func55, Try.ntmps55
          go_wp2_with fail
          all_goals go_ret
          all_goals exact ⟨rfl, rfl⟩
        · have c4 : 2147483647 < s := by omega
          clear c
          go_enter Try.func55, Try.ntmps55
          go_wp2_with fail
          all_goals go_ret
          all_goals exact ⟨rfl, rfl⟩
  · have hv : headW t s = intW (256 * s + t) := by unfold headW; rw [if_neg c]
    rw [hv]
    clear hv
    have c1 : 0 ≤ t := by omega
    have c2 : t ≤ 255 := by omega
    have c3 : 0 ≤ s := by omega
    have c4 : s ≤ 2147483647 := by omega
    clear c
    go_enter Try.func55, Try.ntmps55
    go_wp2_with (go_at_call 57; refine (int_any _ _ (by omega) (by omega)).mono ?_; rintro e w' ⟨rfl, rfl⟩)
    all_goals go_ret
    all_goals exact ⟨ret_int (by first | (congr 1; done) | (congr 1; omega)), rfl⟩
theorem isHead_any (x : Int) (w : World) (h : 0 ≤ x) (h' : x ≤ 18446744073709551615) :
    Calls Try.prog 76 #[.int .u64 x] w fun e w' => e = .returned (.bool (isHeadW x)) ∧ w' = w := by
  have lo := numW_lo x h
  have hi := numW_hi x h'
  cases g : isIntW x
  · have HV : Hid (isHeadW x = false) := by unfold isHeadW; unfold isIntW at g; rw [g]; rfl
    go_enter Try.func76, Try.ntmps76
    go_wp2_with (first | (go_at_call 77; refine (num_any _ _ (by omega) (by omega)).mono ?_; rintro e w' ⟨rfl, rfl⟩) | (go_at_call 78; refine (isInt_any _ _ (by omega) (by omega)).mono ?_; rintro e w' ⟨rfl, rfl⟩))
    all_goals go_ret
    all_goals exact ⟨ret_bool (by rw [HV.out]), rfl⟩
  · have HV : Hid (isHeadW x = (decide (0 ≤ numW x) && decide (numW x ≤ 549755813887))) := by unfold isHeadW; unfold isIntW at g; rw [g]; rfl
    by_cases c1 : 0 ≤ numW x
    · go_enter Try.func76, Try.ntmps76
      go_wp2_with (first | (go_at_call 77; refine (num_any _ _ (by omega) (by omega)).mono ?_; rintro e w' ⟨rfl, rfl⟩) | (go_at_call 78; refine (isInt_any _ _ (by omega) (by omega)).mono ?_; rintro e w' ⟨rfl, rfl⟩))
      all_goals go_ret
      all_goals exact ⟨ret_bool (by rw [HV.out]; simp [c1]), rfl⟩
    · go_enter Try.func76, Try.ntmps76
      go_wp2_with (first | (go_at_call 77; refine (num_any _ _ (by omega) (by omega)).mono ?_; rintro e w' ⟨rfl, rfl⟩) | (go_at_call 78; refine (isInt_any _ _ (by omega) (by omega)).mono ?_; rintro e w' ⟨rfl, rfl⟩))
      all_goals go_ret
      all_goals exact ⟨ret_bool (by rw [HV.out, decide_eq_false (by omega : ¬ 0 ≤ numW x)]; rfl), rfl⟩
theorem tag_any (x : Int) (w : World) (h : 0 ≤ x) (h' : x ≤ 18446744073709551615) :
    Calls Try.prog 72 #[.int .u64 x] w fun e w' => e = .returned (.int .i64 (tagW x)) ∧ w' = w := by
  have lo := numW_lo x h
  have hi := numW_hi x h'
  cases g : isHeadW x
  · have HV : Hid (tagW x = 0) := by unfold tagW; rw [g]; rfl
    go_enter Try.func72, Try.ntmps72
    go_wp2_with (first | (go_at_call 77; refine (num_any _ _ (by omega) (by omega)).mono ?_; rintro e w' ⟨rfl, rfl⟩) | (go_at_call 76; refine (isHead_any _ _ (by omega) (by omega)).mono ?_; rintro e w' ⟨rfl, rfl⟩))
    all_goals go_ret
    all_goals exact ⟨ret_int HV.out.symm, rfl⟩
  · have HV : Hid (tagW x = numW x % 256) := by unfold tagW; rw [g]; rfl
    have c1 : 0 ≤ numW x := by unfold isHeadW at g; simp at g; omega
    have c2 : numW x ≤ 549755813887 := by unfold isHeadW at g; simp at g; omega
    go_enter Try.func72, Try.ntmps72
    go_wp2_with (first | (go_at_call 77; refine (num_any _ _ (by omega) (by omega)).mono ?_; rintro e w' ⟨rfl, rfl⟩) | (go_at_call 76; refine (isHead_any _ _ (by omega) (by omega)).mono ?_; rintro e w' ⟨rfl, rfl⟩))
    all_goals go_ret
    all_goals exact ⟨ret_int (by rw [and_255 _ c1 hi]; exact HV.out.symm), rfl⟩
theorem size_any (x : Int) (w : World) (h : 0 ≤ x) (h' : x ≤ 18446744073709551615) :
    Calls Try.prog 68 #[.int .u64 x] w fun e w' => e = .returned (.int .i64 (sizeW x)) ∧ w' = w := by
  have lo := numW_lo x h
  have hi := numW_hi x h'
  cases g : isHeadW x
  · have HV : Hid (sizeW x = 0) := by unfold sizeW; rw [g]; rfl
    go_enter Try.func68, Try.ntmps68
    go_wp2_with (first | (go_at_call 77; refine (num_any _ _ (by omega) (by omega)).mono ?_; rintro e w' ⟨rfl, rfl⟩) | (go_at_call 76; refine (isHead_any _ _ (by omega) (by omega)).mono ?_; rintro e w' ⟨rfl, rfl⟩))
    all_goals go_ret
    all_goals exact ⟨ret_int HV.out.symm, rfl⟩
  · have HV : Hid (sizeW x = numW x / 256) := by unfold sizeW; rw [g]; rfl
    have c1 : 0 ≤ numW x := by unfold isHeadW at g; simp at g; omega
    have c2 : numW x ≤ 549755813887 := by unfold isHeadW at g; simp at g; omega
    go_enter Try.func68, Try.ntmps68
    go_wp2_with (first | (go_at_call 77; refine (num_any _ _ (by omega) (by omega)).mono ?_; rintro e w' ⟨rfl, rfl⟩) | (go_at_call 76; refine (isHead_any _ _ (by omega) (by omega)).mono ?_; rintro e w' ⟨rfl, rfl⟩))
    all_goals go_ret
    all_goals exact ⟨ret_int HV.out.symm, rfl⟩
end Go.Proofs.Ytkgocnmeedkieaa
