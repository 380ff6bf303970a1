/-
  What Do of package word returns, operation by operation, and what it leans on; nothing in memory changes. Conditions: each argument fits its kind.
-/
import Derived.Test.YtcbgjkedmboifabLibA
import Derived.Test.YtcbgjkedmboifabD6Do
namespace Go.Proofs.Ytcbgjkedmboifab
open Go.ChangeShapes Go.WideShapes Go.ChangeAt Go.RowKit
set_option linter.unusedVariables false
set_option maxHeartbeats 400000

theorem less_any (x y : Int) (w : World) (h : -9223372036854775808 ≤ x) (h' : x ≤ 9223372036854775807) (g : -9223372036854775808 ≤ y) (g' : y ≤ 9223372036854775807) :
    Calls Try.prog 66 #[.int .i64 x, .int .i64 y] w fun e w' => e = .returned (.int .i64 (lessN x y)) ∧ w' = w := by
  go_enter Try.func66, Try.ntmps66
  go_wp2
  all_goals go_ret
  all_goals exact ⟨ret_int (by unfold lessN; split <;> omega), rfl⟩
theorem doubled_any (x y : Int) (w : World) (h : -4611686018427387904 ≤ x) (h' : x ≤ 4611686018427387903) (g : -9223372036854775808 ≤ y) (g' : y ≤ 9223372036854775807) :
    Calls Try.prog 64 #[.int .i64 x, .int .i64 y] w fun e w' => e = .returned (.int .i64 (wrap64 (shlN x y))) ∧ w' = w := by
  by_cases c1 : y < 0
  · go_enter Try.func64, Try.ntmps64
    go_wp2
    all_goals go_ret
    all_goals exact ⟨ret_int (by unfold shlN; rw [if_pos (by omega), wrap64_def]; omega), rfl⟩
  · by_cases c2 : 62 < y
    · go_enter Try.func64, Try.ntmps64
      go_wp2
      all_goals go_ret
      all_goals exact ⟨ret_int (by unfold shlN; rw [if_pos (by omega), wrap64_def]; omega), rfl⟩
    · go_enter Try.func64, Try.ntmps64
      go_wp2
      all_goals go_ret
      all_goals exact ⟨ret_int (by unfold shlN; rw [if_neg (by omega)]), rfl⟩
theorem halved_any (x y : Int) (w : World) (h : -4611686018427387904 ≤ x) (h' : x ≤ 4611686018427387903) (g : -9223372036854775808 ≤ y) (g' : y ≤ 9223372036854775807) :
    Calls Try.prog 65 #[.int .i64 x, .int .i64 y] w fun e w' => e = .returned (.int .i64 (shrN x y)) ∧ w' = w := by
  by_cases c1 : y < 0
  · go_enter Try.func65, Try.ntmps65
    go_wp2
    all_goals go_ret
    all_goals exact ⟨ret_int (by unfold shrN; rw [if_pos (by omega)]; rfl), rfl⟩
  · by_cases c2 : 62 < y
    · go_enter Try.func65, Try.ntmps65
      go_wp2
      all_goals go_ret
      all_goals exact ⟨ret_int (by unfold shrN; rw [if_pos (by omega)]; rfl), rfl⟩
    · go_enter Try.func65, Try.ntmps65
      go_wp2
      all_goals go_ret
      all_goals exact ⟨ret_int (by unfold shrN; rw [if_neg (by omega)]), rfl⟩
theorem do_1 (a b : Int) (w : World) (h : 0 ≤ a) (h' : a ≤ 18446744073709551615) (g : 0 ≤ b) (g' : b ≤ 18446744073709551615) :
    Calls Try.prog 30 #[.int .i64 1, .int .u64 a, .int .u64 b] w fun e w' => e = .returned (.tuple #[.int .u64 (intW (numW a + numW b)), .int .i64 0]) ∧ w' = w := by
  have la := numW_lo a h
  have ha := numW_hi a h'
  have lb := numW_lo b g
  have hb := numW_hi b g'
  go_enter Try.func30, Try.ntmps30
  go_wp2_with (first | (go_at_call 63; refine (num_any _ _ (by omega) (by omega)).mono ?_; rintro e w' ⟨rfl, rfl⟩) | (go_at_call 25; refine (int_free _ _).mono ?_; rintro e w' ⟨rfl, rfl⟩))
  all_goals go_ret2
  all_goals exact ⟨ret_two (rfl) rfl, rfl⟩
theorem do_2 (a b : Int) (w : World) (h : 0 ≤ a) (h' : a ≤ 18446744073709551615) (g : 0 ≤ b) (g' : b ≤ 18446744073709551615) :
    Calls Try.prog 30 #[.int .i64 2, .int .u64 a, .int .u64 b] w fun e w' => e = .returned (.tuple #[.int .u64 (intW (numW a - numW b)), .int .i64 0]) ∧ w' = w := by
  have la := numW_lo a h
  have ha := numW_hi a h'
  have lb := numW_lo b g
  have hb := numW_hi b g'
  go_enter Try.func30, Try.ntmps30
  go_wp2_with (first | (go_at_call 63; refine (num_any _ _ (by omega) (by omega)).mono ?_; rintro e w' ⟨rfl, rfl⟩) | (go_at_call 25; refine (int_free _ _).mono ?_; rintro e w' ⟨rfl, rfl⟩))
  all_goals go_ret2
  all_goals exact ⟨ret_two (rfl) rfl, rfl⟩
theorem do_3 (a b : Int) (w : World) (h : 0 ≤ a) (h' : a ≤ 18446744073709551615) (g : 0 ≤ b) (g' : b ≤ 18446744073709551615) :
    Calls Try.prog 30 #[.int .i64 3, .int .u64 a, .int .u64 b] w fun e w' => e = .returned (.tuple #[.int .u64 (intW (numW a * numW b)), .int .i64 0]) ∧ w' = w := by
  have la := numW_lo a h
  have ha := numW_hi a h'
  have lb := numW_lo b g
  have hb := numW_hi b g'
  go_enter Try.func30, Try.ntmps30
  go_wp2_with (first | (go_at_call 63; refine (num_any _ _ (by omega) (by omega)).mono ?_; rintro e w' ⟨rfl, rfl⟩) | (go_at_call 25; refine (int_free _ _).mono ?_; rintro e w' ⟨rfl, rfl⟩))
  all_goals go_ret2
  all_goals exact ⟨ret_two (intW_wrap _) rfl, rfl⟩
theorem do_6 (a b : Int) (w : World) (h : 0 ≤ a) (h' : a ≤ 18446744073709551615) (g : 0 ≤ b) (g' : b ≤ 18446744073709551615) :
    Calls Try.prog 30 #[.int .i64 6, .int .u64 a, .int .u64 b] w fun e w' => e = .returned (.tuple #[.int .u64 (intW (andN (numW a) (numW b))), .int .i64 0]) ∧ w' = w := by
  have la := numW_lo a h
  have ha := numW_hi a h'
  have lb := numW_lo b g
  have hb := numW_hi b g'
  go_enter Try.func30, Try.ntmps30
  go_wp2_with (first | (go_at_call 63; refine (num_any _ _ (by omega) (by omega)).mono ?_; rintro e w' ⟨rfl, rfl⟩) | (go_at_call 25; refine (int_free _ _).mono ?_; rintro e w' ⟨rfl, rfl⟩))
  all_goals go_ret2
  all_goals exact ⟨ret_two (int_and _ _) rfl, rfl⟩
theorem do_7 (a b : Int) (w : World) (h : 0 ≤ a) (h' : a ≤ 18446744073709551615) (g : 0 ≤ b) (g' : b ≤ 18446744073709551615) :
    Calls Try.prog 30 #[.int .i64 7, .int .u64 a, .int .u64 b] w fun e w' => e = .returned (.tuple #[.int .u64 (intW (orN (numW a) (numW b))), .int .i64 0]) ∧ w' = w := by
  have la := numW_lo a h
  have ha := numW_hi a h'
  have lb := numW_lo b g
  have hb := numW_hi b g'
  go_enter Try.func30, Try.ntmps30
  go_wp2_with (first | (go_at_call 63; refine (num_any _ _ (by omega) (by omega)).mono ?_; rintro e w' ⟨rfl, rfl⟩) | (go_at_call 25; refine (int_free _ _).mono ?_; rintro e w' ⟨rfl, rfl⟩))
  all_goals go_ret2
  all_goals exact ⟨ret_two (int_or _ _) rfl, rfl⟩
theorem do_8 (a b : Int) (w : World) (h : 0 ≤ a) (h' : a ≤ 18446744073709551615) (g : 0 ≤ b) (g' : b ≤ 18446744073709551615) :
    Calls Try.prog 30 #[.int .i64 8, .int .u64 a, .int .u64 b] w fun e w' => e = .returned (.tuple #[.int .u64 (intW (xorN (numW a) (numW b))), .int .i64 0]) ∧ w' = w := by
  have la := numW_lo a h
  have ha := numW_hi a h'
  have lb := numW_lo b g
  have hb := numW_hi b g'
  go_enter Try.func30, Try.ntmps30
  go_wp2_with (first | (go_at_call 63; refine (num_any _ _ (by omega) (by omega)).mono ?_; rintro e w' ⟨rfl, rfl⟩) | (go_at_call 25; refine (int_free _ _).mono ?_; rintro e w' ⟨rfl, rfl⟩))
  all_goals go_ret2
  all_goals exact ⟨ret_two (int_xor _ _) rfl, rfl⟩
theorem do_9 (a b : Int) (w : World) (h : 0 ≤ a) (h' : a ≤ 18446744073709551615) (g : 0 ≤ b) (g' : b ≤ 18446744073709551615) :
    Calls Try.prog 30 #[.int .i64 9, .int .u64 a, .int .u64 b] w fun e w' => e = .returned (.tuple #[.int .u64 (intW (shlN (numW a) (numW b))), .int .i64 0]) ∧ w' = w := by
  have la := numW_lo a h
  have ha := numW_hi a h'
  have lb := numW_lo b g
  have hb := numW_hi b g'
  go_enter Try.func30, Try.ntmps30
  go_wp2_with (first | (go_at_call 63; refine (num_any _ _ (by omega) (by omega)).mono ?_; rintro e w' ⟨rfl, rfl⟩) | (go_at_call 25; refine (int_free _ _).mono ?_; rintro e w' ⟨rfl, rfl⟩) | (go_at_call 64; refine (doubled_any _ _ _ (by omega) (by omega) (by omega) (by omega)).mono ?_; rintro e w' ⟨rfl, rfl⟩))
  all_goals go_ret2
  all_goals exact ⟨ret_two (intW_wrap _) rfl, rfl⟩
theorem do_10 (a b : Int) (w : World) (h : 0 ≤ a) (h' : a ≤ 18446744073709551615) (g : 0 ≤ b) (g' : b ≤ 18446744073709551615) :
    Calls Try.prog 30 #[.int .i64 10, .int .u64 a, .int .u64 b] w fun e w' => e = .returned (.tuple #[.int .u64 (intW (shrN (numW a) (numW b))), .int .i64 0]) ∧ w' = w := by
  have la := numW_lo a h
  have ha := numW_hi a h'
  have lb := numW_lo b g
  have hb := numW_hi b g'
  go_enter Try.func30, Try.ntmps30
  go_wp2_with (first | (go_at_call 63; refine (num_any _ _ (by omega) (by omega)).mono ?_; rintro e w' ⟨rfl, rfl⟩) | (go_at_call 25; refine (int_free _ _).mono ?_; rintro e w' ⟨rfl, rfl⟩) | (go_at_call 65; refine (halved_any _ _ _ (by omega) (by omega) (by omega) (by omega)).mono ?_; rintro e w' ⟨rfl, rfl⟩))
  all_goals go_ret2
  all_goals exact ⟨ret_two (rfl) rfl, rfl⟩
theorem do_11 (a b : Int) (w : World) (h : 0 ≤ a) (h' : a ≤ 18446744073709551615) (g : 0 ≤ b) (g' : b ≤ 18446744073709551615) :
    Calls Try.prog 30 #[.int .i64 11, .int .u64 a, .int .u64 b] w fun e w' => e = .returned (.tuple #[.int .u64 (intW (lessN (numW a) (numW b))), .int .i64 0]) ∧ w' = w := by
  have la := numW_lo a h
  have ha := numW_hi a h'
  have lb := numW_lo b g
  have hb := numW_hi b g'
  go_enter Try.func30, Try.ntmps30
  go_wp2_with (first | (go_at_call 63; refine (num_any _ _ (by omega) (by omega)).mono ?_; rintro e w' ⟨rfl, rfl⟩) | (go_at_call 25; refine (int_free _ _).mono ?_; rintro e w' ⟨rfl, rfl⟩) | (go_at_call 66; refine (less_any _ _ _ (by omega) (by omega) (by omega) (by omega)).mono ?_; rintro e w' ⟨rfl, rfl⟩))
  all_goals go_ret2
  all_goals exact ⟨ret_two (rfl) rfl, rfl⟩
theorem do_4z (a b : Int) (w : World) (h : 0 ≤ a) (h' : a ≤ 18446744073709551615) (g : 0 ≤ b) (g' : b ≤ 18446744073709551615) (z : numW b = 0) :
    Calls Try.prog 30 #[.int .i64 4, .int .u64 a, .int .u64 b] w fun e w' => e = .returned (.tuple #[.int .u64 0, .int .i64 2]) ∧ w' = w := by
  have la := numW_lo a h
  have ha := numW_hi a h'
  have lb := numW_lo b g
  have hb := numW_hi b g'
  have z1 : (numW b == 0) = true := by rw [beq_iff_eq]; exact z
  have z2 : (numW b != 0) = false := by rw [bne_eq_false_iff_eq]; exact z
  clear z
  go_enter Try.func30, Try.ntmps30
  go_wp2_with (first | (go_at_call 63; refine (num_any _ _ (by omega) (by omega)).mono ?_; rintro e w' ⟨rfl, rfl⟩) | (go_at_call 25; refine (int_free _ _).mono ?_; rintro e w' ⟨rfl, rfl⟩))
  all_goals go_ret2
  all_goals exact ⟨ret_two rfl rfl, rfl⟩
theorem do_4 (a b : Int) (w : World) (h : 0 ≤ a) (h' : a ≤ 18446744073709551615) (g : 0 ≤ b) (g' : b ≤ 18446744073709551615) (z : numW b ≠ 0) :
    Calls Try.prog 30 #[.int .i64 4, .int .u64 a, .int .u64 b] w fun e w' => e = .returned (.tuple #[.int .u64 (intW ((numW a).tdiv (numW b))), .int .i64 0]) ∧ w' = w := by
  have la := numW_lo a h
  have ha := numW_hi a h'
  have lb := numW_lo b g
  have hb := numW_hi b g'
  have z1 : (numW b == 0) = false := by rw [beq_eq_false_iff_ne]; exact z
  have z2 : (numW b != 0) = true := by rw [bne_iff_ne]; exact z
  go_enter Try.func30, Try.ntmps30
  go_wp2_with (first | (go_at_call 63; refine (num_any _ _ (by omega) (by omega)).mono ?_; rintro e w' ⟨rfl, rfl⟩) | (go_at_call 25; refine (int_free _ _).mono ?_; rintro e w' ⟨rfl, rfl⟩))
  all_goals go_ret2
  all_goals exact ⟨ret_two (intW_wrap _) rfl, rfl⟩
theorem do_5z (a b : Int) (w : World) (h : 0 ≤ a) (h' : a ≤ 18446744073709551615) (g : 0 ≤ b) (g' : b ≤ 18446744073709551615) (z : numW b = 0) :
    Calls Try.prog 30 #[.int .i64 5, .int .u64 a, .int .u64 b] w fun e w' => e = .returned (.tuple #[.int .u64 0, .int .i64 2]) ∧ w' = w := by
  have la := numW_lo a h
  have ha := numW_hi a h'
  have lb := numW_lo b g
  have hb := numW_hi b g'
  have z1 : (numW b == 0) = true := by rw [beq_iff_eq]; exact z
  have z2 : (numW b != 0) = false := by rw [bne_eq_false_iff_eq]; exact z
  clear z
  go_enter Try.func30, Try.ntmps30
  go_wp2_with (first | (go_at_call 63; refine (num_any _ _ (by omega) (by omega)).mono ?_; rintro e w' ⟨rfl, rfl⟩) | (go_at_call 25; refine (int_free _ _).mono ?_; rintro e w' ⟨rfl, rfl⟩))
  all_goals go_ret2
  all_goals exact ⟨ret_two rfl rfl, rfl⟩
theorem do_5 (a b : Int) (w : World) (h : 0 ≤ a) (h' : a ≤ 18446744073709551615) (g : 0 ≤ b) (g' : b ≤ 18446744073709551615) (z : numW b ≠ 0) :
    Calls Try.prog 30 #[.int .i64 5, .int .u64 a, .int .u64 b] w fun e w' => e = .returned (.tuple #[.int .u64 (intW ((numW a).tmod (numW b))), .int .i64 0]) ∧ w' = w := by
  have la := numW_lo a h
  have ha := numW_hi a h'
  have lb := numW_lo b g
  have hb := numW_hi b g'
  have z1 : (numW b == 0) = false := by rw [beq_eq_false_iff_ne]; exact z
  have z2 : (numW b != 0) = true := by rw [bne_iff_ne]; exact z
  go_enter Try.func30, Try.ntmps30
  go_wp2_with (first | (go_at_call 63; refine (num_any _ _ (by omega) (by omega)).mono ?_; rintro e w' ⟨rfl, rfl⟩) | (go_at_call 25; refine (int_free _ _).mono ?_; rintro e w' ⟨rfl, rfl⟩))
  all_goals go_ret2
  all_goals exact ⟨ret_two (rfl) rfl, rfl⟩
theorem do_no (op a b : Int) (w : World) (h : 0 ≤ a) (h' : a ≤ 18446744073709551615) (g : 0 ≤ b) (g' : b ≤ 18446744073709551615) (o : -9223372036854775808 ≤ op) (o' : op ≤ 9223372036854775807) (z : op < 1 ∨ 11 < op) :
    Calls Try.prog 30 #[.int .i64 op, .int .u64 a, .int .u64 b] w fun e w' => e = .returned (.tuple #[.int .u64 0, .int .i64 1]) ∧ w' = w := by
  have la := numW_lo a h
  have ha := numW_hi a h'
  have lb := numW_lo b g
  have hb := numW_hi b g'
  have n1 : (op == 1) = false := by rw [beq_eq_false_iff_ne]; omega
  have n2 : (op == 2) = false := by rw [beq_eq_false_iff_ne]; omega
  have n3 : (op == 3) = false := by rw [beq_eq_false_iff_ne]; omega
  have n4 : (op == 4) = false := by rw [beq_eq_false_iff_ne]; omega
  have n5 : (op == 5) = false := by rw [beq_eq_false_iff_ne]; omega
  have n6 : (op == 6) = false := by rw [beq_eq_false_iff_ne]; omega
  have n7 : (op == 7) = false := by rw [beq_eq_false_iff_ne]; omega
  have n8 : (op == 8) = false := by rw [beq_eq_false_iff_ne]; omega
  have n9 : (op == 9) = false := by rw [beq_eq_false_iff_ne]; omega
  have n10 : (op == 10) = false := by rw [beq_eq_false_iff_ne]; omega
  have n11 : (op == 11) = false := by rw [beq_eq_false_iff_ne]; omega
  clear z
  go_enter Try.func30, Try.ntmps30
  go_wp2_with (first | (go_at_call 63; refine (num_any _ _ (by omega) (by omega)).mono ?_; rintro e w' ⟨rfl, rfl⟩) | (go_at_call 25; refine (int_free _ _).mono ?_; rintro e w' ⟨rfl, rfl⟩))
  all_goals go_ret2
  all_goals exact ⟨ret_two rfl rfl, rfl⟩
theorem do_any (op a b : Int) (w : World) (h : 0 ≤ a) (h' : a ≤ 18446744073709551615) (g : 0 ≤ b) (g' : b ≤ 18446744073709551615) (o : -9223372036854775808 ≤ op) (o' : op ≤ 9223372036854775807) :
    Calls Try.prog 30 #[.int .i64 op, .int .u64 a, .int .u64 b] w fun e w' => e = .returned (.tuple #[.int .u64 (doV op a b), .int .i64 (doE op b)]) ∧ w' = w := by
  by_cases c : op < 1 ∨ 11 < op
  · have e1 : doV op a b = 0 := by
      unfold doV
      rw [if_neg (by omega), if_neg (by omega), if_neg (by omega), if_neg (by omega), if_neg (by omega), if_neg (by omega), if_neg (by omega), if_neg (by omega), if_neg (by omega), if_neg (by omega), if_neg (by omega)]
    have e2 : doE op b = 1 := by unfold doE; rw [if_pos c]
    rw [e1, e2]
    exact do_no op a b w h h' g g' o o' c
  · have d : op = 1 ∨ op = 2 ∨ op = 3 ∨ op = 4 ∨ op = 5 ∨ op = 6 ∨ op = 7 ∨ op = 8 ∨ op = 9 ∨ op = 10 ∨ op = 11 := by omega
    clear c
    rcases d with rfl | rfl | rfl | rfl | rfl | rfl | rfl | rfl | rfl | rfl | rfl
    · exact do_1 a b w h h' g g'
    · exact do_2 a b w h h' g g'
    · exact do_3 a b w h h' g g'
    · by_cases z : numW b = 0
      · have e1 : doV 4 a b = 0 := by simp [doV, z]
        have e2 : doE 4 b = 2 := by simp [doE, z]
        rw [e1, e2]
        exact do_4z a b w h h' g g' z
      · have e1 : doV 4 a b = intW ((numW a).tdiv (numW b)) := by simp [doV, z]
        have e2 : doE 4 b = 0 := by simp [doE, z]
        rw [e1, e2]
        exact do_4 a b w h h' g g' z
    · by_cases z : numW b = 0
      · have e1 : doV 5 a b = 0 := by simp [doV, z]
        have e2 : doE 5 b = 2 := by simp [doE, z]
        rw [e1, e2]
        exact do_5z a b w h h' g g' z
      · have e1 : doV 5 a b = intW ((numW a).tmod (numW b)) := by simp [doV, z]
        have e2 : doE 5 b = 0 := by simp [doE, z]
        rw [e1, e2]
        exact do_5 a b w h h' g g' z
    · exact do_6 a b w h h' g g'
    · exact do_7 a b w h h' g g'
    · exact do_8 a b w h h' g g'
    · exact do_9 a b w h h' g g'
    · exact do_10 a b w h h' g g'
    · exact do_11 a b w h h' g g'
end Go.Proofs.Ytcbgjkedmboifab
