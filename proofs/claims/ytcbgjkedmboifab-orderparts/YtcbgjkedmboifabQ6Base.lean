/-
  Layer 6, the program's order: numbers and texts held against each other, what is wrong with words, what is told first. Condition: the arena lies in memory, in one state with a list of blocks.
-/
import Derived.Test.YtcbgjkedmboifabO6Str
import Derived.Test.YtcbgjkedmboifabO6CmpA
import Derived.Test.YtcbgjkedmboifabE5Read
namespace Go.Proofs.Ytcbgjkedmboifab
open Go.ChangeShapes Go.WideShapes Go.ChangeAt Go.RowKit Go.Deep
set_option linter.unusedVariables false
set_option maxHeartbeats 1000000

variable {w w' : World} {p : Pl} {s : St} {r : RS}
theorem isIntP_is {b : Bool} (x : Int) (w : World) (h : 0 ≤ x) (h' : x ≤ 18446744073709551615) (e : isIntW x = b) :
    Calls Try.prog 38 #[.int .u64 x] w fun e w' => e = .returned (.bool b) ∧ w' = w := by
  subst e; exact isInt_any x w h h'
theorem nan_int (x : Int) (w : World) : Calls Try.prog 76 #[.int .i64 x] w fun e w' => e = .returned (.bool false) ∧ w' = w := by
  go_enter Try.func76, Try.ntmps76
  go_wp2
  go_ret
  exact ⟨by simp, rfl⟩
theorem nan_int64 (x : Int) (w : World) : Calls Try.prog 88 #[.int .i64 x] w fun e w' => e = .returned (.bool false) ∧ w' = w := by
  go_enter Try.func88, Try.ntmps88
  go_wp2
  go_ret
  exact ⟨by simp, rfl⟩
theorem nan_str (x : ByteArray) (w : World) : Calls Try.prog 94 #[.string x] w fun e w' => e = .returned (.bool false) ∧ w' = w := by
  go_enter Try.func94, Try.ntmps94
  go_wp2
  go_ret
  exact ⟨by simp, rfl⟩
theorem cmp_int {n : Int} (x y : Int) (w : World) (e : sgn x y = n) : Calls Try.prog 41 #[.int .i64 x, .int .i64 y] w fun e w' => e = .returned (.int .i64 n) ∧ w' = w := by
  subst e
  go_enter Try.func41, Try.ntmps41
  go_wp2_with (go_at_call 76; refine (nan_int _ _).mono ?_; rintro e w' ⟨rfl, hw'⟩; rw [hw']; clear hw' w')
  all_goals go_ret
  all_goals exact ⟨ret_int (by unfold sgn; split <;> (try split) <;> omega), rfl⟩
theorem cmp_int64 {n : Int} (x y : Int) (w : World) (e : sgn x y = n) : Calls Try.prog 75 #[.int .i64 x, .int .i64 y] w fun e w' => e = .returned (.int .i64 n) ∧ w' = w := by
  subst e
  go_enter Try.func75, Try.ntmps75
  go_wp2_with (go_at_call 88; refine (nan_int64 _ _).mono ?_; rintro e w' ⟨rfl, hw'⟩; rw [hw']; clear hw' w')
  all_goals go_ret
  all_goals exact ⟨ret_int (by unfold sgn; split <;> (try split) <;> omega), rfl⟩
theorem cmp_str {n : Int} (x y : ByteArray) (w : World) (e : sgnL (intsS x) (intsS y) = n) : Calls Try.prog 79 #[.string x, .string y] w fun e w' => e = .returned (.int .i64 n) ∧ w' = w := by
  have HL : Hid (Go.Op.bytesLess x.toList y.toList = decide (n = -1)) := by
    show _ = _
    rw [← e, Go.ByteArray.toList_eq, Go.ByteArray.toList_eq]
    exact less_sgn _ _
  have HE : Hid ((x.toList == y.toList) = decide (n = 0)) := by
    show _ = _
    rw [← e, Go.ByteArray.toList_eq, Go.ByteArray.toList_eq]
    exact same_sgn _ _
  have h3 := sgnL_three (intsS x) (intsS y)
  rw [e] at h3
  clear e
  have HL1 := HL.out
  have HE1 := HE.out
  clear HL HE
  rcases h3 with rfl | rfl | rfl
  · have e1 : Go.Op.bytesLess x.toList y.toList = true := HL1
    clear HL1 HE1
    go_enter Try.func79, Try.ntmps79
    go_wp2_with (go_at_call 94; refine (nan_str _ _).mono ?_; rintro e w' ⟨rfl, hw'⟩; rw [hw']; clear hw' w')
    all_goals go_ret
    all_goals exact ⟨rfl, rfl⟩
  · have e1 : Go.Op.bytesLess x.toList y.toList = false := HL1
    have e2 : ∀ w', Sem.run Try.prog (binOp BinOp.gtr 9 (.string x) (.string y)) w' = .ok (.bool false) w' := fun w' => by
      have h2 : (x.toList == y.toList) = true := HE1
      show Sem.run Try.prog (Go.Op.stringOp BinOp.gtr x y) w' = _
      unfold Go.Op.stringOp
      simp only [HL1, h2]
      rfl
    clear HL1 HE1
    go_enter Try.func79, Try.ntmps79
    go_wp2_with (go_at_call 94; refine (nan_str _ _).mono ?_; rintro e w' ⟨rfl, hw'⟩; rw [hw']; clear hw' w')
    all_goals go_ret
    all_goals exact ⟨rfl, rfl⟩
  · have e1 : Go.Op.bytesLess x.toList y.toList = false := HL1
    have e2 : ∀ w', Sem.run Try.prog (binOp BinOp.gtr 9 (.string x) (.string y)) w' = .ok (.bool true) w' := fun w' => by
      have h2 : (x.toList == y.toList) = false := HE1
      show Sem.run Try.prog (Go.Op.stringOp BinOp.gtr x y) w' = _
      unfold Go.Op.stringOp
      simp only [HL1, h2]
      rfl
    clear HL1 HE1
    go_enter Try.func79, Try.ntmps79
    go_wp2_with (go_at_call 94; refine (nan_str _ _).mono ?_; rintro e w' ⟨rfl, hw'⟩; rw [hw']; clear hw' w')
    all_goals go_ret
    all_goals exact ⟨rfl, rfl⟩
end Go.Proofs.Ytcbgjkedmboifab
