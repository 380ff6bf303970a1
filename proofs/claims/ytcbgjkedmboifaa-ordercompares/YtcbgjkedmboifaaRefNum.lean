/-
  What the document's own Num returns, by its plain arithmetic; nothing in memory changes. Condition: the argument fits its kind.
-/
import Derived.Test.YtcbgjkedmboifaaLibB
namespace Go.Proofs.Ytcbgjkedmboifaa
open Go.ChangeShapes Go.WideShapes Go.ChangeAt Go.RowKit
set_option linter.unusedVariables false
set_option maxHeartbeats 400000

theorem rnum_any (x : Int) (w : World) (h : 0 ≤ x) (h' : x ≤ 18446744073709551615) :
    Calls Try.prog 16 #[.int .u64 x] w fun e w' => e = .returned (.int .i64 (numW x)) ∧ w' = w := by
  go_enter Try.func16, Try.ntmps16
  go_wp2
  all_goals go_ret
  all_goals exact ⟨ret_int (by unfold numW; split <;> omega), rfl⟩
end Go.Proofs.Ytcbgjkedmboifaa
