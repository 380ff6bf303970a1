/-
  What the functions of package word for numbers, addresses and headers return, and the document's own ones, each by its plain arithmetic; nothing in memory changes. Conditions: each argument fits its kind.
-/
import Derived.Test.YtkgocnmeedkieaaRows
import Derived.ProofKit
import Derived.OpenShut
import Derived.Test.YtkgocnmeedkieaaPlain
namespace Go.Proofs.Ytkgocnmeedkieaa
open Go.ChangeShapes Go.WideShapes Go.ChangeAt Go.RowKit
set_option linter.unusedVariables false
set_option maxHeartbeats 400000

theorem int_any (n : Int) (w : World) (h : -9223372036854775808 ≤ n) (h' : n ≤ 9223372036854775807) :
    Calls Try.prog 57 #[.int .i64 n] w fun e w' => e = .returned (.int .u64 (intW n)) ∧ w' = w := by
  go_enter Try.func57, Try.ntmps57
  go_wp2
  go_ret
  exact ⟨ret_int (int_walk n), rfl⟩
theorem int_free (n : Int) (w : World) :
    Calls Try.prog 57 #[.int .i64 n] w fun e w' => e = .returned (.int .u64 (intW n)) ∧ w' = w := by
  go_enter Try.func57, Try.ntmps57
  go_wp2
  go_ret
  exact ⟨ret_int (int_walk n), rfl⟩
theorem num_any (x : Int) (w : World) (h : 0 ≤ x) (h' : x ≤ 18446744073709551615) :
    Calls Try.prog 77 #[.int .u64 x] w fun e w' => e = .returned (.int .i64 (numW x)) ∧ w' = w := by
  go_enter Try.func77, Try.ntmps77
  go_wp2
  go_ret
  exact ⟨ret_int (num_walk x h h'), rfl⟩
theorem isInt_any (x : Int) (w : World) (h : 0 ≤ x) (h' : x ≤ 18446744073709551615) :
    Calls Try.prog 78 #[.int .u64 x] w fun e w' => e = .returned (.bool (isIntW x)) ∧ w' = w := by
  go_enter Try.func78, Try.ntmps78
  go_wp2
  go_ret
  exact ⟨ret_bool (by rw [and_one x h h']; rfl), rfl⟩
end Go.Proofs.Ytkgocnmeedkieaa
