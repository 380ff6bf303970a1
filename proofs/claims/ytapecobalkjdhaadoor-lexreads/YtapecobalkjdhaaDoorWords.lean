/-
  What the functions of package word for numbers, addresses and headers return, and the document's own ones, each by its plain arithmetic; nothing in memory changes. Conditions: each argument fits its kind.
-/
import Derived.Test.YtapecobalkjdhaaDoorRows
import Derived.ProofKit
import Derived.OpenShut
import Derived.Test.YtapecobalkjdhaaDoorPlain
namespace Go.Proofs.YtapecobalkjdhaaDoor
open Go.ChangeShapes Go.WideShapes Go.ChangeAt Go.RowKit
set_option linter.unusedVariables false
set_option maxHeartbeats 400000

theorem int_any (n : Int) (w : World) (h : -9223372036854775808 ≤ n) (h' : n ≤ 9223372036854775807) :
    Calls Tryd.prog 68 #[.int .i64 n] w fun e w' => e = .returned (.int .u64 (intW n)) ∧ w' = w := by
  go_enter Tryd.func68, Tryd.ntmps68
  go_wp2
  go_ret
  exact ⟨ret_int (int_walk n), rfl⟩
theorem int_free (n : Int) (w : World) :
    Calls Tryd.prog 68 #[.int .i64 n] w fun e w' => e = .returned (.int .u64 (intW n)) ∧ w' = w := by
  go_enter Tryd.func68, Tryd.ntmps68
  go_wp2
  go_ret
  exact ⟨ret_int (int_walk n), rfl⟩
theorem num_any (x : Int) (w : World) (h : 0 ≤ x) (h' : x ≤ 18446744073709551615) :
    Calls Tryd.prog 57 #[.int .u64 x] w fun e w' => e = .returned (.int .i64 (numW x)) ∧ w' = w := by
  go_enter Tryd.func57, Tryd.ntmps57
  go_wp2
  go_ret
  exact ⟨ret_int (num_walk x h h'), rfl⟩
end Go.Proofs.YtapecobalkjdhaaDoor
