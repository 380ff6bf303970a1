/-
  What the document's own functions for numbers, addresses and headers return, and package word's for addresses and headers, each by its plain arithmetic; nothing in memory changes. Conditions: each argument fits its kind.
-/
import Derived.Test.YtapecobalkjdhaaDoorWords
namespace Go.Proofs.YtapecobalkjdhaaDoor
open Go.ChangeShapes Go.WideShapes Go.ChangeAt Go.RowKit
set_option linter.unusedVariables false
set_option maxHeartbeats 400000

theorem rcut_any (n : Int) (w : World) (h : -9223372036854775808 ≤ n) (h' : n ≤ 9223372036854775807) :
    Calls Tryd.prog 60 #[.int .i64 n] w fun e w' => e = .returned (.int .i64 (cutN n)) ∧ w' = w := by
  go_enter Tryd.func60, Tryd.ntmps60
  go_wp2
  all_goals go_ret
  all_goals exact ⟨ret_int (by unfold cutN; omega), rfl⟩
theorem rint_any (n : Int) (w : World) (h : -9223372036854775808 ≤ n) (h' : n ≤ 9223372036854775807) :
    Calls Tryd.prog 45 #[.int .i64 n] w fun e w' => e = .returned (.int .u64 (intW n)) ∧ w' = w := by
  have lo := cutN_lo n
  have hi := cutN_hi n
  go_enter Tryd.func45, Tryd.ntmps45
  go_wp2_with (go_at_call 60; refine (rcut_any _ _ (by omega) (by omega)).mono ?_; rintro e w' ⟨rfl, rfl⟩)
  all_goals go_ret
  all_goals refine ⟨ret_int ?_, rfl⟩
  · rw [← intW_cut n, IntKind.wrap_u64, IntKind.wrap_u64]; unfold intW; omega
  · rw [← intW_cut n]; unfold intW; omega
theorem rnum_any (x : Int) (w : World) (h : 0 ≤ x) (h' : x ≤ 18446744073709551615) :
    Calls Tryd.prog 28 #[.int .u64 x] w fun e w' => e = .returned (.int .i64 (numW x)) ∧ w' = w := by
  go_enter Tryd.func28, Tryd.ntmps28
  go_wp2
  all_goals go_ret
  all_goals exact ⟨ret_int (by unfold numW; split <;> omega), rfl⟩
end Go.Proofs.YtapecobalkjdhaaDoor
