/-
  Layer 7, the program's words and signs. No condition.
-/
import Derived.Test.YtapecobalkjdhaaDoorR7Num
namespace Go.Proofs.YtapecobalkjdhaaDoor
open Go.ChangeShapes Go.WideShapes Go.ChangeAt Go.RowKit Go.Deep
set_option linter.unusedVariables false
set_option linter.unusedSimpArgs false
set_option maxHeartbeats 4000000
set_option maxRecDepth 20000

theorem isWordP_any {b : Bool} (s : ByteArray) (w : World) (e : wordsL.contains s.data.toList = b) : Calls Tryd.prog 13 #[.string s] w fun e w' => e = .returned (.bool b) ∧ w' = w := by
  have HE := hidden e
  clear e
  go_enter Tryd.func13, Tryd.ntmps13
  go_wp2
  all_goals go_ret
  all_goals refine ⟨ret_bool ?_, rfl⟩
  all_goals rw [← HE.out, ← Go.ByteArray.toList_eq]
  all_goals clear HE
  all_goals first
    | (exfalso; rename_i h1 h2; rw [h1] at h2; cases h2; done)
    | simp only [wordsL, List.contains_cons, List.contains_nil, *, Bool.true_or, Bool.or_true, Bool.false_or, Bool.or_false]
theorem isSign_any {b : Bool} (s : ByteArray) (w : World) (e : signsL.contains s.data.toList = b) : Calls Tryd.prog 59 #[.string s] w fun e w' => e = .returned (.bool b) ∧ w' = w := by
  have HE := hidden e
  clear e
  go_enter Tryd.func59, Tryd.ntmps59
  go_wp2
  all_goals go_ret
  all_goals refine ⟨ret_bool ?_, rfl⟩
  all_goals rw [← HE.out, ← Go.ByteArray.toList_eq]
  all_goals clear HE
  all_goals first
    | (exfalso; rename_i h1 h2; rw [h1] at h2; cases h2; done)
    | simp only [signsL, List.contains_cons, List.contains_nil, *, Bool.true_or, Bool.or_true, Bool.false_or, Bool.or_false]
end Go.Proofs.YtapecobalkjdhaaDoor
