/-
  Layer 6: what a number more makes of a hash, by the document's own mix. Condition: the hash is a word, the number fits its kind.
-/
import Derived.Test.YtcbgjkedmboifabO6Nd
import Derived.Test.YtcbgjkedmboifabD6RDos
namespace Go.Proofs.Ytcbgjkedmboifab
open Go.ChangeShapes Go.WideShapes Go.ChangeAt Go.RowKit Go.Deep
set_option linter.unusedVariables false
set_option maxHeartbeats 1000000

/-- A number more. -/
def mixW (h n : Int) : Int := doV 1 (doV 3 h (intW 31)) (intW n)
theorem intW_rng (n : Int) : 0 ≤ intW n ∧ intW n ≤ 18446744073709551615 := by unfold intW; omega
theorem mixW_rng (h n : Int) : 0 ≤ mixW h n ∧ mixW h n ≤ 18446744073709551615 := by
  unfold mixW doV
  rw [if_pos rfl]
  exact intW_rng _
theorem doV3_rng (a b : Int) : 0 ≤ doV 3 a b ∧ doV 3 a b ≤ 18446744073709551615 := by
  unfold doV
  rw [if_neg (by decide), if_neg (by decide), if_pos rfl]
  exact intW_rng _
end Go.Proofs.Ytcbgjkedmboifab
