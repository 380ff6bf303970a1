/-
  What the document's own Do returns, operation by operation; nothing in memory changes. Conditions: each argument fits its kind.
-/
import Derived.Test.YtcbgjkedmboifabD6Loops
namespace Go.Proofs.Ytcbgjkedmboifab
open Go.ChangeShapes Go.WideShapes Go.ChangeAt Go.RowKit
set_option linter.unusedVariables false
set_option maxHeartbeats 400000

end Go.Proofs.Ytcbgjkedmboifab
