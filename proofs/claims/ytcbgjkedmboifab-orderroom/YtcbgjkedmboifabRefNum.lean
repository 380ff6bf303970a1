/-
  What the document's own Num returns, by its plain arithmetic; nothing in memory changes. Condition: the argument fits its kind.
-/
import Derived.Test.YtcbgjkedmboifabLibB
namespace Go.Proofs.Ytcbgjkedmboifab
open Go.ChangeShapes Go.WideShapes Go.ChangeAt Go.RowKit
set_option linter.unusedVariables false
set_option maxHeartbeats 400000

end Go.Proofs.Ytcbgjkedmboifab
