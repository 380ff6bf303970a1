/-
  What the document's own loops return: a bit, a product, bits, doubling, halving; nothing in memory changes. Conditions: each argument is a number of 63 bits.
-/
import Derived.Test.YtcbgjkedmboifabRefNum
import Derived.Test.YtcbgjkedmboifabD6Ref
namespace Go.Proofs.Ytcbgjkedmboifab
open Go.ChangeShapes Go.WideShapes Go.ChangeAt Go.RowKit
set_option linter.unusedVariables false
set_option maxHeartbeats 400000

end Go.Proofs.Ytcbgjkedmboifab
