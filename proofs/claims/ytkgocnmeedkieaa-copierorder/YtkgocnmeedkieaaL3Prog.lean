/-
  What the program's Collect and Reach tell and make: reach_any and collect_any, of the two texts that are imported here. Condition: the arena lies in memory, in one state with a list of blocks.
-/
import Derived.Test.YtkgocnmeedkieaaC3Move
import Derived.Test.YtkgocnmeedkieaaC3Coll
