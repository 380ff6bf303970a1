/-
  What package word's Digits returns: the decimal numeral of the word's number; nothing that was in memory changes. Conditions: the argument fits its kind; the table of powers of ten reads as the library's initialiser lays it.
-/
import Derived.WalkLawsBesides
import Derived.Lib.AppendIntMem
import Derived.Test.YtafanhhpfnjheabDoorWords
import Derived.Test.YtafanhhpfnjheabDoorShelf
namespace Go.Proofs.YtafanhhpfnjheabDoor
open Go.ChangeShapes Go.WideShapes Go.ChangeAt Go.RowKit
set_option linter.unusedVariables false
set_option maxHeartbeats 400000

theorem digits_any (x : Int) (w : World) (h : 0 ≤ x) (h' : x ≤ 18446744073709551615) (htab : Lib.TabIs Tryd.prog w "internal/strconv.uint64pow10" .u64 Lib.pow10Tab) :
    Calls Tryd.prog 6 #[.int .u64 x] w fun e w' => e = .returned (.string ⟨(Lib.itoa (numW x)).toArray⟩) ∧ Below w.heap.size w w' := by
  have lo := numW_lo x h
  have hi := numW_hi x h'
  go_enter Tryd.func6, Tryd.ntmps6
  go_wp2_with (go_at_call 10; refine (num_any _ _ (by omega) (by omega)).mono ?_; rintro e w' ⟨rfl, rfl⟩)
  refine (Tryd.strconv_FormatInt_10 (numW x) (by omega) (by omega) _ htab).mono ?_
  rintro e w1 ⟨rfl, k, os, rfl⟩
  have hb := Lib.below_grow w'.heap.size w' (Nat.le_refl _) k os
  go_wp2_with fail
  all_goals go_ret
  all_goals exact ⟨rfl, hb⟩
end Go.Proofs.YtafanhhpfnjheabDoor
