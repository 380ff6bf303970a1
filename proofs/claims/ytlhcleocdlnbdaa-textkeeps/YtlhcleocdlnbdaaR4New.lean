/-
  Layer 4: the document's own Mem is made. No condition but the number of cells.
-/
import Derived.Test.YtlhcleocdlnbdaaR4Mem
namespace Go.Proofs.Ytlhcleocdlnbdaa
open Go.ChangeShapes Go.WideShapes Go.ChangeAt Go.RowKit Go.Deep
set_option linter.unusedVariables false
set_option maxHeartbeats 2000000
theorem good_new {n : Nat} (h1 : 2 ≤ n) (h2 : n ≤ 32768) : ∃ s, Good s ⟨n, 0, []⟩ :=
  valid_good ⟨Nat.zero_le _, h1, h2, Nat.zero_le _, fun i b hb => by simp at hb, fun i b hb => by simp at hb, fun i b hb => by simp at hb, fun i b hb => by simp at hb⟩
/-- What New hands back, and how all lies then. -/
def New4As (n : Nat) (w : World) (e : Ending) (w' : World) : Prop := ∃ kb rb, e = .returned (.pointer (some ⟨kb, 0, none⟩)) ∧ MI kb rb w' ⟨n, 0, []⟩ 0 (none, 0, fun _ => .slice none 0 0) ∧ Below w.heap.size w w' ∧ w.heap.size ≤ kb ∧ w.heap.size ≤ rb
theorem r4new_yes (n : Nat) (w : World) (h1 : 2 ≤ n) (h2 : n ≤ 32768) (h4 : 4 ≤ w.heap.size) : Calls Try.prog 10 #[.int .i64 n] w fun e w' => New4As n w e w' := by
  have HG := hidden (good_new h1 h2)
  go_enter Try.func10, Try.ntmps10
  go_wp2_with (go_at_call 27; refine (rnew_yes (n : Int) _ (by omega) (by omega)).mono ?_; rintro e w1 ⟨rfl, rf1, b1⟩; rw [Int.toNat_natCast] at rf1)
  go_ret
  have hrb := lt_of_some rf1.hr
  refine ⟨w1.heap.size, w.heap.size, rfl, ⟨rf1.frame (S := fun _ => False) ((Only.refl _ _).alloc _) (fun _ _ => id), HG.out, blk_alloc_new _ _, h4⟩, b1.alloc b1.size _, by omega, Nat.le_refl _⟩
theorem r4new_no (n : Int) (w : World) (h : n < 2 ∨ 32768 < n) : Calls Try.prog 10 #[.int .i64 n] w fun e w' => e = .returned (.pointer none) ∧ w' = w := by
  go_enter Try.func10, Try.ntmps10
  go_wp2_with (go_at_call 27; refine (rnew_no n _ h).mono ?_; rintro e w1 ⟨rfl, hw⟩; rw [hw]; clear hw w1)
  go_ret
  exact ⟨rfl, rfl⟩
end Go.Proofs.Ytlhcleocdlnbdaa
