/-
  Layer 6: what a number more makes of a hash, by the document's own mix. Condition: the hash is a word, the number fits its kind.
-/
import Derived.Test.YtcbgjkedmboifaaO6Nd
import Derived.Test.YtcbgjkedmboifaaD6RDos
namespace Go.Proofs.Ytcbgjkedmboifaa
open Go.ChangeShapes Go.WideShapes Go.ChangeAt Go.RowKit Go.Deep
set_option linter.unusedVariables false
set_option maxHeartbeats 1000000

/-- A number more. -/
def mixW (h n : Int) : Int := doV 1 (doV 3 h (intW 31)) (intW n)
theorem intW_rng (n : Int) : 0 ≤ intW n ∧ intW n ≤ 18446744073709551615 := by unfold intW; omega
theorem mixW_rng (h n : Int) : 0 ≤ mixW h n ∧ mixW h n ≤ 18446744073709551615 := by
  unfold mixW doV
  rw [if_pos rfl]
  exact intW_rng _
theorem doV3_rng (a b : Int) : 0 ≤ doV 3 a b ∧ doV 3 a b ≤ 18446744073709551615 := by
  unfold doV
  rw [if_neg (by decide), if_neg (by decide), if_pos rfl]
  exact intW_rng _
theorem rdo_is {v : Int} (op a b : Int) (w : World) (h : 0 ≤ a) (h' : a ≤ 18446744073709551615) (g : 0 ≤ b) (g' : b ≤ 18446744073709551615) (o : -9223372036854775808 ≤ op) (o' : op ≤ 9223372036854775807) (e : doV op a b = v) :
    Calls Try.prog 39 #[.int .i64 op, .int .u64 a, .int .u64 b] w fun e w' => (∃ E, e = .returned (.tuple #[.int .u64 v, .int .i64 E])) ∧ w' = w := by
  subst e
  refine (rdo_any op a b w h h' g g' o o').mono ?_
  rintro e w' ⟨rfl, hw⟩
  exact ⟨⟨_, rfl⟩, hw⟩
theorem rmix_any (h n : Int) (w : World) (h0 : 0 ≤ h) (h1 : h ≤ 18446744073709551615) (n0 : -9223372036854775808 ≤ n) (n1 : n ≤ 9223372036854775807) :
    Calls Try.prog 38 #[.int .u64 h, .int .i64 n] w fun e w' => e = .returned (.int .u64 (mixW h n)) ∧ w' = w := by
  obtain ⟨a0, a1⟩ := intW_rng 31
  obtain ⟨b0, b1⟩ := intW_rng n
  obtain ⟨c0, c1⟩ := doV3_rng h (intW 31)
  obtain ⟨A, hA⟩ : ∃ A, intW 31 = A := ⟨_, rfl⟩
  obtain ⟨C, hC⟩ : ∃ C, doV 3 h (intW 31) = C := ⟨_, rfl⟩
  obtain ⟨D, hD⟩ : ∃ D, doV 1 C (intW n) = D := ⟨_, rfl⟩
  have HM : Hid (mixW h n = D) := by show _ = _; unfold mixW; rw [hC, hD]
  rw [hC] at c0 c1
  rw [hA] at hC a0 a1
  have HA := hidden hA
  have HC := hidden hC
  have HD := hidden hD
  clear hA hC hD
  generalize hB : intW n = Bn at *
  have HB := hidden hB
  clear hB
  go_enter Try.func38, Try.ntmps38
  go_wp2_with (first | (go_at_call 17; refine (rint_any _ _ (by omega) (by omega)).mono ?_; rintro e w' ⟨rfl, hw'⟩; rw [hw']; clear hw' w'; first | rw [HA.out] | rw [HB.out]) | (go_at_call 39; refine (rdo_any _ _ _ _ (by first | with_reducible exact h0 | with_reducible exact c0) (by first | with_reducible exact h1 | with_reducible exact c1) (by first | with_reducible exact a0 | with_reducible exact b0) (by first | with_reducible exact a1 | with_reducible exact b1) (by omega) (by omega)).mono ?_; rintro e w' ⟨rfl, hw'⟩; rw [hw']; clear hw' w'; first | rw [HC.out] | rw [HD.out]))
  all_goals go_ret
  all_goals exact ⟨ret_int HM.out.symm, rfl⟩
end Go.Proofs.Ytcbgjkedmboifaa
