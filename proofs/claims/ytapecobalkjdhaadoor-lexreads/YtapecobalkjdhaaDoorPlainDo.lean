/-
  Plain arithmetic of the operations on numbers of 63 bits, without any program: what each operation's word is, and how bits, shifts, products and quotients of 64 bits are cut to 63. No condition but those written in each statement.
-/
import Derived.Test.YtapecobalkjdhaaDoorPlain
namespace Go.Proofs.YtapecobalkjdhaaDoor
open Go.RowKit

/-- A number's 63 bits, as a number of 0 or more. -/
def lowN (x : Int) : Nat := (x % 9223372036854775808).toNat
def andN (x y : Int) : Int := ((lowN x &&& lowN y : Nat) : Int)
def orN (x y : Int) : Int := ((lowN x ||| lowN y : Nat) : Int)
def xorN (x y : Int) : Int := ((lowN x ^^^ lowN y : Nat) : Int)
def shlN (x y : Int) : Int := if y < 0 ∨ 62 < y then 0 else x * 2 ^ y.toNat
def shrN (x y : Int) : Int := if y < 0 ∨ 62 < y then x / 2 ^ 62 else x / 2 ^ y.toNat
def lessN (x y : Int) : Int := if x < y then 1 else 0
/-- The word that an operation tells. -/
def doV (op a b : Int) : Int :=
  if op = 1 then intW (numW a + numW b)
  else if op = 2 then intW (numW a - numW b)
  else if op = 3 then intW (numW a * numW b)
  else if op = 4 then (if numW b = 0 then 0 else intW ((numW a).tdiv (numW b)))
  else if op = 5 then (if numW b = 0 then 0 else intW ((numW a).tmod (numW b)))
  else if op = 6 then intW (andN (numW a) (numW b))
  else if op = 7 then intW (orN (numW a) (numW b))
  else if op = 8 then intW (xorN (numW a) (numW b))
  else if op = 9 then intW (shlN (numW a) (numW b))
  else if op = 10 then intW (shrN (numW a) (numW b))
  else if op = 11 then intW (lessN (numW a) (numW b))
  else 0
/-- The error that it tells. -/
def doE (op b : Int) : Int :=
  if op < 1 ∨ 11 < op then 1 else if (op = 4 ∨ op = 5) ∧ numW b = 0 then 2 else 0

theorem ret_two {k l : IntKind} {a b c d : Int} (h : a = c) (g : b = d) : Ending.returned (.tuple #[.int k a, .int l b]) = .returned (.tuple #[.int k c, .int l d]) := by rw [h, g]
theorem intW_wrap (z : Int) : intW (wrap64 z) = intW z := by rw [wrap64_def]; unfold intW; omega
theorem wrap64_lo (z : Int) : -9223372036854775808 ≤ wrap64 z := by rw [wrap64_def]; omega
theorem wrap64_hi (z : Int) : wrap64 z ≤ 9223372036854775807 := by rw [wrap64_def]; omega
theorem lowN_lt (x : Int) : lowN x < 2 ^ 63 := by unfold lowN; omega
theorem low_of (x : Int) : (x % 18446744073709551616).toNat % 2 ^ 63 = lowN x := by unfold lowN; omega
theorem intW_nat (m : Nat) : intW (wrap64 (m : Int)) = intW ((m % 2 ^ 63 : Nat) : Int) := by
  rw [intW_wrap]; unfold intW; omega
theorem int_and (x y : Int) : intW (bits .and .i64 x y) = intW (andN x y) := by
  rw [and_i64, intW_nat, Nat.and_mod_two_pow, low_of, low_of]; rfl
theorem int_or (x y : Int) : intW (bits .or .i64 x y) = intW (orN x y) := by
  rw [or_i64, intW_nat, Nat.or_mod_two_pow, low_of, low_of]; rfl
theorem int_xor (x y : Int) : intW (bits .xor .i64 x y) = intW (xorN x y) := by
  rw [xor_i64, intW_nat, Nat.xor_mod_two_pow, low_of, low_of]; rfl
theorem bits_and_lo (x y : Int) : -9223372036854775808 ≤ bits .and .i64 x y := by rw [and_i64]; exact wrap64_lo _
theorem bits_and_hi (x y : Int) : bits .and .i64 x y ≤ 9223372036854775807 := by rw [and_i64]; exact wrap64_hi _
theorem bits_or_lo (x y : Int) : -9223372036854775808 ≤ bits .or .i64 x y := by rw [or_i64]; exact wrap64_lo _
theorem bits_or_hi (x y : Int) : bits .or .i64 x y ≤ 9223372036854775807 := by rw [or_i64]; exact wrap64_hi _
theorem bits_xor_lo (x y : Int) : -9223372036854775808 ≤ bits .xor .i64 x y := by rw [xor_i64]; exact wrap64_lo _
theorem bits_xor_hi (x y : Int) : bits .xor .i64 x y ≤ 9223372036854775807 := by rw [xor_i64]; exact wrap64_hi _
theorem shr_lo (x y : Int) (h : -4611686018427387904 ≤ x) : -4611686018427387904 ≤ shrN x y := by
  unfold shrN
  have key : ∀ k : Nat, -4611686018427387904 ≤ x / 2 ^ k := by
    intro k
    have hp : (0 : Int) < 2 ^ k := Int.pow_pos (by omega)
    have h1 : (1 : Int) ≤ 2 ^ k := by omega
    rw [Int.le_ediv_iff_mul_le hp]
    have : (4611686018427387904 : Int) * 1 ≤ 4611686018427387904 * 2 ^ k := Int.mul_le_mul_of_nonneg_left h1 (by omega)
    omega
  split
  · exact key 62
  · exact key _
theorem shr_hi (x y : Int) (h : x ≤ 4611686018427387903) : shrN x y ≤ 4611686018427387903 := by
  unfold shrN
  have key : ∀ k : Nat, x / 2 ^ k ≤ 4611686018427387903 := by
    intro k
    have hp : (0 : Int) < 2 ^ k := Int.pow_pos (by omega)
    have h1 : (1 : Int) ≤ 2 ^ k := by omega
    have h2 : x / 2 ^ k < 4611686018427387904 := by
      rw [Int.ediv_lt_iff_lt_mul hp]
      have : (4611686018427387904 : Int) * 1 ≤ 4611686018427387904 * 2 ^ k := Int.mul_le_mul_of_nonneg_left h1 (by omega)
      omega
    omega
  split
  · exact key 62
  · exact key _
end Go.Proofs.YtapecobalkjdhaaDoor
