/-
  Plain arithmetic of the document's own loops over bits, without any program: products, shifts and bits of numbers of 63 bits, step by step. No condition but those written in each statement.
-/
import Derived.Test.YtcbgjkedmboifabD6Do
namespace Go.Proofs.Ytcbgjkedmboifab
open Go.RowKit

/-- Bit i of a number's 63. -/
def bitB (n i : Int) : Bool := (lowN n).testBit i.toNat
theorem intW_low (n : Int) : intW n = 2 * (lowN n : Int) + 1 := by unfold intW lowN; omega
theorem shr_low (n : Int) (k : Nat) : intW n / 2 ^ (k + 1) = ((lowN n / 2 ^ k : Nat) : Int) := by
  rw [intW_low, Int.pow_succ, Int.mul_comm (2 ^ k) 2, ← Int.ediv_ediv_of_nonneg (by omega)]
  have e : (2 * (lowN n : Int) + 1) / 2 = (lowN n : Int) := by omega
  rw [e, Int.natCast_ediv, Int.natCast_pow]; rfl
theorem bit_walk (n : Int) (k : Nat) : ((intW n / 2 ^ (k + 1)).tmod 2 == 1) = (lowN n).testBit k := by
  rw [shr_low, Nat.testBit_eq_decide_div_mod_eq, Bool.eq_iff_iff, Int.tmod_eq_emod_of_nonneg (Int.natCast_nonneg _)]
  simp only [beq_iff_eq, decide_eq_true_eq]
  omega
theorem div_step (m k : Nat) : m / 2 ^ k = 2 * (m / 2 ^ (k + 1)) + (m.testBit k).toNat := by
  rw [Nat.pow_succ, ← Nat.div_div_eq_div_mul, Nat.testBit_eq_decide_div_mod_eq]
  by_cases h : m / 2 ^ k % 2 = 1
  · rw [decide_eq_true h]; simp only [Bool.toNat_true]; omega
  · rw [decide_eq_false h]; simp only [Bool.toNat_false]; omega
theorem cut_add (a b : Int) : cutN (cutN a + b) = cutN (a + b) := by unfold cutN; omega
theorem cut_twice (a : Int) : cutN (cutN a + cutN a) = cutN (2 * a) := by unfold cutN; omega
theorem cut_low (a y : Int) : cutN (a * (lowN y : Int)) = cutN (a * y) := by
  obtain ⟨k, hk⟩ : ∃ k : Int, (lowN y : Int) = y + 9223372036854775808 * k := ⟨-(y / 9223372036854775808), by unfold lowN; omega⟩
  rw [hk, Int.mul_add, ← Int.mul_assoc, Int.mul_comm a 9223372036854775808, Int.mul_assoc]
  unfold cutN; omega
theorem times_yes (a y : Int) (k : Nat) (h : (lowN y).testBit k = true) : cutN (cutN (cutN (a * ((lowN y / 2 ^ (k + 1) : Nat) : Int)) + cutN (a * ((lowN y / 2 ^ (k + 1) : Nat) : Int))) + a) = cutN (a * ((lowN y / 2 ^ k : Nat) : Int)) := by
  rw [cut_twice, cut_add, div_step (lowN y) k, h]
  congr 1
  simp only [Bool.toNat_true, Int.natCast_add, Int.natCast_mul, Int.mul_add]
  rw [Int.mul_left_comm a]
  simp
theorem times_no (a y : Int) (k : Nat) (h : (lowN y).testBit k = false) : cutN (cutN (a * ((lowN y / 2 ^ (k + 1) : Nat) : Int)) + cutN (a * ((lowN y / 2 ^ (k + 1) : Nat) : Int))) = cutN (a * ((lowN y / 2 ^ k : Nat) : Int)) := by
  rw [cut_twice, div_step (lowN y) k, h]
  congr 1
  simp only [Bool.toNat_false, Int.natCast_mul, Nat.add_zero]
  rw [Int.mul_left_comm a]
  rfl
theorem times_start (a y : Int) : cutN (a * ((lowN y / 2 ^ 63 : Nat) : Int)) = 0 := by
  have h := lowN_lt y
  rw [Nat.div_eq_of_lt h]; simp; unfold cutN; omega
theorem twice_step (a : Int) (k : Nat) : cutN (cutN (a * 2 ^ k) + cutN (a * 2 ^ k)) = cutN (a * 2 ^ (k + 1)) := by
  rw [cut_twice, Int.pow_succ]; congr 1; rw [Int.mul_comm, Int.mul_assoc]
theorem half_step (a : Int) (k : Nat) : a / 2 ^ k / 2 = a / 2 ^ (k + 1) := by
  rw [Int.pow_succ, Int.ediv_ediv_of_nonneg (Int.le_of_lt (Int.pow_pos (by omega)))]
theorem half_far (a : Int) (h : -4611686018427387904 ≤ a) (h' : a ≤ 4611686018427387903) : a / 2 ^ 63 = a / 2 ^ 62 := by omega
theorem half_lo (a : Int) (k : Nat) (h : -4611686018427387904 ≤ a) : -4611686018427387904 ≤ a / 2 ^ k := by
  have hp : (0 : Int) < 2 ^ k := Int.pow_pos (by omega)
  have h1 : (1 : Int) ≤ 2 ^ k := by omega
  rw [Int.le_ediv_iff_mul_le hp]
  have : (4611686018427387904 : Int) * 1 ≤ 4611686018427387904 * 2 ^ k := Int.mul_le_mul_of_nonneg_left h1 (by omega)
  omega
theorem half_hi (a : Int) (k : Nat) (h : a ≤ 4611686018427387903) : a / 2 ^ k ≤ 4611686018427387903 := by
  have hp : (0 : Int) < 2 ^ k := Int.pow_pos (by omega)
  have h1 : (1 : Int) ≤ 2 ^ k := by omega
  have h2 : a / 2 ^ k < 4611686018427387904 := by
    rw [Int.ediv_lt_iff_lt_mul hp]
    have : (4611686018427387904 : Int) * 1 ≤ 4611686018427387904 * 2 ^ k := Int.mul_le_mul_of_nonneg_left h1 (by omega)
    omega
  omega
/-- Behind k rounds the document's bits are those of the word of the lowest k. -/
def bitsTo (r k : Nat) : Int := ((1 + 2 * (r % 2 ^ k) : Nat) : Int)
theorem mod_step (r k : Nat) : r % 2 ^ (k + 1) = r % 2 ^ k + 2 ^ k * (r.testBit k).toNat := by
  rw [Nat.mod_pow_succ, Nat.testBit_eq_decide_div_mod_eq]
  by_cases h : r / 2 ^ k % 2 = 1
  · rw [decide_eq_true h, h]; rfl
  · rw [decide_eq_false h, show r / 2 ^ k % 2 = 0 from by omega]; rfl
theorem bitsTo_zero (r : Nat) : bitsTo r 0 = 1 := by unfold bitsTo; simp [Nat.mod_one]
theorem bitsTo_yes (r k : Nat) (h : r.testBit k = true) : bitsTo r k + 2 ^ (k + 1) = bitsTo r (k + 1) := by
  unfold bitsTo; rw [mod_step, h]; simp [Int.pow_succ]; omega
theorem bitsTo_no (r k : Nat) (h : r.testBit k = false) : bitsTo r k = bitsTo r (k + 1) := by
  unfold bitsTo; rw [mod_step, h]; simp
theorem bitsTo_lo (r k : Nat) : 0 ≤ bitsTo r k := by unfold bitsTo; omega
theorem bitsTo_hi (r k : Nat) (hk : k ≤ 63) : bitsTo r k ≤ 18446744073709551615 := by
  unfold bitsTo
  have h1 : r % 2 ^ k < 2 ^ k := Nat.mod_lt _ (Nat.pow_pos (by omega))
  have h2 : 2 ^ k ≤ 2 ^ 63 := Nat.pow_le_pow_right (by omega) hk
  omega
theorem bitsTo_walk (r k : Nat) (hk : k < 63) (h : r.testBit k = true) : IntKind.u64.wrap (bitsTo r k + IntKind.u64.wrap (2 ^ (k + 1))) = bitsTo r (k + 1) := by
  have e := bitsTo_yes r k h
  have l := bitsTo_lo r (k + 1)
  have l' := bitsTo_hi r (k + 1) (by omega)
  rw [IntKind.wrap_u64, IntKind.wrap_u64, ← e]
  rw [← e] at l l'
  generalize (2 : Int) ^ (k + 1) = p at *
  omega
theorem bitsTo_end (r : Nat) (h : r < 2 ^ 63) : numW (bitsTo r 63) = cutN (r : Int) := by
  unfold bitsTo; rw [Nat.mod_eq_of_lt h]; unfold numW cutN; split <;> omega
theorem and_lt (x y : Int) : lowN x &&& lowN y < 2 ^ 63 := Nat.and_lt_two_pow _ (lowN_lt y)
theorem or_lt (x y : Int) : lowN x ||| lowN y < 2 ^ 63 := Nat.or_lt_two_pow (lowN_lt x) (lowN_lt y)
theorem xor_lt (x y : Int) : lowN x ^^^ lowN y < 2 ^ 63 := Nat.xor_lt_two_pow (lowN_lt x) (lowN_lt y)
/-- Behind so many rounds, the document's product of the highest bits. -/
def timesTo (a y : Int) (k : Nat) : Int := cutN (a * ((lowN y / 2 ^ k : Nat) : Int))
theorem timesTo_lo (a y : Int) (k : Nat) : -4611686018427387904 ≤ timesTo a y k := cutN_lo _
theorem timesTo_hi (a y : Int) (k : Nat) : timesTo a y k ≤ 4611686018427387903 := cutN_hi _
theorem timesTo_start (a y : Int) : timesTo a y 63 = 0 := times_start a y
theorem timesTo_end (a y : Int) : timesTo a y 0 = cutN (a * y) := by
  unfold timesTo; rw [Nat.pow_zero, Nat.div_one, cut_low]
theorem timesTo_yes (a y : Int) (k : Nat) (h : bitB y k = true) : cutN (cutN (timesTo a y (k + 1) + timesTo a y (k + 1)) + a) = timesTo a y k :=
  times_yes a y k (by simpa [bitB] using h)
theorem timesTo_no (a y : Int) (k : Nat) (h : bitB y k = false) : cutN (timesTo a y (k + 1) + timesTo a y (k + 1)) = timesTo a y k :=
  times_no a y k (by simpa [bitB] using h)
/-- Behind k doublings; behind k halvings. -/
def twiceTo (a : Int) (k : Nat) : Int := cutN (a * 2 ^ k)
theorem twiceTo_lo (a : Int) (k : Nat) : -4611686018427387904 ≤ twiceTo a k := cutN_lo _
theorem twiceTo_hi (a : Int) (k : Nat) : twiceTo a k ≤ 4611686018427387903 := cutN_hi _
theorem twiceTo_start (a : Int) (h : -4611686018427387904 ≤ a) (h' : a ≤ 4611686018427387903) : twiceTo a 0 = a := by
  unfold twiceTo; rw [Int.pow_zero, Int.mul_one, cut_same a h h']
theorem twiceTo_step (a : Int) (k : Nat) : cutN (twiceTo a k + twiceTo a k) = twiceTo a (k + 1) := twice_step a k
def halfTo (a : Int) (k : Nat) : Int := a / 2 ^ k
theorem halfTo_lo (a : Int) (k : Nat) (h : -4611686018427387904 ≤ a) : -4611686018427387904 ≤ halfTo a k := half_lo a k h
theorem halfTo_hi (a : Int) (k : Nat) (h : a ≤ 4611686018427387903) : halfTo a k ≤ 4611686018427387903 := half_hi a k h
theorem halfTo_start (a : Int) : halfTo a 0 = a := by unfold halfTo; rw [Int.pow_zero, Int.ediv_one]
theorem halfTo_step (a : Int) (k : Nat) : halfTo a (k + 1) = halfTo a k / 2 := (half_step a k).symm
theorem half_even (c : Int) (h : c % 2 = 0) : c.tdiv 2 = c / 2 := by
  obtain ⟨q, rfl⟩ : ∃ q, c = 2 * q := ⟨c / 2, by omega⟩
  rw [Int.mul_tdiv_cancel_left q (by omega)]; omega
theorem half_odd (c : Int) (h : ¬ c % 2 = 0) : (c - 1).tdiv 2 = c / 2 := by
  obtain ⟨q, rfl⟩ : ∃ q, c = 2 * q + 1 := ⟨c / 2, by omega⟩
  rw [show 2 * q + 1 - 1 = 2 * q from by omega, Int.mul_tdiv_cancel_left q (by omega)]; omega
theorem tmod_even (c : Int) (h : c % 2 = 0) : (c.tmod 2 != 0) = false := by
  obtain ⟨q, rfl⟩ : ∃ q, c = 2 * q := ⟨c / 2, by omega⟩
  rw [bne_eq_false_iff_eq]; exact Int.mul_tmod_right 2 q
theorem tmod_odd (c : Int) (h : ¬ c % 2 = 0) : (c.tmod 2 != 0) = true := by
  rw [bne_iff_ne]; intro e
  have := Int.dvd_of_tmod_eq_zero e
  omega
theorem rem_walk (x y : Int) : intW (wrap64 (x - wrap64 (wrap64 (x.tdiv y) * y))) = intW (x.tmod y) := by
  rw [intW_wrap]
  obtain ⟨k, hk⟩ : ∃ k : Int, wrap64 (x.tdiv y) = x.tdiv y + 18446744073709551616 * k := ⟨-((x.tdiv y + 9223372036854775808) / 18446744073709551616), by rw [wrap64_def]; omega⟩
  have d := Int.mul_tdiv_add_tmod x y
  rw [hk, Int.add_mul, Int.mul_assoc, Int.mul_comm (x.tdiv y) y, wrap64_def]
  generalize y * x.tdiv y = q at *
  generalize k * y = m at *
  generalize x.tmod y = r at *
  unfold intW; omega
end Go.Proofs.Ytcbgjkedmboifab
