/-
  Plain arithmetic of words as a ring, of quotients, bits, the order and shifts, without any program. No condition but those written in each statement.
-/
import Derived.Test.YtafanhhpfnjheabPlainDo
namespace Go.Proofs.Ytafanhhpfnjheab
open Go.RowKit

theorem doV_lo (op a b : Int) : 0 ≤ doV op a b := by
  unfold doV
  repeat' split
  all_goals first | exact intW_lo _ | omega
theorem doV_hi (op a b : Int) : doV op a b ≤ 18446744073709551615 := by
  unfold doV
  repeat' split
  all_goals first | exact intW_hi _ | omega
theorem intW_add (x y : Int) : intW (cutN x + cutN y) = intW (x + y) := by unfold intW cutN; omega
theorem intW_sub (x y : Int) : intW (cutN x - cutN y) = intW (x - y) := by unfold intW cutN; omega
theorem intW_mul (x y : Int) : intW (cutN x * cutN y) = intW (x * y) := by
  obtain ⟨k, hk⟩ := cut_dvd x
  obtain ⟨m, hm⟩ := cut_dvd y
  have e : cutN x * cutN y = x * y + (x * m + k * y + k * m * 9223372036854775808) * 9223372036854775808 := by
    rw [hk, hm, Int.add_mul, Int.mul_add, Int.mul_add, Int.add_mul, Int.add_mul]
    have a1 : x * (m * 9223372036854775808) = x * m * 9223372036854775808 := (Int.mul_assoc _ _ _).symm
    have a2 : k * 9223372036854775808 * y = k * y * 9223372036854775808 := by rw [Int.mul_assoc, Int.mul_comm 9223372036854775808 y, Int.mul_assoc]
    have a3 : k * 9223372036854775808 * (m * 9223372036854775808) = k * m * 9223372036854775808 * 9223372036854775808 := by
      rw [Int.mul_assoc k, ← Int.mul_assoc 9223372036854775808 m, Int.mul_comm 9223372036854775808 m, ← Int.mul_assoc, ← Int.mul_assoc]
    rw [a1, a2, a3]; omega
  rw [e]; unfold intW; omega
/-- A sum, a difference, a product, by the number of the operation. -/
def ringN (op x y : Int) : Int := if op = 1 then x + y else if op = 2 then x - y else x * y
theorem doV_ring (op x y : Int) (h : 1 ≤ op) (h' : op ≤ 3) : doV op (intW x) (intW y) = intW (ringN op x y) := by
  have d : op = 1 ∨ op = 2 ∨ op = 3 := by omega
  rcases d with rfl | rfl | rfl
  · show intW (numW (intW x) + numW (intW y)) = intW (x + y)
    rw [num_int, num_int, intW_add]
  · show intW (numW (intW x) - numW (intW y)) = intW (x - y)
    rw [num_int, num_int, intW_sub]
  · show intW (numW (intW x) * numW (intW y)) = intW (x * y)
    rw [num_int, num_int, intW_mul]
theorem doE_ok (op b : Int) (h : 1 ≤ op) (h' : op ≤ 11) (g : op ≠ 4) (g' : op ≠ 5) : doE op b = 0 := by
  unfold doE; rw [if_neg (by omega), if_neg (by omega)]
theorem ring_comm1 (a b : Int) : (intW (ringN 1 a b) == intW (ringN 1 b a)) = true := by
  rw [beq_iff_eq]; show intW (a + b) = intW (b + a); rw [Int.add_comm]
theorem ring_comm3 (a b : Int) : (intW (ringN 3 a b) == intW (ringN 3 b a)) = true := by
  rw [beq_iff_eq]; show intW (a * b) = intW (b * a); rw [Int.mul_comm]
theorem ring_assoc (a b c : Int) : (intW (ringN 1 (ringN 1 a b) c) == intW (ringN 1 a (ringN 1 b c))) = true := by
  rw [beq_iff_eq]; show intW (a + b + c) = intW (a + (b + c)); rw [Int.add_assoc]
theorem ring_over (a b c : Int) : (intW (ringN 3 a (ringN 1 b c)) == intW (ringN 1 (ringN 3 a b) (ringN 3 a c))) = true := by
  rw [beq_iff_eq]; show intW (a * (b + c)) = intW (a * b + a * c); rw [Int.mul_add]
theorem ring_back (a b : Int) : (intW (ringN 2 (ringN 1 a b) b) == intW a) = true := by
  rw [beq_iff_eq]; show intW (a + b - b) = intW a; rw [Int.add_sub_cancel]
theorem ring_zero (a : Int) : (intW (ringN 1 a 0) == intW a) = true := by
  rw [beq_iff_eq]; show intW (a + 0) = intW a; rw [Int.add_zero]
theorem ring_one (a : Int) : (intW (ringN 3 a 1) == intW a) = true := by
  rw [beq_iff_eq]; show intW (a * 1) = intW a; rw [Int.mul_one]
theorem int_one : (intW 1 == 3) = true := by unfold intW; decide
/-! quotients -/
theorem doV_quo (a b : Int) (z : numW (intW b) ≠ 0) : doV 4 (intW a) (intW b) = intW ((cutN a).tdiv (cutN b)) := by
  rw [← num_int a, ← num_int b]
  show (if numW (intW b) = 0 then 0 else intW ((numW (intW a)).tdiv (numW (intW b)))) = _
  rw [if_neg z]
theorem doV_rem (a b : Int) (z : numW (intW b) ≠ 0) : doV 5 (intW a) (intW b) = intW ((cutN a).tmod (cutN b)) := by
  rw [← num_int a, ← num_int b]
  show (if numW (intW b) = 0 then 0 else intW ((numW (intW a)).tmod (numW (intW b)))) = _
  rw [if_neg z]
theorem rem_near (x y : Int) (z : y ≠ 0) : (x.tmod y).natAbs < y.natAbs := by
  rw [Int.natAbs_tmod]; exact Nat.mod_lt _ (by omega)
theorem split_sum (a b : Int) (z : numW (intW b) ≠ 0) : (doV 1 (doV 3 (doV 4 (intW a) (intW b)) (intW b)) (doV 5 (intW a) (intW b)) == intW a) = true := by
  rw [beq_iff_eq, doV_quo a b z, doV_rem a b z, doV_ring 3 _ _ (by omega) (by omega), doV_ring 1 _ _ (by omega) (by omega)]
  show intW ((cutN a).tdiv (cutN b) * b + (cutN a).tmod (cutN b)) = intW a
  obtain ⟨k, hk⟩ := cut_dvd b
  have d := Int.mul_tdiv_add_tmod (cutN a) (cutN b)
  generalize hq : (cutN a).tdiv (cutN b) = q at *
  generalize (cutN a).tmod (cutN b) = r at *
  rw [hk, Int.add_mul, Int.mul_assoc, Int.mul_comm 9223372036854775808 q, ← Int.mul_assoc, Int.mul_comm b q] at d
  generalize q * b = u at *
  generalize k * q = v at *
  rw [← intW_cut a]
  unfold intW; omega
theorem split_near (a b : Int) (z : numW (intW b) ≠ 0) : (numW (doV 5 (intW a) (intW b))).natAbs < (numW (intW b)).natAbs := by
  rw [doV_rem a b z, num_int, num_int]
  rw [num_int] at z
  have h := rem_near (cutN a) (cutN b) z
  have l := cutN_lo b
  have l' := cutN_hi b
  rw [cut_same _ (by omega) (by omega)]
  exact h
/-! bits -/
theorem nat_and_or (x y : Nat) : (x &&& y) + (x ||| y) = x + y := by
  induction x using Nat.strongRecOn generalizing y with
  | ind x ih =>
    by_cases hx : x = 0
    · subst hx; simp
    · have h := ih (x / 2) (by omega) (y / 2)
      have a1 := @Nat.and_div_two x y
      have a2 := @Nat.or_div_two x y
      have m1 := @Nat.and_mod_two_eq_one x y
      have m2 := @Nat.or_mod_two_eq_one x y
      omega
theorem nat_and_xor (x y : Nat) : (x &&& y) + (x ^^^ y) = x ||| y := by
  induction x using Nat.strongRecOn generalizing y with
  | ind x ih =>
    by_cases hx : x = 0
    · subst hx; simp
    · have h := ih (x / 2) (by omega) (y / 2)
      have a1 := @Nat.and_div_two x y
      have a2 := @Nat.or_div_two x y
      have a3 := @Nat.xor_div_two x y
      have m1 := @Nat.and_mod_two_eq_one x y
      have m2 := @Nat.or_mod_two_eq_one x y
      have m3 := @Nat.xor_mod_two_eq_one x y
      omega
theorem doV_and (a b : Int) : doV 6 (intW a) (intW b) = intW (andN (cutN a) (cutN b)) := by rw [← num_int a, ← num_int b]; rfl
theorem doV_or (a b : Int) : doV 7 (intW a) (intW b) = intW (orN (cutN a) (cutN b)) := by rw [← num_int a, ← num_int b]; rfl
theorem doV_xor (a b : Int) : doV 8 (intW a) (intW b) = intW (xorN (cutN a) (cutN b)) := by rw [← num_int a, ← num_int b]; rfl
theorem bits_sum (a b : Int) : (doV 1 (doV 6 (intW a) (intW b)) (doV 8 (intW a) (intW b)) == doV 7 (intW a) (intW b)) = true := by
  rw [beq_iff_eq, doV_and, doV_or, doV_xor, doV_ring 1 _ _ (by omega) (by omega)]
  show intW (andN (cutN a) (cutN b) + xorN (cutN a) (cutN b)) = _
  unfold andN orN xorN
  rw [← Int.natCast_add, nat_and_xor]
theorem bits_all (a b : Int) : (doV 1 (doV 6 (intW a) (intW b)) (doV 7 (intW a) (intW b)) == doV 1 (intW a) (intW b)) = true := by
  rw [beq_iff_eq, doV_and, doV_or, doV_ring 1 _ _ (by omega) (by omega), doV_ring 1 _ _ (by omega) (by omega)]
  show intW (andN (cutN a) (cutN b) + orN (cutN a) (cutN b)) = intW (a + b)
  unfold andN orN
  rw [← Int.natCast_add, nat_and_or]
  unfold lowN cutN intW; omega
theorem bits_int (a b : Int) : isIntW (doV 6 (intW a) (intW b)) = true := by rw [doV_and]; exact isInt_int _
/-! order -/
def lessB (p q : Int) : Bool := decide (cutN p < cutN q)
theorem less_is (p q : Int) : (doV 11 (intW p) (intW q) == 3) = lessB p q := by
  have e : doV 11 (intW p) (intW q) = intW (lessN (cutN p) (cutN q)) := by rw [← num_int p, ← num_int q]; rfl
  rw [e, Bool.eq_iff_iff, beq_iff_eq]
  unfold lessB lessN
  by_cases h : cutN p < cutN q
  · rw [if_pos h, decide_eq_true h]; exact ⟨fun _ => rfl, fun _ => by decide⟩
  · rw [if_neg h, decide_eq_false h]; exact ⟨fun q => absurd q (by decide), fun q => absurd q (by decide)⟩
theorem int_same (p q : Int) : (intW p == intW q) = decide (cutN p = cutN q) := by
  rw [Bool.eq_iff_iff, beq_iff_eq, decide_eq_true_eq]
  unfold intW cutN; omega
/-! shifts -/
theorem cut_pow_same (a : Int) (n : Nat) : intW (cutN a * 2 ^ n) = intW (a * 2 ^ n) := by
  obtain ⟨k, hk⟩ := cut_dvd a
  rw [hk, Int.add_mul, Int.mul_assoc, Int.mul_comm 9223372036854775808, ← Int.mul_assoc]
  generalize k * 2 ^ n = m
  unfold intW; omega
/-- Behind k doublings. -/
def powW (a : Int) (k : Nat) : Int := intW (a * 2 ^ k)
theorem powW_start (a : Int) : powW a 0 = intW a := by unfold powW; rw [Int.pow_zero, Int.mul_one]
theorem powW_lo (a : Int) (k : Nat) : 0 ≤ powW a k := intW_lo _
theorem powW_hi (a : Int) (k : Nat) : powW a k ≤ 18446744073709551615 := intW_hi _
theorem powW_step (a : Int) (k : Nat) : doV 1 (powW a k) (powW a k) = powW a (k + 1) := by
  unfold powW; rw [doV_ring 1 _ _ (by omega) (by omega)]
  show intW (a * 2 ^ k + a * 2 ^ k) = _
  rw [Int.pow_succ, ← Int.mul_assoc]; congr 1; omega
theorem doV_9 (a b : Int) : doV 9 a b = intW (shlN (numW a) (numW b)) := by simp [doV]
theorem doV_10 (a b : Int) : doV 10 a b = intW (shrN (numW a) (numW b)) := by simp [doV]
theorem shl_is (a : Int) (n : Nat) (h : n ≤ 63) : doV 9 (intW a) (intW n) = powW a n := by
  have e : doV 9 (intW a) (intW n) = intW (shlN (cutN a) n) := by
    have c : cutN (n : Int) = n := cut_same _ (by omega) (by omega)
    rw [doV_9, num_int, num_int, c]
  rw [e]
  unfold shlN powW
  by_cases q : n = 63
  · subst q; rw [if_pos (by omega)]; unfold intW; omega
  · rw [if_neg (by omega), Int.toNat_natCast, cut_pow_same]
theorem shr_is (x : Int) (n : Nat) (h : n ≤ 63) : doV 10 (intW x) (intW n) = intW (shrN (cutN x) n) := by
  have c : cutN (n : Int) = n := cut_same _ (by omega) (by omega)
  rw [doV_10, num_int, num_int, c]
theorem far_l (a : Int) : (numW (powW a 63) == 0) = true := by
  unfold powW; rw [num_int, beq_iff_eq]; unfold cutN; omega
theorem far_r (a : Int) : (numW (doV 10 (powW a 63) (intW 63)) == 0) = true := by
  have e : cutN (a * 2 ^ 63) = 0 := by unfold cutN; omega
  have := shr_is (a * 2 ^ 63) 63 (by omega)
  unfold powW
  rw [beq_iff_eq]
  rw [show ((63 : Nat) : Int) = 63 from rfl] at this
  rw [this, num_int, e]; decide
theorem near_r (a : Int) (n : Nat) (h : n ≤ 62) (l : -(4611686018427387904 / 2 ^ n) ≤ a) (l' : a < 4611686018427387904 / 2 ^ n) : (numW (doV 10 (powW a n) (intW n)) == a) = true := by
  have hp : (0 : Int) < 2 ^ n := Int.pow_pos (by omega)
  have hd : (4611686018427387904 : Int) / 2 ^ n * 2 ^ n = 4611686018427387904 := by
    apply Int.ediv_mul_cancel
    refine ⟨2 ^ (62 - n), ?_⟩
    rw [← Int.pow_add, show n + (62 - n) = 62 from by omega]; rfl
  have b1 : -4611686018427387904 ≤ a * 2 ^ n := by
    have := Int.mul_le_mul_of_nonneg_right l (Int.le_of_lt hp)
    rw [Int.neg_mul, hd] at this; exact this
  have b2 : a * 2 ^ n < 4611686018427387904 := by
    have := Int.mul_lt_mul_of_pos_right l' hp
    rw [hd] at this; exact this
  have c : cutN (a * 2 ^ n) = a * 2 ^ n := cut_same _ b1 (by omega)
  rw [beq_iff_eq]
  unfold powW
  rw [shr_is _ n (by omega), c, num_int]
  have s : shrN (a * 2 ^ n) n = a := by
    unfold shrN; rw [if_neg (by omega), Int.toNat_natCast, Int.mul_ediv_cancel _ (by omega)]
  rw [s]
  apply cut_same
  · have h1 : (1 : Int) ≤ 2 ^ n := by omega
    have : (4611686018427387904 : Int) / 2 ^ n ≤ 4611686018427387904 := Int.ediv_le_self _ (by omega)
    omega
  · have : (4611686018427387904 : Int) / 2 ^ n ≤ 4611686018427387904 := Int.ediv_le_self _ (by omega)
    omega
end Go.Proofs.Ytafanhhpfnjheab
