/-
  Several small texts in one; each tells at its head what it proves, and on what condition.
-/
import Derived.Test.YthjmakjhidjbaaaGreatPlain
import Derived.Lib.Strings
import Derived.Lib.IndexBytes
import Derived.Lib.ItoaLen
import Derived.Test.YthjmakjhidjbaaaGreatLibAD
import Derived.Test.YthjmakjhidjbaaaGreatLibAS
import Derived.Test.YthjmakjhidjbaaaGreatShelf
import Derived.Laws.Strings3
import Derived.Deep.LoopGhost
import Derived.Deep.CutRange

/-
 Plain arithmetic of the operations on numbers of 63 bits, without any program: what each operation's word is, and how bits, shifts, products and quotients of 64 bits are cut to 63. No condition but those written in each statement.
-/
namespace Go.Proofs.YthjmakjhidjbaaaGreat
open Go.RowKit

/-- A number's 63 bits, as a number of 0 or more. -/
def lowN (x : Int) : Nat := (x % 9223372036854775808).toNat
def andN (x y : Int) : Int := ((lowN x &&& lowN y : Nat) : Int)
def orN (x y : Int) : Int := ((lowN x ||| lowN y : Nat) : Int)
def xorN (x y : Int) : Int := ((lowN x ^^^ lowN y : Nat) : Int)
def shlN (x y : Int) : Int := if y < 0 ∨ 62 < y then 0 else x * 2 ^ y.toNat
def shrN (x y : Int) : Int := if y < 0 ∨ 62 < y then x / 2 ^ 62 else x / 2 ^ y.toNat
def lessN (x y : Int) : Int := if x < y then 1 else 0
/-- The word that an operation tells. -/
def doV (op a b : Int) : Int :=
 if op = 1 then intW (numW a + numW b)
 else if op = 2 then intW (numW a - numW b)
 else if op = 3 then intW (numW a * numW b)
 else if op = 4 then (if numW b = 0 then 0 else intW ((numW a).tdiv (numW b)))
 else if op = 5 then (if numW b = 0 then 0 else intW ((numW a).tmod (numW b)))
 else if op = 6 then intW (andN (numW a) (numW b))
 else if op = 7 then intW (orN (numW a) (numW b))
 else if op = 8 then intW (xorN (numW a) (numW b))
 else if op = 9 then intW (shlN (numW a) (numW b))
 else if op = 10 then intW (shrN (numW a) (numW b))
 else if op = 11 then intW (lessN (numW a) (numW b))
 else 0
/-- The error that it tells. -/
def doE (op b : Int) : Int :=
 if op < 1 ∨ 11 < op then 1 else if (op = 4 ∨ op = 5) ∧ numW b = 0 then 2 else 0

theorem ret_two {k l : IntKind} {a b c d : Int} (h : a = c) (g : b = d) : Ending.returned (.tuple #[.int k a, .int l b]) = .returned (.tuple #[.int k c, .int l d]) := by rw [h, g]
theorem intW_wrap (z : Int) : intW (wrap64 z) = intW z := by rw [wrap64_def]; unfold intW; omega
theorem wrap64_lo (z : Int) : -9223372036854775808 ≤ wrap64 z := by rw [wrap64_def]; omega
theorem wrap64_hi (z : Int) : wrap64 z ≤ 9223372036854775807 := by rw [wrap64_def]; omega
theorem lowN_lt (x : Int) : lowN x < 2 ^ 63 := by unfold lowN; omega
theorem low_of (x : Int) : (x % 18446744073709551616).toNat % 2 ^ 63 = lowN x := by unfold lowN; omega
theorem intW_nat (m : Nat) : intW (wrap64 (m : Int)) = intW ((m % 2 ^ 63 : Nat) : Int) := by
 rw [intW_wrap]; unfold intW; omega
theorem int_and (x y : Int) : intW (bits .and .i64 x y) = intW (andN x y) := by
 rw [and_i64, intW_nat, Nat.and_mod_two_pow, low_of, low_of]; rfl
theorem int_or (x y : Int) : intW (bits .or .i64 x y) = intW (orN x y) := by
 rw [or_i64, intW_nat, Nat.or_mod_two_pow, low_of, low_of]; rfl
theorem int_xor (x y : Int) : intW (bits .xor .i64 x y) = intW (xorN x y) := by
 rw [xor_i64, intW_nat, Nat.xor_mod_two_pow, low_of, low_of]; rfl
theorem bits_and_lo (x y : Int) : -9223372036854775808 ≤ bits .and .i64 x y := by rw [and_i64]; exact wrap64_lo _
theorem bits_and_hi (x y : Int) : bits .and .i64 x y ≤ 9223372036854775807 := by rw [and_i64]; exact wrap64_hi _
theorem bits_or_lo (x y : Int) : -9223372036854775808 ≤ bits .or .i64 x y := by rw [or_i64]; exact wrap64_lo _
theorem bits_or_hi (x y : Int) : bits .or .i64 x y ≤ 9223372036854775807 := by rw [or_i64]; exact wrap64_hi _
theorem bits_xor_lo (x y : Int) : -9223372036854775808 ≤ bits .xor .i64 x y := by rw [xor_i64]; exact wrap64_lo _
theorem bits_xor_hi (x y : Int) : bits .xor .i64 x y ≤ 9223372036854775807 := by rw [xor_i64]; exact wrap64_hi _
theorem shr_lo (x y : Int) (h : -4611686018427387904 ≤ x) : -4611686018427387904 ≤ shrN x y := by
 unfold shrN
 have key : ∀ k : Nat, -4611686018427387904 ≤ x / 2 ^ k := by
  intro k
  have hp : (0 : Int) < 2 ^ k := Int.pow_pos (by omega)
  have h1 : (1 : Int) ≤ 2 ^ k := by omega
  rw [Int.le_ediv_iff_mul_le hp]
  have : (4611686018427387904 : Int) * 1 ≤ 4611686018427387904 * 2 ^ k := Int.mul_le_mul_of_nonneg_left h1 (by omega)
  omega
 split
 ·exact key 62
 ·exact key _
theorem shr_hi (x y : Int) (h : x ≤ 4611686018427387903) : shrN x y ≤ 4611686018427387903 := by
 unfold shrN
 have key : ∀ k : Nat, x / 2 ^ k ≤ 4611686018427387903 := by
  intro k
  have hp : (0 : Int) < 2 ^ k := Int.pow_pos (by omega)
  have h1 : (1 : Int) ≤ 2 ^ k := by omega
  have h2 : x / 2 ^ k < 4611686018427387904 := by
   rw [Int.ediv_lt_iff_lt_mul hp]
   have : (4611686018427387904 : Int) * 1 ≤ 4611686018427387904 * 2 ^ k := Int.mul_le_mul_of_nonneg_left h1 (by omega)
   omega
  omega
 split
 ·exact key 62
 ·exact key _
end Go.Proofs.YthjmakjhidjbaaaGreat

/-
 Plain arithmetic of a text that is a number's digits, without any program: its value digit by digit, when it is well formed, when it is too great. No condition but those written in each statement.
-/
namespace Go.Proofs.YthjmakjhidjbaaaGreat
open Go.RowKit

/-- The number that byte k of a text is; 0 where there is none. -/
def bt (s : ByteArray) (k : Nat) : Int := if h : k < s.size then ((s[k]'h).toNat : Int) else 0
theorem get_bt (s : ByteArray) : ∀ (n : Nat) (h : n < s.size), ((s[n]'h).toNat : Int) = bt s n := fun n h => by unfold bt; rw [dif_pos h]
theorem bt_lo (s : ByteArray) (k : Nat) : 0 ≤ bt s k := by unfold bt; split <;> omega
theorem bt_hi (s : ByteArray) (k : Nat) : bt s k ≤ 255 := by
 unfold bt; split
 ·have := (s[k]).toNat_lt; omega
 ·omega
/-- The value of the k bytes from a on, as digits. -/
def val (s : ByteArray) (a : Nat) : Nat → Int
 | 0 => 0
 | k + 1 => val s a k * 10 + (bt s (a + k) - 48)
/-- Are the k bytes from a on digits? -/
def allB (s : ByteArray) (a : Nat) : Nat → Bool
 | 0 => true
 | k + 1 => allB s a k && decide (48 ≤ bt s (a + k) ∧ bt s (a + k) ≤ 57)
/-- Does a minus stand ahead? -/
def minusB (s : ByteArray) : Bool := decide (1 ≤ s.size ∧ bt s 0 = 45)
/-- Are the bytes from a on digits of a number, no nought ahead but of 0 itself, without a minus? -/
def formAt (s : ByteArray) (a : Nat) : Bool := decide (a < s.size) && (allB s a (s.size - a) && (decide (bt s a ≠ 48) || decide (s.size = 1)))
/-- Has it more than 63 bits? -/
def bigAt (s : ByteArray) (a : Nat) : Bool := decide (4611686018427387904 < val s a (s.size - a)) || (decide (val s a (s.size - a) = 4611686018427387904) && decide (a = 0))
def parEAt (s : ByteArray) (a : Nat) : Int := if formAt s a = true then (if bigAt s a = true then 2 else 0) else 5
def parVAt (s : ByteArray) (a : Nat) : Int := if formAt s a = true ∧ bigAt s a = false then intW (if a = 0 then val s a (s.size - a) else -val s a (s.size - a)) else 0
/-- The word that a text is, and what is wrong. -/
def parV (s : ByteArray) : Int := if minusB s = true then parVAt s 1 else parVAt s 0
def parE (s : ByteArray) : Int := if minusB s = true then parEAt s 1 else parEAt s 0

theorem allB_at (s : ByteArray) (a : Nat) : ∀ n : Nat, allB s a n = true → ∀ k, k < n → 48 ≤ bt s (a + k) ∧ bt s (a + k) ≤ 57
 | 0, _, k, hk => by omega
 | n + 1, h, k, hk => by
  rw [allB, Bool.and_eq_true, decide_eq_true_eq] at h
  by_cases e : k = n
  ·subst e; exact h.2
  ·exact allB_at s a n h.1 k (by omega)
theorem allB_step (s : ByteArray) (a k : Nat) (h : allB s a k = true) (h1 : 48 ≤ bt s (a + k)) (h2 : bt s (a + k) ≤ 57) : allB s a (k + 1) = true := by
 rw [allB, h, decide_eq_true ⟨h1, h2⟩]; rfl
theorem allB_bad (s : ByteArray) (a k n : Nat) (hk : k < n) (h : ¬ (48 ≤ bt s (a + k) ∧ bt s (a + k) ≤ 57)) : allB s a n = false := by
 cases e : allB s a n
 ·rfl
 ·exact absurd (allB_at s a n e k hk) h
theorem allB_le (s : ByteArray) (a n : Nat) (h : allB s a n = true) (k : Nat) (hk : k ≤ n) : allB s a k = true := by
 induction k with
 | zero => rfl
 | succ k ih => exact allB_step s a k (ih (by omega)) (allB_at s a n h k (by omega)).1 (allB_at s a n h k (by omega)).2
theorem val_nonneg (s : ByteArray) (a : Nat) : ∀ n : Nat, allB s a n = true → 0 ≤ val s a n
 | 0, _ => by simp [val]
 | n + 1, h => by
  have h1 := allB_at s a (n + 1) h n (by omega)
  have h2 := val_nonneg s a n (allB_le s a (n + 1) h n (by omega))
  rw [val]; omega
theorem val_mono (s : ByteArray) (a n : Nat) (h : allB s a n = true) : ∀ d k : Nat, k + d ≤ n → val s a k ≤ val s a (k + d)
 | 0, k, _ => by simp
 | d + 1, k, hk => by
  have h1 := allB_at s a n h (k + d) (by omega)
  have h2 := val_nonneg s a (k + d) (allB_le s a n h _ (by omega))
  have h3 := val_mono s a n h d k (by omega)
  rw [show k + (d + 1) = (k + d) + 1 from by omega, val]; omega
theorem val_up (s : ByteArray) (a n k : Nat) (h : allB s a n = true) (hk : k ≤ n) : val s a k ≤ val s a n := by
 have := val_mono s a n h (n - k) k (by omega)
 rwa [show k + (n - k) = n from by omega] at this
theorem val_pow (s : ByteArray) (a : Nat) : ∀ n : Nat, allB s a n = true → val s a n ≤ 10 ^ n - 1
 | 0, _ => by simp [val]
 | n + 1, h => by
  have h1 := allB_at s a (n + 1) h n (by omega)
  have h2 := val_pow s a n (allB_le s a (n + 1) h n (by omega))
  rw [val, Int.pow_succ]; omega
theorem val_far (s : ByteArray) (a n : Nat) (h : allB s a n = true) (h0 : bt s a ≠ 48) (hn : 20 ≤ n) : 4611686018427387904 < val s a n := by
 have h1 := allB_at s a n h 0 (by omega)
 have up := val_up s a n 20 h hn
 have step : ∀ k, k < n → val s a (k + 1) = val s a k * 10 + (bt s (a + k) - 48) := fun k _ => rfl
 have low : ∀ k, k < n → val s a k * 10 ≤ val s a (k + 1) := fun k hk => by
  have := allB_at s a n h k hk
  rw [step k hk]; omega
 have l0 : 1 ≤ val s a 1 := by
  rw [step 0 (by omega)]; simp only [Nat.add_zero] at *; simp only [val]; omega
 have l1 := low 1 (by omega)
 have l2 := low 2 (by omega)
 have l3 := low 3 (by omega)
 have l4 := low 4 (by omega)
 have l5 := low 5 (by omega)
 have l6 := low 6 (by omega)
 have l7 := low 7 (by omega)
 have l8 := low 8 (by omega)
 have l9 := low 9 (by omega)
 have l10 := low 10 (by omega)
 have l11 := low 11 (by omega)
 have l12 := low 12 (by omega)
 have l13 := low 13 (by omega)
 have l14 := low 14 (by omega)
 have l15 := low 15 (by omega)
 have l16 := low 16 (by omega)
 have l17 := low 17 (by omega)
 have l18 := low 18 (by omega)
 have l19 := low 19 (by omega)
 simp only [Nat.reduceAdd] at l1 l2 l3 l4 l5 l6 l7 l8 l9 l10 l11 l12 l13 l14 l15 l16 l17 l18 l19
 omega
theorem bt_tail (s : ByteArray) (k : Nat) : bt (s.extract 1 s.size) k = bt s (1 + k) := by
 unfold bt
 have hz : (s.extract 1 s.size).size = s.size - 1 := by rw [ByteArray.size_extract]; omega
 by_cases h : 1 + k < s.size
 ·rw [dif_pos (by omega), dif_pos h, ByteArray.getElem_extract]
 ·rw [dif_neg (by omega), dif_neg h]
theorem val_tail (s : ByteArray) : ∀ n : Nat, val (s.extract 1 s.size) 0 n = val s 1 n
 | 0 => rfl
 | n + 1 => by rw [val, val, val_tail s n, bt_tail, Nat.zero_add]
theorem allB_tail (s : ByteArray) : ∀ n : Nat, allB (s.extract 1 s.size) 0 n = allB s 1 n
 | 0 => rfl
 | n + 1 => by rw [allB, allB, allB_tail s n, bt_tail, Nat.zero_add]
theorem size_tail (s : ByteArray) : (s.extract 1 s.size).size = s.size - 1 := by rw [ByteArray.size_extract]; omega
theorem byte_is (c : UInt8) (n : Nat) (hn : n < 256) : c = UInt8.ofNat n ↔ (c.toNat : Int) = (n : Int) := by
 rw [← UInt8.toNat_inj, UInt8.toNat_ofNat_of_lt' (by simpa [UInt8.size] using hn)]; omega
theorem first_is (s : ByteArray) (h : 1 ≤ s.size) : ((s.extract 0 1).toList == [45]) = minusB s := by
 rw [Lib.toList_data, Lib.extract_data]
 obtain ⟨⟨l⟩⟩ := s
 cases l with
 | nil => simp [ByteArray.size] at h
 | cons c t =>
  have e : bt ⟨(c :: t).toArray⟩ 0 = (c.toNat : Int) := by
   unfold bt; rw [dif_pos (by simp [ByteArray.size])]; rfl
  have f : ((List.drop 0 (c :: t)).take (1 - 0)) = [c] := rfl
  have g := byte_is c 45 (by omega)
  unfold minusB
  rw [e, f, Bool.eq_iff_iff, beq_iff_eq, decide_eq_true_eq, List.cons.injEq]
  constructor
  ·intro q; exact ⟨h, g.1 q.1⟩
  ·intro q; exact ⟨g.2 q.2, rfl⟩
theorem nought_is (s : ByteArray) : (s.toList == [48]) = decide (s.size = 1 ∧ bt s 0 = 48) := by
 rw [Lib.toList_data]
 obtain ⟨⟨l⟩⟩ := s
 rw [Bool.eq_iff_iff, beq_iff_eq, decide_eq_true_eq]
 cases l with
 | nil => simp [ByteArray.size]
 | cons c t =>
  have e : bt ⟨(c :: t).toArray⟩ 0 = (c.toNat : Int) := by
   unfold bt; rw [dif_pos (by simp [ByteArray.size])]; rfl
  have g := byte_is c 48 (by omega)
  have z : (ByteArray.mk (c :: t).toArray).size = t.length + 1 := rfl
  rw [e, z]
  constructor
  ·intro q
   obtain ⟨q1, q2⟩ := List.cons.inj q
   exact ⟨by rw [q2]; rfl, g.1 q1⟩
  ·intro q
   have : t = [] := List.eq_nil_of_length_eq_zero (by omega)
   show c :: t = [48]
   rw [this, g.2 q.2]; rfl
theorem toList_none (s : ByteArray) (h : s.size = 0) : s.toList = [] := by
 rw [Lib.toList_data]; exact List.eq_nil_of_length_eq_zero h
theorem toList_some (s : ByteArray) (h : ¬ s.size = 0) : ¬ s.toList = [] := by
 rw [Lib.toList_data]; intro e; exact h (congrArg List.length e)
theorem val_small (s : ByteArray) (a k : Nat) (hk : k ≤ 18) (h : allB s a k = true) : val s a k ≤ 999999999999999999 := by
 have h1 := val_pow s a k h
 have h2 : (10 : Int) ^ k ≤ 10 ^ 18 := by
  have : (10 : Nat) ^ k ≤ 10 ^ 18 := Nat.pow_le_pow_right (by omega) hk
  exact_mod_cast this
 omega
/-- Digits of a number above 0? -/
def cntB (d : ByteArray) : Bool := allB d 0 d.size && (decide (0 < d.size) && decide (bt d 0 ≠ 48))
theorem cnt_tail (s : ByteArray) : formAt s 1 = cntB (s.extract 1 s.size) := by
 unfold formAt cntB
 rw [size_tail, allB_tail, bt_tail]
 by_cases h : 1 < s.size
 ·rw [decide_eq_true h, decide_eq_true (by omega : 0 < s.size - 1), decide_eq_false (by omega : ¬ s.size = 1)]
  simp only [Bool.true_and, Bool.or_false, Nat.add_zero]
 ·rw [decide_eq_false h, decide_eq_false (by omega : ¬ 0 < s.size - 1)]; simp
theorem cnt_whole (s : ByteArray) (h : ¬ (s.size = 1 ∧ bt s 0 = 48)) : formAt s 0 = cntB s := by
 unfold formAt cntB
 rw [Nat.sub_zero]
 by_cases q : s.size = 1
 ·rw [decide_eq_true (by omega : bt s 0 ≠ 48), decide_eq_true (by omega : 0 < s.size)]; simp
 ·rw [decide_eq_false q]
  cases allB s 0 s.size <;> cases decide (0 < s.size) <;> simp
theorem cnt_all (d : ByteArray) (h : cntB d = true) : allB d 0 d.size = true ∧ bt d 0 ≠ 48 := by
 unfold cntB at h
 simp only [Bool.and_eq_true, decide_eq_true_eq] at h
 exact ⟨h.1, h.2.2⟩
/-- Of the digits d of a text, a minus ahead or not: what it is, what is wrong. -/
def outV (d : ByteArray) (m : Bool) : Int := if cntB d = true ∧ ¬ (4611686018427387904 < val d 0 d.size ∨ (val d 0 d.size = 4611686018427387904 ∧ m = false)) then intW (if m = true then -val d 0 d.size else val d 0 d.size) else 0
def outE (d : ByteArray) (m : Bool) : Int := if cntB d = true then (if 4611686018427387904 < val d 0 d.size ∨ (val d 0 d.size = 4611686018427387904 ∧ m = false) then 2 else 0) else 5
theorem big_iff (s : ByteArray) (a : Nat) : bigAt s a = true ↔ (4611686018427387904 < val s a (s.size - a) ∨ (val s a (s.size - a) = 4611686018427387904 ∧ a = 0)) := by
 unfold bigAt; simp
theorem big_not (s : ByteArray) (a : Nat) : bigAt s a = false ↔ ¬ (4611686018427387904 < val s a (s.size - a) ∨ (val s a (s.size - a) = 4611686018427387904 ∧ a = 0)) := by
 rw [← big_iff]; simp
theorem out_tail (s : ByteArray) (hm : minusB s = true) : parV s = outV (s.extract 1 s.size) true ∧ parE s = outE (s.extract 1 s.size) true := by
 have e1 : (bigAt s 1 = true) = (4611686018427387904 < val s 1 (s.size - 1) ∨ (val s 1 (s.size - 1) = 4611686018427387904 ∧ true = false)) := by
  rw [big_iff]; simp
 have e2 : (bigAt s 1 = false) = ¬ (4611686018427387904 < val s 1 (s.size - 1) ∨ (val s 1 (s.size - 1) = 4611686018427387904 ∧ true = false)) := by
  rw [big_not]; simp
 unfold parV parE outV outE
 rw [if_pos hm, if_pos hm]
 unfold parVAt parEAt
 rw [size_tail, val_tail, cnt_tail]
 simp only [e1, e2]
 exact ⟨by simp, trivial⟩
theorem out_whole (s : ByteArray) (hm : minusB s = false) (h : ¬ (s.size = 1 ∧ bt s 0 = 48)) : parV s = outV s false ∧ parE s = outE s false := by
 have e1 : (bigAt s 0 = true) = (4611686018427387904 < val s 0 s.size ∨ (val s 0 s.size = 4611686018427387904 ∧ false = false)) := by
  rw [big_iff]; simp
 have e2 : (bigAt s 0 = false) = ¬ (4611686018427387904 < val s 0 s.size ∨ (val s 0 s.size = 4611686018427387904 ∧ false = false)) := by
  rw [big_not]; simp
 have hm' : ¬ minusB s = true := by rw [hm]; simp
 unfold parV parE outV outE
 rw [if_neg hm', if_neg hm']
 unfold parVAt parEAt
 rw [cnt_whole s h, Nat.sub_zero]
 simp only [e1, e2]
 exact ⟨by simp, trivial⟩
theorem out_nought (s : ByteArray) (h : s.size = 1) (h' : bt s 0 = 48) : parV s = intW 0 ∧ parE s = 0 := by
 have hm : ¬ minusB s = true := by unfold minusB; simp; omega
 have hv : val s 0 1 = 0 := by simp [val, h']
 have ha : allB s 0 1 = true := by simp [allB, h']
 have hf : formAt s 0 = true := by unfold formAt; simp [h, ha]
 have hb : bigAt s 0 = false := by unfold bigAt; simp [h, hv]
 unfold parV parE
 rw [if_neg hm, if_neg hm]
 unfold parVAt parEAt
 rw [hf, hb, h]
 simp [hv]
/-- Digits, and their value, from a up to j. -/
def allJ (s : ByteArray) (a j : Nat) : Bool := allB s a (j - a)
def valJ (s : ByteArray) (a j : Nat) : Int := val s a (j - a)
theorem allJ_start (s : ByteArray) (a : Nat) : allJ s a a = true := by unfold allJ; rw [Nat.sub_self]; rfl
theorem valJ_start (s : ByteArray) (a : Nat) : valJ s a a = 0 := by unfold valJ; rw [Nat.sub_self]; rfl
theorem allJ_step (s : ByteArray) (a j : Nat) (hj : a ≤ j) (h : allJ s a j = true) (h1 : 48 ≤ bt s j) (h2 : bt s j ≤ 57) : allJ s a (j + 1) = true := by
 unfold allJ at *
 rw [show j + 1 - a = (j - a) + 1 from by omega]
 exact allB_step s a _ h (by rw [show a + (j - a) = j from by omega]; exact h1) (by rw [show a + (j - a) = j from by omega]; exact h2)
theorem allJ_at (s : ByteArray) (a n : Nat) (h : allJ s a n = true) (j : Nat) (hj : a ≤ j) (hn : j < n) : 48 ≤ bt s j ∧ bt s j ≤ 57 := by
 have := allB_at s a _ h (j - a) (by omega)
 rwa [show a + (j - a) = j from by omega] at this
theorem allJ_bad (s : ByteArray) (a n j : Nat) (hj : a ≤ j) (hn : j < n) (h : ¬ (48 ≤ bt s j ∧ bt s j ≤ 57)) : allB s a (n - a) = false := by
 cases e : allB s a (n - a)
 ·rfl
 ·exact absurd (allJ_at s a n e j hj hn) h
theorem valJ_step (s : ByteArray) (a j : Nat) (hj : a ≤ j) : valJ s a (j + 1) = valJ s a j * 10 + (bt s j - 48) := by
 unfold valJ
 rw [show j + 1 - a = (j - a) + 1 from by omega, val, show a + (j - a) = j from by omega]
theorem valJ_nonneg (s : ByteArray) (a j n : Nat) (h : allJ s a n = true) (hj : j ≤ n) : 0 ≤ valJ s a j :=
 val_nonneg s a _ (allB_le s a _ h _ (by omega))
theorem valJ_up (s : ByteArray) (a j n : Nat) (h : allJ s a n = true) (hj : j ≤ n) : valJ s a j ≤ valJ s a n :=
 val_up s a _ _ h (by omega)
theorem far_q (d : Int) (h : d ≤ 9) : (-4611686018427387904 + d).tdiv 10 = -((4611686018427387904 - d) / 10) := by
 rw [show -4611686018427387904 + d = -(4611686018427387904 - d) from by omega, Int.neg_tdiv, Int.tdiv_eq_ediv_of_nonneg (by omega)]
theorem far_yes (v d : Int) (h : d ≤ 9) (hf : 4611686018427387904 < v * 10 + d) : -v < (-4611686018427387904 + d).tdiv 10 := by
 rw [far_q d h]; omega
theorem far_no (v d : Int) (h : d ≤ 9) (hf : ¬ 4611686018427387904 < v * 10 + d) : ¬ -v < (-4611686018427387904 + d).tdiv 10 := by
 rw [far_q d h]; omega
theorem par_form (s : ByteArray) (a : Nat) (h : formAt s a = false) : parVAt s a = 0 ∧ parEAt s a = 5 := by
 unfold parVAt parEAt; rw [h]; simp
theorem par_big (s : ByteArray) (a : Nat) (h : formAt s a = true) (g : bigAt s a = true) : parVAt s a = 0 ∧ parEAt s a = 2 := by
 unfold parVAt parEAt; rw [h, g]; simp
theorem par_ok (s : ByteArray) (a : Nat) (h : formAt s a = true) (g : bigAt s a = false) : parVAt s a = intW (if a = 0 then val s a (s.size - a) else -val s a (s.size - a)) ∧ parEAt s a = 0 := by
 unfold parVAt parEAt; rw [h, g]; simp
theorem form_bad (s : ByteArray) (a j : Nat) (hj : a ≤ j) (hn : j < s.size) (h : ¬ (48 ≤ bt s j ∧ bt s j ≤ 57)) : formAt s a = false := by
 unfold formAt; rw [allJ_bad s a s.size j hj hn h]; simp
theorem form_ok (s : ByteArray) (a : Nat) (ha : a < s.size) (h : allJ s a s.size = true) (g : bt s a ≠ 48 ∨ s.size = 1) : formAt s a = true := by
 unfold formAt; unfold allJ at h
 rw [h, decide_eq_true ha]
 simp only [Bool.true_and, Bool.or_eq_true, decide_eq_true_eq]
 exact g
end Go.Proofs.YthjmakjhidjbaaaGreat

/-
 Plain arithmetic of there and back, without any program: a number's decimal numeral is read as that number; a header's word has its tag and size; an address's word its address. No condition but those written in each statement.
-/
namespace Go.Proofs.YthjmakjhidjbaaaGreat
open Go.RowKit

theorem pow_le_nDigits (u : Nat) : 1 ≤ u → 10 ^ (Lib.nDigits u - 1) ≤ u := by
 induction u using Nat.strongRecOn with
 | _ u ih =>
  intro h1
  by_cases h : u < 10
  ·rw [Lib.nDigits_small h]; simpa using h1
  ·have p := Lib.nDigits_pos (u / 10)
   have := ih (u / 10) (by omega) (by omega)
   rw [Lib.nDigits_big h, show Lib.nDigits (u / 10) + 1 - 1 = (Lib.nDigits (u / 10) - 1) + 1 from by omega, Nat.pow_succ]
   omega
/-- From a on a text is the numeral of u. -/
def numeralAt (s : ByteArray) (a u : Nat) : Prop := s.size = a + Lib.nDigits u ∧ ∀ t, t < Lib.nDigits u → bt s (a + t) = 48 + ((u / 10 ^ (Lib.nDigits u - 1 - t) % 10 : Nat) : Int)
theorem numeral_of (pre : List UInt8) (u : Nat) : numeralAt ⟨(pre ++ Lib.decDigits u).toArray⟩ pre.length u := by
 have hl := Lib.decDigits_length u
 have hz : (ByteArray.mk (pre ++ Lib.decDigits u).toArray).size = pre.length + Lib.nDigits u := by
  show (pre ++ Lib.decDigits u).toArray.size = _
  rw [List.size_toArray, List.length_append, hl]
 refine ⟨hz, fun t ht => ?_⟩
 unfold bt
 rw [dif_pos (by omega)]
 have e : (ByteArray.mk (pre ++ Lib.decDigits u).toArray)[pre.length + t]'(by omega) = Lib.dg u (Lib.nDigits u - 1 - t) := by
  show (pre ++ Lib.decDigits u)[pre.length + t]'(by rw [List.length_append]; omega) = _
  rw [List.getElem_append_right (by omega)]
  simp only [Nat.add_sub_cancel_left, Lib.decDigits_eq u, List.getElem_map, List.getElem_range]
 rw [e]
 unfold Lib.dg
 rw [UInt8.toNat_ofNat']
 omega
theorem numeral_all (s : ByteArray) (a u : Nat) (h : numeralAt s a u) : ∀ k, k ≤ Lib.nDigits u → allB s a k = true
 | 0, _ => rfl
 | k + 1, hk => by
  have d := h.2 k (by omega)
  exact allB_step s a k (numeral_all s a u h k (by omega)) (by omega) (by omega)
theorem numeral_val (s : ByteArray) (a u : Nat) (h : numeralAt s a u) : ∀ k, k ≤ Lib.nDigits u → val s a k = ((u / 10 ^ (Lib.nDigits u - k) : Nat) : Int)
 | 0, _ => by
  have := Lib.lt_pow_nDigits u
  rw [val, Nat.sub_zero, Nat.div_eq_of_lt this]; rfl
 | k + 1, hk => by
  have d := h.2 k (by omega)
  have e : u / 10 ^ (Lib.nDigits u - k) = u / 10 ^ (Lib.nDigits u - (k + 1)) / 10 := by
   rw [show Lib.nDigits u - k = (Lib.nDigits u - (k + 1)) + 1 from by omega, Nat.pow_succ, Nat.div_div_eq_div_mul]
  rw [val, numeral_val s a u h k (by omega), d, e, show Lib.nDigits u - 1 - k = Lib.nDigits u - (k + 1) from by omega]
  generalize u / 10 ^ (Lib.nDigits u - (k + 1)) = v
  omega
theorem numeral_whole (s : ByteArray) (a u : Nat) (h : numeralAt s a u) : val s a (s.size - a) = (u : Int) := by
 rw [show s.size - a = Lib.nDigits u from by have := h.1; omega, numeral_val s a u h _ (Nat.le_refl _), Nat.sub_self, Nat.pow_zero, Nat.div_one]
theorem numeral_first (s : ByteArray) (a u : Nat) (h : numeralAt s a u) (h1 : 1 ≤ u) : bt s a ≠ 48 := by
 have p := Lib.nDigits_pos u
 have d := h.2 0 (by omega)
 rw [Nat.add_zero, Nat.sub_zero] at d
 have lo := pow_le_nDigits u h1
 have hi := Lib.lt_pow_nDigits u
 have q : u / 10 ^ (Lib.nDigits u - 1) < 10 := by
  apply Nat.div_lt_of_lt_mul
  rw [← Nat.pow_succ, show (Lib.nDigits u - 1).succ = Lib.nDigits u from by omega]; exact hi
 have r : 1 ≤ u / 10 ^ (Lib.nDigits u - 1) := (Nat.one_le_div_iff (Nat.pow_pos (by omega))).2 lo
 omega
theorem numeral_form (s : ByteArray) (a u : Nat) (h : numeralAt s a u) (g : 1 ≤ u ∨ a = 0) : formAt s a = true := by
 have p := Lib.nDigits_pos u
 have hz := h.1
 have ha : allB s a (s.size - a) = true := numeral_all s a u h _ (by omega)
 unfold formAt
 rw [decide_eq_true (by omega : a < s.size), ha]
 simp only [Bool.true_and, Bool.or_eq_true, decide_eq_true_eq]
 by_cases h1 : 1 ≤ u
 ·exact Or.inl (numeral_first s a u h h1)
 ·right
  rw [show u = 0 from by omega, Lib.nDigits_small (by omega)] at hz
  omega
theorem back_par (n : Int) (h : -4611686018427387904 ≤ n) (h' : n ≤ 4611686018427387903) : parV ⟨(Lib.itoa n).toArray⟩ = intW n ∧ parE ⟨(Lib.itoa n).toArray⟩ = 0 := by
 by_cases c : n < 0
 ·obtain ⟨u, rfl⟩ : ∃ u : Nat, n = -(u : Int) := ⟨n.natAbs, by omega⟩
  rw [Lib.itoa_neg u (by omega)]
  have N := numeral_of [45] u
  change numeralAt ⟨(45 :: Lib.decDigits u).toArray⟩ 1 u at N
  generalize hs : (ByteArray.mk (45 :: Lib.decDigits u).toArray) = s at *
  have p := Lib.nDigits_pos u
  have hm : minusB s = true := by
   refine decide_eq_true ⟨by have := N.1; omega, ?_⟩
   rw [← hs]; unfold bt; rw [dif_pos (by have := N.1; rw [← hs] at this; omega)]; rfl
  have hv := numeral_whole s 1 u N
  have hf := numeral_form s 1 u N (Or.inl (by omega))
  have hb : bigAt s 1 = false := (big_not s 1).2 (by rw [hv]; omega)
  unfold parV parE
  rw [if_pos hm, if_pos hm]
  obtain ⟨e1, e2⟩ := par_ok s 1 hf hb
  rw [e1, e2, hv]
  exact ⟨rfl, rfl⟩
 ·obtain ⟨u, rfl⟩ : ∃ u : Nat, n = (u : Int) := ⟨n.toNat, by omega⟩
  rw [Lib.itoa_nonneg]
  have N := numeral_of [] u
  change numeralAt ⟨(Lib.decDigits u).toArray⟩ 0 u at N
  generalize hs : (ByteArray.mk (Lib.decDigits u).toArray) = s at *
  have p := Lib.nDigits_pos u
  have hm : ¬ minusB s = true := by
   have d := N.2 0 (by omega)
   rw [Nat.add_zero] at d
   unfold minusB; rw [decide_eq_true_eq]; omega
  have hv := numeral_whole s 0 u N
  have hf := numeral_form s 0 u N (Or.inr rfl)
  have hb : bigAt s 0 = false := (big_not s 0).2 (by rw [hv]; omega)
  unfold parV parE
  rw [if_neg hm, if_neg hm]
  obtain ⟨e1, e2⟩ := par_ok s 0 hf hb
  rw [e1, e2, hv]
  exact ⟨rfl, rfl⟩
theorem head_is (t s : Int) (h : 0 ≤ t) (h' : t ≤ 255) (g : 0 ≤ s) (g' : s ≤ 2147483647) : headW t s = intW (256 * s + t) := by
 unfold headW; rw [if_neg (by omega)]
theorem head_num (t s : Int) (h : 0 ≤ t) (h' : t ≤ 255) (g : 0 ≤ s) (g' : s ≤ 2147483647) : numW (headW t s) = 256 * s + t := by
 rw [head_is t s h h' g g', num_int, cut_same _ (by omega) (by omega)]
theorem head_isHead (t s : Int) (h : 0 ≤ t) (h' : t ≤ 255) (g : 0 ≤ s) (g' : s ≤ 2147483647) : isHeadW (headW t s) = true := by
 have n := head_num t s h h' g g'
 have o := isInt_int (256 * s + t)
 rw [← head_is t s h h' g g'] at o
 unfold isIntW at o
 unfold isHeadW
 rw [n, o, decide_eq_true (by omega : 0 ≤ 256 * s + t), decide_eq_true (by omega : 256 * s + t ≤ 549755813887)]; rfl
theorem back_tag (t s : Int) (h : 0 ≤ t) (h' : t ≤ 255) (g : 0 ≤ s) (g' : s ≤ 2147483647) : tagW (headW t s) = t := by
 unfold tagW; rw [if_pos (head_isHead t s h h' g g'), head_num t s h h' g g']; omega
theorem back_size (t s : Int) (h : 0 ≤ t) (h' : t ≤ 255) (g : 0 ≤ s) (g' : s ≤ 2147483647) : sizeW (headW t s) = s := by
 unfold sizeW; rw [if_pos (head_isHead t s h h' g g'), head_num t s h h' g g']; omega
theorem back_headInt (t s : Int) (h : 0 ≤ t) (h' : t ≤ 255) (g : 0 ≤ s) (g' : s ≤ 2147483647) : isIntW (headW t s) = true := by
 rw [head_is t s h h' g g']; exact isInt_int _
theorem ptr_is (s : Int) (g : 0 ≤ s) (g' : s ≤ 2147483647) : ptrW s = 2 * s := by unfold ptrW; rw [if_neg (by omega)]
theorem back_ptr (s : Int) (g : 0 ≤ s) (g' : s ≤ 2147483647) : addrW (ptrW s) = s := by
 rw [ptr_is s g g']; unfold addrW; rw [if_neg (by omega)]; omega
theorem back_ptrInt (s : Int) (g : 0 ≤ s) (g' : s ≤ 2147483647) : isIntW (ptrW s) = false := by
 rw [ptr_is s g g']; unfold isIntW; rw [beq_eq_false_iff_ne]; omega
theorem headW_lo (t s : Int) : 0 ≤ headW t s := by unfold headW; split; omega; exact intW_lo _
theorem headW_hi (t s : Int) : headW t s ≤ 18446744073709551615 := by unfold headW; split; omega; exact intW_hi _
theorem ptrW_lo (a : Int) : 0 ≤ ptrW a := by unfold ptrW; split <;> omega
theorem ptrW_hi (a : Int) : ptrW a ≤ 18446744073709551615 := by unfold ptrW; split <;> omega
/-- The text of a word's number. -/
def textOf (x : Int) : ByteArray := ⟨(Lib.itoa (numW x)).toArray⟩
theorem text_size (x : Int) (h : 0 ≤ x) (h' : x ≤ 18446744073709551615) : (textOf x).size ≤ 21 :=
 Lib.itoa_length_le (numW x) (by have := numW_lo x h; omega) (by have := numW_hi x h'; omega)
theorem text_par (n : Int) : parV (textOf (intW n)) = intW n ∧ parE (textOf (intW n)) = 0 := by
 have h := back_par (numW (intW n)) (numW_lo _ (intW_lo n)) (numW_hi _ (intW_hi n))
 unfold textOf
 rw [h.1, h.2, num_int, intW_cut]
 exact ⟨rfl, rfl⟩
theorem back_num (n : Int) : intW (numW (intW n)) = intW n := by rw [num_int, intW_cut]
end Go.Proofs.YthjmakjhidjbaaaGreat

/-
 Layer 7: a number's text is the only one: what Parse reads without fault is what Digits writes. No program is named.
-/
namespace Go.Proofs.YthjmakjhidjbaaaGreat
set_option linter.unusedVariables false
set_option maxHeartbeats 1000000

theorem suf_get (s : ByteArray) (a k : Nat) (h : a + k < s.size) : (suf s a)[k]? = some s[a + k] := by
 unfold suf
 rw [List.getElem?_drop, List.getElem?_eq_getElem (by rw [Array.length_toList]; exact h)]
 rfl
theorem bt_at (s : ByteArray) {k : Nat} (h : k < s.size) : bt s k = (s[k].toNat : Int) := (get_bt s k h).symm
theorem digit_of (c : UInt8) (u : Nat) (h : (c.toNat : Int) - 48 = u) : UInt8.ofNat (48 + u) = c := by
 have : 48 + u = c.toNat := by omega
 rw [this, UInt8.ofNat_toNat]
theorem digs_take (s : ByteArray) (a : Nat) (h0 : bt s a ≠ 48) : ∀ k, a + k + 1 ≤ s.size → allB s a (k + 1) = true → (suf s a).take (k + 1) = Lib.decDigits (val s a (k + 1)).toNat ∧ 1 ≤ val s a (k + 1)
 | 0, h1, h2 => by
  unfold allB at h2
  simp only [Bool.and_eq_true, decide_eq_true_eq, Nat.add_zero] at h2
  obtain ⟨_, h3, h4⟩ := h2
  have hb := bt_at s (show a < s.size by omega)
  have hv : val s a 1 = bt s a - 48 := by simp [val]
  rw [hv, List.take_add_one, suf_get s a 0 (by omega)]
  refine ⟨?_, by omega⟩
  rw [Lib.decDigits_one (by omega), digit_of s[a] _ (by omega)]
  rfl
 | k + 1, h1, h2 => by
  rw [allB] at h2
  simp only [Bool.and_eq_true, decide_eq_true_eq] at h2
  obtain ⟨h2, h3, h4⟩ := h2
  obtain ⟨i1, i2⟩ := digs_take s a h0 k (by omega) h2
  have hb := bt_at s (show a + (k + 1) < s.size by omega)
  have hv : val s a (k + 1 + 1) = val s a (k + 1) * 10 + (bt s (a + (k + 1)) - 48) := rfl
  rw [hv]
  generalize val s a (k + 1) = v at *
  refine ⟨?_, by omega⟩
  rw [List.take_add_one, suf_get s a (k + 1) (by omega), i1]
  rw [Lib.decDigits.eq_def (v * 10 + (bt s (a + (k + 1)) - 48)).toNat, dif_neg (by omega)]
  rw [show (v * 10 + (bt s (a + (k + 1)) - 48)).toNat / 10 = v.toNat by omega, digit_of s[a + (k + 1)] _ (by omega)]
  rfl
theorem form_digs {s : ByteArray} {a : Nat} (h : formAt s a = true) : suf s a = Lib.decDigits (val s a (s.size - a)).toNat ∧ 0 ≤ val s a (s.size - a) ∧ (1 ≤ val s a (s.size - a) ∨ s.size = 1) := by
 unfold formAt at h
 simp only [Bool.and_eq_true, Bool.or_eq_true, decide_eq_true_eq] at h
 obtain ⟨h1, h2, h3⟩ := h
 by_cases h0 : bt s a = 48
 ·have h4 : s.size = 1 := by rcases h3 with h3 | h3; exact absurd h0 h3; exact h3
  have ha : a = 0 := by omega
  subst ha
  rw [h4]
  have hv : val s 0 (1 - 0) = 0 := by simp [val, h0]
  rw [hv]
  refine ⟨?_, by omega, Or.inr rfl⟩
  have hb := bt_at s (show 0 < s.size by omega)
  rw [suf_cons s (show 0 < s.size by omega), List.length_eq_zero_iff.1 (show (suf s (0 + 1)).length = 0 by rw [suf_len]; omega)]
  rw [Lib.decDigits_one (by decide), digit_of s[0] _ (by rw [← hb, h0]; rfl)]
 ·obtain ⟨i1, i2⟩ := digs_take s a h0 (s.size - a - 1) (by omega) (by rw [show s.size - a - 1 + 1 = s.size - a by omega]; exact h2)
  rw [show s.size - a - 1 + 1 = s.size - a by omega] at i1 i2
  refine ⟨?_, by omega, Or.inl i2⟩
  rw [← i1, List.take_of_length_le (by rw [suf_len]; omega)]
/-- What is read without fault is what is written. -/
theorem par_back (s : ByteArray) (h : parE s = 0) : Lib.itoa (numW (parV s)) = s.data.toList := by
 unfold parE at h
 unfold parV
 by_cases hm : minusB s = true
 ·rw [if_pos hm] at h ⊢
  unfold parEAt at h
  by_cases hf : formAt s 1 = true
  ·rw [if_pos hf] at h
   have hbg : bigAt s 1 = false := by
    cases hb : bigAt s 1 with
    | false => rfl
    | true => rw [hb] at h; simp at h
   obtain ⟨f1, f2, f3⟩ := form_digs hf
   have hsz : 1 < s.size := by unfold formAt at hf; simp at hf; omega
   have f4 : 1 ≤ val s 1 (s.size - 1) := by omega
   unfold parVAt
   rw [if_pos ⟨hf, hbg⟩, if_neg (by decide)]
   unfold bigAt at hbg
   simp at hbg
   rw [num_int, cut_same _ (by omega) (by omega)]
   unfold Lib.itoa
   rw [if_pos (by omega), show (-val s 1 (s.size - 1)).natAbs = (val s 1 (s.size - 1)).toNat by omega, ← f1]
   unfold minusB at hm
   simp only [decide_eq_true_eq] at hm
   have hb := bt_at s (show 0 < s.size by omega)
   have e0 := suf_cons s (show 0 < s.size by omega)
   have e1 : s[0] = 45 := by rw [← UInt8.toNat_inj]; show s[0].toNat = 45; omega
   rw [e1] at e0
   exact e0.symm
  ·rw [if_neg hf] at h; simp at h
 ·rw [if_neg hm] at h ⊢
  unfold parEAt at h
  by_cases hf : formAt s 0 = true
  ·rw [if_pos hf] at h
   have hbg : bigAt s 0 = false := by
    cases hb : bigAt s 0 with
    | false => rfl
    | true => rw [hb] at h; simp at h
   obtain ⟨f1, f2, f3⟩ := form_digs hf
   unfold parVAt
   rw [if_pos ⟨hf, hbg⟩, if_pos rfl]
   unfold bigAt at hbg
   simp at hbg
   have hbg2 := hbg
   rw [num_int, cut_same _ (by omega) (by simp at *; omega)]
   unfold Lib.itoa
   rw [if_neg (by omega), ← f1]
   rfl
  ·rw [if_neg hf] at h; simp at h
/-- What the document reads tokens by. -/
def docW : LexW := ⟨wordsL.contains, signsL, fun l => (numW (parV ⟨l.toArray⟩), parE ⟨l.toArray⟩)⟩
theorem docSigns : SignsOk docW := ⟨by show ∀ s, s ∈ signsL → _; decide, by show ∀ s, s ∈ signsL → _; decide⟩
theorem docOk : LexOk docW Lib.itoa := ⟨docSigns, by show ∀ s, s ∈ signsL → signsL.find? _ = _; decide, fun s hs x e => by
  have h : ∀ s, s ∈ signsL → s.take 2 ≠ [40, 42] := by decide
  exact h s hs (by rw [e]; rfl), fun w h => par_back ⟨w.toArray⟩ h⟩
end Go.Proofs.YthjmakjhidjbaaaGreat

/-
 Layer 7, the program's marks: which bytes are which, which texts are words, which are signs. No condition.
-/
namespace Go.Proofs.YthjmakjhidjbaaaGreat
open Go.ChangeShapes Go.WideShapes Go.ChangeAt Go.RowKit Go.Deep
set_option linter.unusedVariables false
set_option maxHeartbeats 1000000

theorem blank_is (c : UInt8) : blankB c = (((c.toNat : Int) == 32) || ((c.toNat : Int) == 10) || ((c.toNat : Int) == 9) || ((c.toNat : Int) == 13)) := by
 unfold blankB
 have h1 := (u8_iff c 32 (by decide)).2.2
 have h2 := (u8_iff c 10 (by decide)).2.2
 have h3 := (u8_iff c 9 (by decide)).2.2
 have h4 := (u8_iff c 13 (by decide)).2.2
 exact congr (congrArg _ (congr (congrArg _ (congr (congrArg _ h1) h2)) h3)) h4
theorem isBlank_any {b : Bool} (c : UInt8) (w : World) (e : blankB c = b) : Calls Tryz.prog 56 #[.int .u8 (c.toNat : Int)] w fun e w' => e = .returned (.bool b) ∧ w' = w := by
 subst e
 rw [blank_is c]
 generalize (c.toNat : Int) = n
 go_enter Tryz.func56, Tryz.ntmps56
 go_wp2
 all_goals go_ret
 all_goals refine ⟨ret_bool ?_, rfl⟩
 all_goals rw [Bool.eq_iff_iff]
 all_goals simp
 all_goals omega
theorem isSmall_any {b : Bool} (c : UInt8) (w : World) (e : smallB c = b) : Calls Tryz.prog 59 #[.int .u8 (c.toNat : Int)] w fun e w' => e = .returned (.bool b) ∧ w' = w := by
 subst e
 rw [small_is c]
 generalize (c.toNat : Int) = n
 go_enter Tryz.func59, Tryz.ntmps59
 go_wp2
 all_goals go_ret
 all_goals refine ⟨ret_bool ?_, rfl⟩
 all_goals rw [Bool.eq_iff_iff]
 all_goals simp
 all_goals omega
theorem isGreat_any {b : Bool} (c : UInt8) (w : World) (e : greatB c = b) : Calls Tryz.prog 60 #[.int .u8 (c.toNat : Int)] w fun e w' => e = .returned (.bool b) ∧ w' = w := by
 subst e
 rw [great_is c]
 generalize (c.toNat : Int) = n
 go_enter Tryz.func60, Tryz.ntmps60
 go_wp2
 all_goals go_ret
 all_goals refine ⟨ret_bool ?_, rfl⟩
 all_goals rw [Bool.eq_iff_iff]
 all_goals simp
 all_goals omega
theorem isDigit_any {b : Bool} (c : UInt8) (w : World) (e : digitB c = b) : Calls Tryz.prog 63 #[.int .u8 (c.toNat : Int)] w fun e w' => e = .returned (.bool b) ∧ w' = w := by
 subst e
 rw [digit_is c]
 generalize (c.toNat : Int) = n
 go_enter Tryz.func63, Tryz.ntmps63
 go_wp2
 all_goals go_ret
 all_goals refine ⟨ret_bool ?_, rfl⟩
 all_goals rw [Bool.eq_iff_iff]
 all_goals simp
 all_goals omega
theorem isOfName_any {b : Bool} (c : UInt8) (w : World) (e : nameB c = b) : Calls Tryz.prog 86 #[.int .u8 (c.toNat : Int)] w fun e w' => e = .returned (.bool b) ∧ w' = w := by
 have h39 := (u8_iff c 39 (by decide)).2.2
 have H39 : Hid (((c.toNat : Int) == 39) = (c == 39)) := h39.symm
 have HN : Hid (nameB c = b) := e
 clear h39 e
 cases h1 : smallB c with
 | true =>
  have HE : Hid (true = b) := by show _ = _; rw [← HN.out]; unfold nameB; rw [h1]; rfl
  have H1 := hidden h1
  clear h1 HN
  go_enter Tryz.func86, Tryz.ntmps86
  go_wp2_with (go_at_call 59; refine (isSmall_any c _ H1.out).mono ?_; rintro e w' ⟨rfl, hw'⟩; rw [hw']; clear hw' w')
  all_goals go_ret
  all_goals exact ⟨ret_bool HE.out, rfl⟩
 | false =>
  cases h2 : greatB c with
  | true =>
   have HE : Hid (true = b) := by show _ = _; rw [← HN.out]; unfold nameB; rw [h1, h2]; rfl
   have H1 := hidden h1
   have H2 := hidden h2
   clear h1 h2 HN
   go_enter Tryz.func86, Tryz.ntmps86
   go_wp2_with (first
    | (go_at_call 59; refine (isSmall_any c _ H1.out).mono ?_; rintro e w' ⟨rfl, hw'⟩; rw [hw']; clear hw' w')
    | (go_at_call 60; refine (isGreat_any c _ H2.out).mono ?_; rintro e w' ⟨rfl, hw'⟩; rw [hw']; clear hw' w'))
   all_goals go_ret
   all_goals exact ⟨ret_bool HE.out, rfl⟩
  | false =>
   cases h3 : digitB c with
   | true =>
    have HE : Hid (true = b) := by show _ = _; rw [← HN.out]; unfold nameB; rw [h1, h2, h3]; rfl
    have H1 := hidden h1
    have H2 := hidden h2
    have H3 := hidden h3
    clear h1 h2 h3 HN
    go_enter Tryz.func86, Tryz.ntmps86
    go_wp2_with (first
     | (go_at_call 59; refine (isSmall_any c _ H1.out).mono ?_; rintro e w' ⟨rfl, hw'⟩; rw [hw']; clear hw' w')
     | (go_at_call 60; refine (isGreat_any c _ H2.out).mono ?_; rintro e w' ⟨rfl, hw'⟩; rw [hw']; clear hw' w')
     | (go_at_call 63; refine (isDigit_any c _ H3.out).mono ?_; rintro e w' ⟨rfl, hw'⟩; rw [hw']; clear hw' w'))
    all_goals go_ret
    all_goals exact ⟨ret_bool HE.out, rfl⟩
   | false =>
    have HE : Hid (((c.toNat : Int) == 39) = b) := by show _ = _; rw [H39.out, ← HN.out]; unfold nameB; rw [h1, h2, h3]; rfl
    have H1 := hidden h1
    have H2 := hidden h2
    have H3 := hidden h3
    clear h1 h2 h3 HN
    go_enter Tryz.func86, Tryz.ntmps86
    go_wp2_with (first
     | (go_at_call 59; refine (isSmall_any c _ H1.out).mono ?_; rintro e w' ⟨rfl, hw'⟩; rw [hw']; clear hw' w')
     | (go_at_call 60; refine (isGreat_any c _ H2.out).mono ?_; rintro e w' ⟨rfl, hw'⟩; rw [hw']; clear hw' w')
     | (go_at_call 63; refine (isDigit_any c _ H3.out).mono ?_; rintro e w' ⟨rfl, hw'⟩; rw [hw']; clear hw' w'))
    all_goals go_ret
    all_goals exact ⟨ret_bool HE.out, rfl⟩
end Go.Proofs.YthjmakjhidjbaaaGreat

/-
 Layer 7, the program's reader in memory: the source, how far it was read, the place that a fault is told at; what each small step of it does. Condition: the reader lies in memory.
-/
namespace Go.Proofs.YthjmakjhidjbaaaGreat
open Go.ChangeShapes Go.WideShapes Go.ChangeAt Go.RowKit Go.Deep
set_option linter.unusedVariables false
set_option maxHeartbeats 1000000

/-- The reader lies in memory. -/
def RD (w : World) (b : Nat) (s : ByteArray) (i f : Nat) : Prop := w.heap[b]? = some (.cells #[.string s, .int .i64 i, .int .i64 f] 57 (0, 0))
/-- What is panicked with. -/
def faultP (e at_ : Int) : PanicEntry := { v := .iface 53 (.agg #[.int .i64 e, .int .i64 at_]), recovered := false }
section
variable {w w' : World} {b : Nat} {s : ByteArray} {i f : Nat}
theorem RD.cells (h : RD w b s i f) : w.cell? ⟨b, 0, none⟩ = some (.string s) ∧ w.cell? ⟨b, 1, none⟩ = some (.int .i64 i) ∧ w.cell? ⟨b, 2, none⟩ = some (.int .i64 f) ∧ ∀ o, w.frozen? ⟨b, o, none⟩ = false := by
 unfold RD at h
 simp [World.cell?, World.frozen?, h]
theorem RD.lt (h : RD w b s i f) : b < w.heap.size := lt_of_some h
theorem RD.drewN (h : RD w b s i f) (n : Nat) : RD (w.drewN n) b s i f := h
theorem RD.keep (h : RD w b s i f) {S : Nat → Prop} (k : Only S w w') (hs : ¬ S b) : RD w' b s i f := (k.block b h.lt hs).trans h
theorem RD.set1 (h : RD w b s i f) (j : Nat) : RD (w.setCell ⟨b, 1, none⟩ (.int .i64 j)) b s j f := by
 unfold RD at h ⊢
 simp [World.setCell, Array.getElem?_modify, h]
theorem RD.set2 (h : RD w b s i f) (j : Nat) : RD (w.setCell ⟨b, 2, none⟩ (.int .i64 j)) b s i j := by
 unfold RD at h ⊢
 simp [World.setCell, Array.getElem?_modify, h]
theorem RD.to1 (h : RD w b s i f) {z : Int} {j : Nat} (e : z = j) : RD (w.setCell ⟨b, 1, none⟩ (.int .i64 z)) b s j f := by rw [e]; exact h.set1 j
theorem RD.to2 (h : RD w b s i f) {z : Int} {j : Nat} (e : z = j) : RD (w.setCell ⟨b, 2, none⟩ (.int .i64 z)) b s i j := by rw [e]; exact h.set2 j
theorem RD.only1 (w : World) (b : Nat) (v : Value) (n o : Nat) : OnlyB b w ((w.drewN n).setCell ⟨b, o, none⟩ v) := Only.setCell (a := ⟨b, o, none⟩) ((Only.refl (fun k => k = b) w).drewN n) (Or.inr rfl) v
theorem RD.alloc (h : RD w b s i f) (o : Obj) : RD (w.alloc o) b s i f := (blk_alloc_lt _ _ _ h.lt).trans h
end
theorem wrapId (z : Int) (h : -9223372036854775808 ≤ z) (h' : z ≤ 9223372036854775807) : IntKind.i64.wrap z = z := by
 rw [IntKind.wrap_i64]; omega
/-- It is given up. -/
theorem giveUp_any (e : Int) {w : World} {b : Nat} {s : ByteArray} {i f : Nat} (h : RD w b s i f) : Calls Tryz.prog 89 #[.pointer (some ⟨b, 0, none⟩), .int .i64 e] w fun r w' => r = .panicked [faultP e f] ∧ w' = w := by
 obtain ⟨c0, c1, c2, hf⟩ := h.cells
 have hp : ∀ w, Sem.run Tryz.prog (Instr.panic (.iface 53 (.agg #[.int .i64 e, .int .i64 f]))) w = .halt (.panic (.iface 53 (.agg #[.int .i64 e, .int .i64 f]))) w := fun w => rfl
 clear h
 go_enter Tryz.func89, Tryz.ntmps89
 go_wp2
 exact ⟨rfl, rfl, rfl⟩
theorem next_yes {w : World} {b : Nat} {s : ByteArray} {i f : Nat} (h : RD w b s i f) (hi : i < s.size) (hs : s.size ≤ 1000000) : Calls Tryz.prog 85 #[.pointer (some ⟨b, 0, none⟩)] w fun r w' => r = .returned (.int .u8 (s[i].toNat : Int)) ∧ RD w' b s (i + 1) f ∧ OnlyB b w w' := by
 obtain ⟨c0, c1, c2, hf⟩ := h.cells
 have H := hidden h
 have z1 : ((i : Int) == (s.size : Int)) = false := by rw [beq_eq_false_iff_ne]; omega
 have z2 := wrapId ((i : Int) + 1 - 1) (by omega) (by omega)
 clear h
 go_enter Tryz.func85, Tryz.ntmps85
 go_wp2_with fail
 go_quiet (fail)
 go_wp2_with fail
 have H2 := hidden ((H.out.drewN nq).to1 (show (i : Int) + 1 = ((i + 1 : Nat) : Int) by omega))
 have O2 := hidden (RD.only1 w b (.int .i64 ((i : Int) + 1)) nq 1)
 obtain ⟨d0, d1, d2, df⟩ := H2.out.cells
 clear c0 c1 c2 hf H z1
 generalize (w.drewN nq).setCell ⟨b, 1, none⟩ (.int .i64 ((i : Int) + 1)) = w2 at *
 have z3 : (0 : Int) ≤ (i : Int) + 1 - 1 := by omega
 have z4 : (i : Int) + 1 - 1 < (s.size : Int) := by omega
 go_quiet (fail)
 go_wp2_with fail
 go_ret
 exact ⟨rfl, H2.out.drewN _, O2.out.drewN _⟩
theorem next_no {w : World} {b : Nat} {s : ByteArray} {i f : Nat} (h : RD w b s i f) (hi : i = s.size) (hs : s.size ≤ 1000000) : Calls Tryz.prog 85 #[.pointer (some ⟨b, 0, none⟩)] w fun r w' => r = .panicked [faultP 20 f] ∧ OnlyB b w w' := by
 obtain ⟨c0, c1, c2, hf⟩ := h.cells
 have H := hidden h
 have z1 : ((i : Int) == (s.size : Int)) = true := by rw [beq_iff_eq]; omega
 have HI := hidden hi
 clear h hi
 go_enter Tryz.func85, Tryz.ntmps85
 go_wp2_with fail
 go_quiet (fail)
 go_wp2_with (go_at_call 89; refine (giveUp_any 20 (H.out.drewN _)).mono ?_; rintro e w5 ⟨rfl, rfl⟩)
 exact ⟨rfl, rfl, (Only.refl _ w).drewN _⟩
theorem pre_is {s t : ByteArray} {i : Nat} (hi : i ≤ s.size) : Lib.hasPrefix (s.extract i s.size).data.toList t.data.toList = atB s i t := by
 have e : (s.extract i s.size).data.toList = suf s i := by
  unfold suf
  rw [ByteArray.data_extract]
  simp
  exact List.take_of_length_le (by simp)
 rw [e]
 rfl
theorem ahead_any {v : Bool} {w : World} {b : Nat} {s : ByteArray} {i f : Nat} (t : ByteArray) (h : RD w b s i f) (hi : i ≤ s.size) (hs : s.size ≤ 1000000) (e : atB s i t = v) : Calls Tryz.prog 57 #[.pointer (some ⟨b, 0, none⟩), .string t] w fun r w' => r = .returned (.bool v) ∧ ∃ n, w' = w.drewN n := by
 obtain ⟨c0, c1, c2, hf⟩ := h.cells
 have HC := hidden (Tryz.strings_HasPrefix (s.extract i s.size) t)
 rw [pre_is hi, e] at HC
 have hsl : ∀ w', Sem.run Tryz.prog (Instr.slice 9 (.string s) (some (.int .i64 (i : Int))) none none) w' = .ok (.string (s.extract i s.size)) w' := fun w' => by
  have h1 : (0 : Int) ≤ (i : Int) ∧ (i : Int) ≤ (s.size : Int) := ⟨by omega, by omega⟩
  rw [run_slice_string_from_if w' 9 s .i64 (i : Int) Tryz.underlying9, if_pos h1]
  rfl
 clear h e
 go_enter Tryz.func57, Tryz.ntmps57
 go_wp2_with fail
 go_quiet ((go_at_call 83; exact Calls.quiet_of_same (HC.out _)))
 go_wp2_with fail
 go_ret
 exact ⟨rfl, _, rfl⟩
theorem ahead_rd {v : Bool} {w : World} {b : Nat} {s : ByteArray} {i f : Nat} (t : ByteArray) (h : RD w b s i f) (hi : i ≤ s.size) (hs : s.size ≤ 1000000) (e : atB s i t = v) : Calls Tryz.prog 57 #[.pointer (some ⟨b, 0, none⟩), .string t] w fun r w' => r = .returned (.bool v) ∧ RD w' b s i f ∧ OnlyB b w w' :=
 (ahead_any t h hi hs e).mono fun r w' ⟨e1, n, e2⟩ => ⟨e1, by rw [e2]; exact h.drewN n, by rw [e2]; exact (Only.refl _ w).drewN n⟩
theorem at_fits {s t : ByteArray} {i : Nat} (hi : i ≤ s.size) (h : atB s i t = true) : i + t.size ≤ s.size := by
 by_cases c : i + t.size ≤ s.size
 ·exact c
 ·rw [at_no (by omega) hi] at h; cases h
theorem take_no {w : World} {b : Nat} {s : ByteArray} {i f : Nat} (t : ByteArray) (h : RD w b s i f) (hi : i ≤ s.size) (hs : s.size ≤ 1000000) (e : atB s i t = false) : Calls Tryz.prog 84 #[.pointer (some ⟨b, 0, none⟩), .string t] w fun r w' => r = .returned (.bool false) ∧ RD w' b s i f ∧ OnlyB b w w' := by
 have H := hidden h
 have HE := hidden e
 clear h e
 go_enter Tryz.func84, Tryz.ntmps84
 go_wp2_with (go_at_call 57; refine (ahead_rd t H.out hi hs HE.out).mono ?_; rintro e w5 ⟨rfl, hr, ho⟩; have R5 := hidden hr; have O5 := hidden ho; clear hr ho)
 go_ret
 exact ⟨rfl, R5.out, O5.out⟩
theorem take_yes {w : World} {b : Nat} {s : ByteArray} {i f : Nat} (t : ByteArray) (h : RD w b s i f) (hi : i ≤ s.size) (hs : s.size ≤ 1000000) (e : atB s i t = true) : Calls Tryz.prog 84 #[.pointer (some ⟨b, 0, none⟩), .string t] w fun r w' => r = .returned (.bool true) ∧ RD w' b s (i + t.size) f ∧ OnlyB b w w' := by
 have H := hidden h
 have HE := hidden e
 have ht := at_fits hi e
 clear h e
 go_enter Tryz.func84, Tryz.ntmps84
 go_wp2_with (go_at_call 57; refine (ahead_rd t H.out hi hs HE.out).mono ?_; rintro e w5 ⟨rfl, hr, ho⟩; have R5 := hidden hr; have O5 := hidden ho; obtain ⟨c0, c1, c2, hf⟩ := hr.cells; clear hr ho)
 go_ret
 exact ⟨rfl, R5.out.to1 (by omega), O5.out.setCell (a := ⟨b, 1, none⟩) (Or.inr rfl) _⟩
end Go.Proofs.YthjmakjhidjbaaaGreat

/-
 Layer 7, the program's reader: what stands behind a backslash. Condition: the reader lies in memory.
-/
namespace Go.Proofs.YthjmakjhidjbaaaGreat
open Go.ChangeShapes Go.WideShapes Go.ChangeAt Go.RowKit Go.Deep
set_option linter.unusedVariables false
set_option maxHeartbeats 1000000

def hexL : List UInt8 := [48, 49, 50, 51, 52, 53, 54, 55, 56, 57, 97, 98, 99, 100, 101, 102]
/-- A digit's number, or -1. -/
def hexI (c : UInt8) : Int := match hexB c with | some n => n.toNat | none => -1
theorem hex_index (c : UInt8) : Lib.indexByte hexL c = hexI c := by
 refine all_u8 (p := fun c => Lib.indexByte hexL c = hexI c) ?_ c
 decide +kernel
theorem hex_small {c n : UInt8} (h : hexB c = some n) : n.toNat < 16 := by
 have : ((hexB c).all fun n => decide (n.toNat < 16)) = true := by
  refine all_u8 (p := fun c => ((hexB c).all fun n => decide (n.toNat < 16)) = true) ?_ c
  decide +kernel
 rw [h] at this
 simpa using this
theorem back_u8 (c : UInt8) : ((c.toNat : Int)).toNat.toUInt8 = c := by simp
theorem hexP_yes {w : World} {b : Nat} {s : ByteArray} {i f : Nat} {n : UInt8} (h : RD w b s i f) (hi : i < s.size) (hs : s.size ≤ 1000000) (e : hexB s[i] = some n) : Calls Tryz.prog 108 #[.pointer (some ⟨b, 0, none⟩)] w fun r w' => r = .returned (.int .u8 (n.toNat : Int)) ∧ RD w' b s (i + 1) f ∧ OnlyB b w w' := by
 have H := hidden h
 have hn := hex_small e
 have HX := hidden (fun w => Tryz.strings_IndexByte ⟨#[48, 49, 50, 51, 52, 53, 54, 55, 56, 57, 97, 98, 99, 100, 101, 102]⟩ (s[i].toNat : Int) w)
 rw [back_u8] at HX
 have HV : Lib.indexByte (⟨#[48, 49, 50, 51, 52, 53, 54, 55, 56, 57, 97, 98, 99, 100, 101, 102]⟩ : ByteArray).data.toList s[i] = (n.toNat : Int) := by
  have := hex_index s[i]
  unfold hexI at this
  rw [e] at this
  exact this
 rw [HV] at HX
 have z1 : (0 : Int) ≤ (n.toNat : Int) := by omega
 have z2 : (n.toNat : Int) ≤ 15 := by omega
 clear h e HV hn
 go_enter Tryz.func108, Tryz.ntmps108
 go_wp2_with (first
  | (go_at_call 85; refine (next_yes H.out hi hs).mono ?_; rintro e w5 ⟨rfl, hr, ho⟩; have R5 := hidden hr; have O5 := hidden ho; clear hr ho)
  | (go_at_call 121; refine (HX.out _).mono ?_; rintro e w6 ⟨rfl, hw'⟩; rw [hw']; clear hw' w6))
 go_ret
 exact ⟨rfl, R5.out, O5.out⟩
theorem hexP_no {w : World} {b : Nat} {s : ByteArray} {i f : Nat} (h : RD w b s i f) (hi : i ≤ s.size) (hs : s.size ≤ 1000000) (e : ∀ hi : i < s.size, hexB s[i] = none) : Calls Tryz.prog 108 #[.pointer (some ⟨b, 0, none⟩)] w fun r w' => r = .panicked [faultP 20 f] ∧ OnlyB b w w' := by
 have H := hidden h
 by_cases hlt : i < s.size
 ·have HX := hidden (fun w => Tryz.strings_IndexByte ⟨#[48, 49, 50, 51, 52, 53, 54, 55, 56, 57, 97, 98, 99, 100, 101, 102]⟩ (s[i].toNat : Int) w)
  rw [back_u8] at HX
  have HV : Lib.indexByte (⟨#[48, 49, 50, 51, 52, 53, 54, 55, 56, 57, 97, 98, 99, 100, 101, 102]⟩ : ByteArray).data.toList s[i] = -1 := by
   have := hex_index s[i]
   unfold hexI at this
   rw [e hlt] at this
   exact this
  rw [HV] at HX
  clear h e HV
  go_enter Tryz.func108, Tryz.ntmps108
  go_wp2_with (first
   | (go_at_call 85; refine (next_yes H.out hlt hs).mono ?_; rintro e w5 ⟨rfl, hr, ho⟩; have R5 := hidden hr; have O5 := hidden ho; clear hr ho)
   | (go_at_call 121; refine (HX.out _).mono ?_; rintro e w6 ⟨rfl, hw'⟩; rw [hw']; clear hw' w6)
   | (go_at_call 89; refine (giveUp_any 20 R5.out).mono ?_; rintro e w7 ⟨rfl, hw'⟩; rw [hw']; clear hw' w7))
  exact And.intro rfl ⟨rfl, O5.out⟩
 ·have HI : Hid (i = s.size) := by show _ = _; omega
  clear h e
  go_enter Tryz.func108, Tryz.ntmps108
  go_wp2_with (go_at_call 85; refine (next_no H.out HI.out hs).mono ?_; rintro e w5 ⟨rfl, ho⟩; have O5 := hidden ho; clear ho)
  exact And.intro rfl ⟨rfl, O5.out⟩
theorem form_len (s : ByteArray) (i : Nat) {c : UInt8} {r : List UInt8} (h : formB (suf s i) = some (c, r)) : i < s.size := by
 have := formB_len h
 rw [suf_len] at this
 omega
/-- A form of two: a byte that stands for itself or another one. -/
def oneF (c : UInt8) : Option UInt8 := if c = 34 ∨ c = 92 then some c else if c = 110 then some 10 else if c = 116 then some 9 else none
theorem form_one {c : UInt8} {l : List UInt8} (h : c ≠ 120) : formB (c :: l) = (oneF c).map fun d => (d, l) := by
 rw [formB_cons]
 unfold oneF
 by_cases c1 : c = 34 ∨ c = 92
 ·rw [if_pos c1, if_pos c1]; rfl
 ·rw [if_neg c1, if_neg c1]
  by_cases c2 : c = 110
  ·rw [if_pos c2, if_pos c2]; rfl
  ·rw [if_neg c2, if_neg c2]
   by_cases c3 : c = 116
   ·rw [if_pos c3, if_pos c3]; rfl
   ·rw [if_neg c3, if_neg c3, if_neg h]; rfl
theorem or_hex (x y : Nat) (hx : x < 16) (hy : y < 16) : bits BinOp.or IntKind.u8 ((x : Int) * 16) (y : Int) = (x : Int) * 16 + y := by
 have : ∀ a b : Fin 16, bits BinOp.or IntKind.u8 ((a.val : Int) * 16) (b.val : Int) = (a.val : Int) * 16 + b.val := by decide +kernel
 exact this ⟨x, hx⟩ ⟨y, hy⟩
theorem hex_val {x y : UInt8} (hx : x.toNat < 16) (hy : y.toNat < 16) : bits BinOp.or IntKind.u8 ((x.toNat : Int) * 16) (y.toNat : Int) = ((x * 16 + y).toNat : Int) := by
 rw [or_hex _ _ hx hy]
 have h16 : (16 : UInt8).toNat = 16 := rfl
 rw [UInt8.toNat_add, UInt8.toNat_mul, h16]
 omega
theorem ret_u8 {a b : Int} (h : a = b) : Ending.returned (.int .u8 a) = .returned (.int .u8 b) := by rw [h]
theorem form_x {l : List UInt8} : formB (120 :: l) = (match l with | x :: y :: r => (match hexB x, hexB y with | some a, some b => some (a * 16 + b, r) | _, _ => none) | _ => none) := by
 rw [formB_cons, if_neg (by decide), if_neg (by decide), if_neg (by decide), if_pos rfl]
 rcases l with _ | ⟨x, _ | ⟨y, r⟩⟩ <;> rfl
theorem escX_yes {w : World} {b : Nat} {s : ByteArray} {i f : Nat} {x y : UInt8} (h : RD w b s i f) (hs : s.size ≤ 1000000) (hi : i + 2 < s.size) (e : s[i] = 120) (hx : hexB s[i + 1] = some x) (hy : hexB s[i + 2] = some y) : Calls Tryz.prog 91 #[.pointer (some ⟨b, 0, none⟩)] w fun r w' => r = .returned (.int .u8 ((x * 16 + y).toNat : Int)) ∧ RD w' b s (i + 3) f ∧ OnlyB b w w' := by
 have H := hidden h
 have HX := hidden hx
 have HY := hidden hy
 have hx1 := hex_small hx
 have hy1 := hex_small hy
 have HV := hidden (hex_val hx1 hy1)
 have z1 : (0 : Int) ≤ (x.toNat : Int) := by omega
 have z2 : (x.toNat : Int) ≤ 15 := by omega
 have z3 : (0 : Int) ≤ (y.toNat : Int) := by omega
 have z4 : (y.toNat : Int) ≤ 15 := by omega
 clear h hx hy hx1 hy1
 go_enter Tryz.func91, Tryz.ntmps91
 go_wp2_with (first
  | (go_at_call 108; first
   | (refine (hexP_yes R6.out hi hs HY.out).mono ?_; rintro e w7 ⟨rfl, hr, ho⟩; have R7 := hidden hr; have O7 := hidden (O6.out.trans ho); clear hr ho)
   | (refine (hexP_yes R5.out (by omega) hs HX.out).mono ?_; rintro e w6 ⟨rfl, hr, ho⟩; have R6 := hidden hr; have O6 := hidden (O5.out.trans ho); clear hr ho))
  | (go_at_call 85; refine (next_yes H.out (by omega) hs).mono ?_; rw [e]; rintro e w5 ⟨rfl, hr, ho⟩; have R5 := hidden hr; have O5 := hidden ho; clear hr ho))
 go_ret
 exact ⟨ret_u8 HV.out, R7.out, O7.out⟩
theorem escOne_yes {w : World} {b : Nat} {s : ByteArray} {i f : Nat} {c d : UInt8} (h : RD w b s i f) (hs : s.size ≤ 1000000) (hi : i < s.size) (e : s[i] = c) (hd : oneF c = some d) : Calls Tryz.prog 91 #[.pointer (some ⟨b, 0, none⟩)] w fun r w' => r = .returned (.int .u8 (d.toNat : Int)) ∧ RD w' b s (i + 1) f ∧ OnlyB b w w' := by
 have H := hidden h
 unfold oneF at hd
 clear h
 by_cases c1 : c = 34 ∨ c = 92
 ·rw [if_pos c1] at hd
  obtain rfl : c = d := by simpa using hd
  rcases c1 with rfl | rfl
  all_goals
   clear hd
   go_enter Tryz.func91, Tryz.ntmps91
   go_wp2_with (go_at_call 85; refine (next_yes H.out hi hs).mono ?_; rw [e]; rintro e w5 ⟨rfl, hr, ho⟩; have R5 := hidden hr; have O5 := hidden ho; clear hr ho)
   go_ret
   exact ⟨rfl, R5.out, O5.out⟩
 ·rw [if_neg c1] at hd
  by_cases c2 : c = 110
  ·rw [if_pos c2] at hd
   obtain rfl : 10 = d := by simpa using hd
   subst c2
   clear hd c1
   go_enter Tryz.func91, Tryz.ntmps91
   go_wp2_with (go_at_call 85; refine (next_yes H.out hi hs).mono ?_; rw [e]; rintro e w5 ⟨rfl, hr, ho⟩; have R5 := hidden hr; have O5 := hidden ho; clear hr ho)
   go_ret
   exact ⟨rfl, R5.out, O5.out⟩
  ·rw [if_neg c2] at hd
   by_cases c3 : c = 116
   ·rw [if_pos c3] at hd
    obtain rfl : 9 = d := by simpa using hd
    subst c3
    clear hd c1 c2
    go_enter Tryz.func91, Tryz.ntmps91
    go_wp2_with (go_at_call 85; refine (next_yes H.out hi hs).mono ?_; rw [e]; rintro e w5 ⟨rfl, hr, ho⟩; have R5 := hidden hr; have O5 := hidden ho; clear hr ho)
    go_ret
    exact ⟨rfl, R5.out, O5.out⟩
   ·rw [if_neg c3] at hd; cases hd
theorem escaped_yes {w : World} {b : Nat} {s : ByteArray} {i f : Nat} {c : UInt8} {r : List UInt8} (h : RD w b s i f) (hs : s.size ≤ 1000000) (e : formB (suf s i) = some (c, r)) : Calls Tryz.prog 91 #[.pointer (some ⟨b, 0, none⟩)] w fun e w' => e = .returned (.int .u8 (c.toNat : Int)) ∧ RD w' b s (s.size - r.length) f ∧ OnlyB b w w' := by
 have hi := form_len s i e
 rw [suf_cons s hi] at e
 by_cases hx : s[i] = 120
 ·rw [hx, form_x] at e
  have l1 := suf_len s (i + 1)
  cases hl : suf s (i + 1) with
  | nil => rw [hl] at e; cases e
  | cons x l =>
   have h1 : i + 1 < s.size := by rw [hl] at l1; simp at l1; omega
   rw [suf_cons s h1] at hl
   simp only [List.cons.injEq] at hl
   obtain ⟨rfl, rfl⟩ := hl
   rw [suf_cons s h1] at e
   have l2 := suf_len s (i + 1 + 1)
   cases hl : suf s (i + 1 + 1) with
   | nil => rw [hl] at e; cases e
   | cons y l =>
    have h2 : i + 1 + 1 < s.size := by rw [hl] at l2; simp at l2; omega
    rw [suf_cons s h2] at hl
    simp only [List.cons.injEq] at hl
    obtain ⟨rfl, rfl⟩ := hl
    rw [suf_cons s h2] at e
    simp only at e
    cases hx1 : hexB s[i + 1] with
    | none => rw [hx1] at e; cases e
    | some x =>
     cases hy1 : hexB s[i + 1 + 1] with
     | none => rw [hx1, hy1] at e; cases e
     | some y =>
      rw [hx1, hy1] at e
      simp only [Option.some.injEq, Prod.mk.injEq] at e
      obtain ⟨rfl, rfl⟩ := e
      rw [suf_len, show s.size - (s.size - (i + 1 + 1 + 1)) = i + 3 by omega]
      exact escX_yes h hs h2 hx hx1 hy1
 ·rw [form_one hx] at e
  cases hd : oneF s[i] with
  | none => rw [hd] at e; cases e
  | some d =>
   rw [hd] at e
   simp only [Option.map_some, Option.some.injEq, Prod.mk.injEq] at e
   obtain ⟨rfl, rfl⟩ := e
   rw [suf_len, show s.size - (s.size - (i + 1)) = i + 1 by omega]
   exact escOne_yes h hs hi rfl hd
theorem u8_ne {c : UInt8} {n : Nat} (hn : n < 256) (h : c ≠ UInt8.ofNat n) : ((c.toNat : Int) == (n : Int)) = false := by
 rw [← (u8_iff c n hn).2.2]
 exact beq_eq_false_iff_ne.2 h
theorem escOne_no {w : World} {b : Nat} {s : ByteArray} {i f : Nat} {c : UInt8} (h : RD w b s i f) (hs : s.size ≤ 1000000) (hi : i < s.size) (e : s[i] = c) (h3 : c ≠ 120) (hd : oneF c = none) : Calls Tryz.prog 91 #[.pointer (some ⟨b, 0, none⟩)] w fun e w' => e = .panicked [faultP 20 f] ∧ OnlyB b w w' := by
 have H := hidden h
 unfold oneF at hd
 have g1 : ¬ (c = 34 ∨ c = 92) := fun c1 => by rw [if_pos c1] at hd; cases hd
 rw [if_neg g1] at hd
 have g2 : c ≠ 110 := fun c1 => by rw [if_pos c1] at hd; cases hd
 rw [if_neg g2] at hd
 have g3 : c ≠ 116 := fun c1 => by rw [if_pos c1] at hd; cases hd
 have t1 : ((c.toNat : Int) == 34) = false := u8_ne (n := 34) (by decide) (fun c1 => g1 (Or.inl c1))
 have t2 : ((c.toNat : Int) == 92) = false := u8_ne (n := 92) (by decide) (fun c1 => g1 (Or.inr c1))
 have t3 : ((c.toNat : Int) == 110) = false := u8_ne (n := 110) (by decide) g2
 have t4 : ((c.toNat : Int) == 116) = false := u8_ne (n := 116) (by decide) g3
 have t5 : ((c.toNat : Int) == 120) = false := u8_ne (n := 120) (by decide) h3
 clear h hd g1 g2 g3 h3
 go_enter Tryz.func91, Tryz.ntmps91
 go_wp2_with (first
  | (go_at_call 89; refine (giveUp_any 20 R5.out).mono ?_; rintro e w7 ⟨rfl, hw'⟩; rw [hw']; clear hw' w7)
  | (go_at_call 85; refine (next_yes H.out hi hs).mono ?_; rw [e]; rintro e w5 ⟨rfl, hr, ho⟩; have R5 := hidden hr; have O5 := hidden ho; clear hr ho))
 exact And.intro rfl ⟨rfl, O5.out⟩
theorem escEnd_no {w : World} {b : Nat} {s : ByteArray} {i f : Nat} (h : RD w b s i f) (hs : s.size ≤ 1000000) (hi : i = s.size) : Calls Tryz.prog 91 #[.pointer (some ⟨b, 0, none⟩)] w fun e w' => e = .panicked [faultP 20 f] ∧ OnlyB b w w' := by
 have H := hidden h
 have HI := hidden hi
 clear h hi
 go_enter Tryz.func91, Tryz.ntmps91
 go_wp2_with (go_at_call 85; refine (next_no H.out HI.out hs).mono ?_; rintro e w5 ⟨rfl, ho⟩; have O5 := hidden ho; clear ho)
 exact And.intro rfl ⟨rfl, O5.out⟩
theorem escX_no1 {w : World} {b : Nat} {s : ByteArray} {i f : Nat} (h : RD w b s i f) (hs : s.size ≤ 1000000) (hi : i < s.size) (e : s[i] = 120) (hx : ∀ h : i + 1 < s.size, hexB s[i + 1] = none) : Calls Tryz.prog 91 #[.pointer (some ⟨b, 0, none⟩)] w fun e w' => e = .panicked [faultP 20 f] ∧ OnlyB b w w' := by
 have H := hidden h
 have HX := hidden hx
 clear h hx
 go_enter Tryz.func91, Tryz.ntmps91
 go_wp2_with (first
  | (go_at_call 108; refine (hexP_no R5.out (by omega) hs HX.out).mono ?_; rintro e w6 ⟨rfl, ho⟩; have O6 := hidden (O5.out.trans ho); clear ho)
  | (go_at_call 85; refine (next_yes H.out hi hs).mono ?_; rw [e]; rintro e w5 ⟨rfl, hr, ho⟩; have R5 := hidden hr; have O5 := hidden ho; clear hr ho))
 exact And.intro rfl ⟨rfl, O6.out⟩
theorem escX_no2 {w : World} {b : Nat} {s : ByteArray} {i f : Nat} {x : UInt8} (h : RD w b s i f) (hs : s.size ≤ 1000000) (hi : i + 1 < s.size) (e : s[i] = 120) (hx : hexB s[i + 1] = some x) (hy : ∀ h : i + 1 + 1 < s.size, hexB s[i + 1 + 1] = none) : Calls Tryz.prog 91 #[.pointer (some ⟨b, 0, none⟩)] w fun e w' => e = .panicked [faultP 20 f] ∧ OnlyB b w w' := by
 have H := hidden h
 have HX := hidden hx
 have HY := hidden hy
 have hx1 := hex_small hx
 have z1 : (0 : Int) ≤ (x.toNat : Int) := by omega
 have z2 : (x.toNat : Int) ≤ 15 := by omega
 clear h hx hy hx1
 go_enter Tryz.func91, Tryz.ntmps91
 go_wp2_with (first
  | (go_at_call 108; first
   | (refine (hexP_no R6.out (by omega) hs HY.out).mono ?_; rintro e w7 ⟨rfl, ho⟩; have O7 := hidden (O6.out.trans ho); clear ho)
   | (refine (hexP_yes R5.out (by omega) hs HX.out).mono ?_; rintro e w6 ⟨rfl, hr, ho⟩; have R6 := hidden hr; have O6 := hidden (O5.out.trans ho); clear hr ho))
  | (go_at_call 85; refine (next_yes H.out (by omega) hs).mono ?_; rw [e]; rintro e w5 ⟨rfl, hr, ho⟩; have R5 := hidden hr; have O5 := hidden ho; clear hr ho))
 exact And.intro rfl ⟨rfl, O7.out⟩
theorem escaped_no {w : World} {b : Nat} {s : ByteArray} {i f : Nat} (h : RD w b s i f) (hi : i ≤ s.size) (hs : s.size ≤ 1000000) (e : formB (suf s i) = none) : Calls Tryz.prog 91 #[.pointer (some ⟨b, 0, none⟩)] w fun e w' => e = .panicked [faultP 20 f] ∧ OnlyB b w w' := by
 by_cases hlt : i < s.size
 ·rw [suf_cons s hlt] at e
  by_cases hx : s[i] = 120
  ·rw [hx, form_x] at e
   by_cases h1 : i + 1 < s.size
   ·rw [suf_cons s h1] at e
    cases hx1 : hexB s[i + 1] with
    | none => exact escX_no1 h hs hlt hx (fun _ => hx1)
    | some x =>
     refine escX_no2 h hs h1 hx hx1 (fun h2 => ?_)
     rw [suf_cons s h2] at e
     simp only at e
     cases hy1 : hexB s[i + 1 + 1] with
     | none => rfl
     | some y => rw [hx1, hy1] at e; cases e
   ·exact escX_no1 h hs hlt hx (fun c => absurd c h1)
  ·rw [form_one hx] at e
   cases hd : oneF s[i] with
   | none => exact escOne_no h hs hlt rfl hx hd
   | some d => rw [hd] at e; cases e
 ·exact escEnd_no h hs (by omega)
end Go.Proofs.YthjmakjhidjbaaaGreat

/-
 Layer 7, the program's reader: names, comments. Condition: the reader lies in memory.
-/
namespace Go.Proofs.YthjmakjhidjbaaaGreat
open Go.ChangeShapes Go.WideShapes Go.ChangeAt Go.RowKit Go.Deep
set_option linter.unusedVariables false
set_option maxHeartbeats 1000000

theorem ext_suf {s : ByteArray} {i k : Nat} (hik : i ≤ k) (hk : k ≤ s.size) : s.extract i k = ⟨((suf s i).take (k - i)).toArray⟩ := by
 apply ByteArray.ext
 apply Array.toList_inj.1
 rw [ByteArray.data_extract]
 unfold suf
 simp
theorem suf_end {s : ByteArray} {k : Nat} (h : ¬ k < s.size) : suf s k = [] := List.length_eq_zero_iff.1 (by rw [suf_len]; omega)
theorem take_next {s : ByteArray} {i k : Nat} (hik : i ≤ k) (hk : k < s.size) : (suf s i).take (k + 1 - i) = (suf s i).take (k - i) ++ [s[k]] := by
 rw [show k + 1 - i = (k - i) + 1 by omega, List.take_add_one]
 congr 1
 unfold suf
 rw [List.getElem?_drop, show i + (k - i) = k by omega, List.getElem?_eq_getElem (by rw [Array.length_toList]; exact hk)]
 rfl
/-- How far names' bytes go. -/
theorem name_any {w : World} {b : Nat} {s : ByteArray} {i : Nat} (h : RD w b s i i) (hi : i ≤ s.size) (hs : s.size ≤ 1000000) : Calls Tryz.prog 61 #[.pointer (some ⟨b, 0, none⟩)] w fun r w' => r = .returned (.string ⟨((suf s i).takeWhile nameB).toArray⟩) ∧ RD w' b s (s.size - ((suf s i).dropWhile nameB).length) i ∧ OnlyB b w w' := by
 obtain ⟨T, hT⟩ : ∃ T, (suf s i).takeWhile nameB = T := ⟨_, rfl⟩
 obtain ⟨D, hD⟩ : ∃ D, (suf s i).dropWhile nameB = D := ⟨_, rfl⟩
 rw [hT, hD]
 have HT := hidden hT
 have HD := hidden hD
 have H := hidden h
 clear hT hD h
 go_enter Tryz.func61, Tryz.ntmps61
 go_wp2_with fail
 go_loopg [] (s.size + 1 - i) (fun gk wr => ∃ k : Nat, i ≤ k ∧ k ≤ s.size ∧ gk = s.size + 1 - k ∧ (suf s i).take (k - i) ++ (suf s k).takeWhile nameB = T ∧ (suf s k).dropWhile nameB = D ∧ RD wr b s k i ∧ OnlyB b w wr)
 case atStart => exact ⟨i, Nat.le_refl _, hi, rfl, by rw [Nat.sub_self]; exact HT.out, HD.out, H.out, Only.refl _ _⟩
 case round =>
  clear HT HD H
  obtain ⟨k, k1, k2, k3, k4, k5, k6, k7⟩ := hrel
  obtain ⟨c0, c1, c2, hf⟩ := k6.cells
  have HT := hidden k4
  have HD := hidden k5
  have HR := hidden k6
  have HO := hidden k7
  have HG := hidden k3
  clear k3 k4 k5 k6 k7
  by_cases hlt : k < s.size
  ·have z1 : decide ((k : Int) < (s.size : Int)) = true := by simp; omega
   have zz : (k : Int) < (s.size : Int) := by omega
   have e0 := suf_cons s hlt
   cases hn : nameB s[k] with
   | true =>
    have HN := hidden hn
    have HT2 : Hid ((suf s i).take (k + 1 - i) ++ (suf s (k + 1)).takeWhile nameB = T) := by
     show _ = _
     rw [← HT.out, e0, List.takeWhile_cons, hn, take_next k1 hlt]
     simp
    have HD2 : Hid ((suf s (k + 1)).dropWhile nameB = D) := by
     show _ = _
     rw [← HD.out, e0, List.dropWhile_cons, hn]
     simp
    clear hn e0 HT HD
    go_wp2_with fail
    go_quiet ((go_at_call 86; exact Calls.quiet_of_same (isOfName_any _ _ HN.out)))
    go_wp2_with fail
    go_roundg (s.size + 1 - (k + 1))
    case rel => exact ⟨k + 1, by omega, by omega, rfl, HT2.out, HD2.out, (HR.out.drewN _).to1 (by omega), (HO.out.drewN _).setCell (a := ⟨b, 1, none⟩) (Or.inr rfl) _⟩
    case measure => rw [HG.out]; omega
   | false =>
    have HN := hidden hn
    have HT2 : Hid ((suf s i).take (k - i) = T) := by
     show _ = _
     rw [← HT.out, e0, List.takeWhile_cons, hn]
     simp
    have HD2 : Hid (suf s k = D) := by
     show _ = _
     rw [← HD.out, e0, List.dropWhile_cons, hn]
     simp
    have hsl : ∀ w', Sem.run Tryz.prog (Instr.slice 9 (.string s) (some (.int .i64 (i : Int))) (some (.int .i64 (k : Int))) none) w' = .ok (.string ⟨T.toArray⟩) w' := fun w' => by
     rw [run_slice_string w' 9 s .i64 .i64 (i : Int) (k : Int) Tryz.underlying9 (by omega) (by omega) (by omega), ← HT2.out, ← ext_suf k1 k2]
     rfl
    clear hn e0 HT HD
    go_wp2_with fail
    go_quiet ((go_at_call 86; exact Calls.quiet_of_same (isOfName_any _ _ HN.out)))
    go_wp2_with fail
    go_quiet (fail)
    go_wp2_with fail
    go_ret
    refine ⟨rfl, ?_, (HO.out.drewN _).drewN _⟩
    rw [← HD2.out, suf_len, show s.size - (s.size - k) = k by omega]
    exact (HR.out.drewN _).drewN _
  ·have z1 : decide ((k : Int) < (s.size : Int)) = false := by simp; omega
   have zz : ¬ (k : Int) < (s.size : Int) := by omega
   have e0 := suf_end hlt
   have HT2 : Hid ((suf s i).take (k - i) = T) := by
    show _ = _
    rw [← HT.out, e0]
    simp
   have HD2 : Hid (suf s k = D) := by
    show _ = _
    rw [← HD.out, e0]
    simp
   have hsl : ∀ w', Sem.run Tryz.prog (Instr.slice 9 (.string s) (some (.int .i64 (i : Int))) (some (.int .i64 (k : Int))) none) w' = .ok (.string ⟨T.toArray⟩) w' := fun w' => by
    rw [run_slice_string w' 9 s .i64 .i64 (i : Int) (k : Int) Tryz.underlying9 (by omega) (by omega) (by omega), ← HT2.out, ← ext_suf k1 k2]
    rfl
   clear e0 HT HD
   go_wp2_with fail
   go_quiet (fail)
   go_wp2_with fail
   go_quiet (fail)
   go_wp2_with fail
   go_ret
   refine ⟨rfl, ?_, (HO.out.drewN _).drewN _⟩
   rw [← HD2.out, suf_len, show s.size - (s.size - k) = k by omega]
   exact (HR.out.drewN _).drewN _
end Go.Proofs.YthjmakjhidjbaaaGreat

/-
 Layer 7, the document's own lex: texts. Condition: the place is within the source.
-/
namespace Go.Proofs.YthjmakjhidjbaaaGreat
open Go.ChangeShapes Go.WideShapes Go.ChangeAt Go.RowKit Go.Deep
set_option linter.unusedVariables false
set_option maxHeartbeats 2000000

/-- A text that is read, behind bytes that were. -/
def pre (acc : List UInt8) (o : Option (List UInt8 × List UInt8)) : Option (List UInt8 × List UInt8) := o.map fun p => (acc ++ p.1, p.2)
theorem pre_nil (o : Option (List UInt8 × List UInt8)) : pre [] o = o := by cases o <;> rfl
theorem txt_mark (t acc : List UInt8) : pre acc (txtB (34 :: t)) = some (acc, t) := by
 rw [txtB.eq_def]; simp [pre]
theorem txt_one {c : UInt8} (t acc : List UInt8) (h1 : c ≠ 34) (h2 : c ≠ 92) : pre acc (txtB (c :: t)) = pre (acc ++ [c]) (txtB t) := by
 rw [txtB.eq_def (c :: t)]
 simp only [if_neg h1, if_neg h2]
 cases txtB t with
 | none => rfl
 | some p => obtain ⟨x, r⟩ := p; simp [pre]
theorem txt_form {b : UInt8} {t r : List UInt8} (acc : List UInt8) (h : formB t = some (b, r)) : pre acc (txtB (92 :: t)) = pre (acc ++ [b]) (txtB r) := by
 rw [txtB.eq_def (92 :: t)]
 simp only [if_neg (show (92 : UInt8) ≠ 34 by decide), if_true]
 split
 ·rename_i b' r' h'
  rw [h] at h'
  simp only [Option.some.injEq, Prod.mk.injEq] at h'
  obtain ⟨rfl, rfl⟩ := h'
  cases txtB r with
  | none => rfl
  | some p => obtain ⟨x, r⟩ := p; simp [pre]
 ·rename_i h'; rw [h] at h'; cases h'
theorem txt_noform {t : List UInt8} (acc : List UInt8) (h : formB t = none) : pre acc (txtB (92 :: t)) = none := by
 rw [txtB.eq_def (92 :: t)]
 simp only [if_neg (show (92 : UInt8) ≠ 34 by decide), if_true]
 split
 ·rename_i b' r' h'; rw [h] at h'; cases h'
 ·rfl
theorem suf_at {s : ByteArray} {i : Nat} {r : List UInt8} (h : r <:+ suf s i) (hi : i ≤ s.size) : r = suf s (s.size - r.length) ∧ r.length ≤ s.size - i := by
 obtain ⟨t, ht⟩ := h
 have h1 : t.length + r.length = s.size - i := by rw [← suf_len, ← ht, List.length_append]
 refine ⟨?_, by omega⟩
 have : suf s (s.size - r.length) = (suf s i).drop (s.size - r.length - i) := by
  unfold suf
  rw [List.drop_drop]
  congr 1
  omega
 rw [this, ← ht, show s.size - r.length - i = t.length from by omega, List.drop_left]
/-- What text tells. -/
def textR (s : ByteArray) (i : Nat) (o : Option (List UInt8 × List UInt8)) : List UInt8 × Int := match o with | some (x, r) => (x, (s.size : Int) - i - r.length) | none => ([], 0)
end Go.Proofs.YthjmakjhidjbaaaGreat
