/-
  Plain arithmetic of a text that is a number's digits, without any program: its value digit by digit, when it is well formed, when it is too great. No condition but those written in each statement.
-/
import Derived.Lib.Strings
import Derived.Lib.IndexBytes
import Derived.Test.YtapecobalkjdhaaDoorPlainDo
namespace Go.Proofs.YtapecobalkjdhaaDoor
open Go.RowKit

/-- The number that byte k of a text is; 0 where there is none. -/
def bt (s : ByteArray) (k : Nat) : Int := if h : k < s.size then ((s[k]'h).toNat : Int) else 0
theorem get_bt (s : ByteArray) : ∀ (n : Nat) (h : n < s.size), ((s[n]'h).toNat : Int) = bt s n := fun n h => by unfold bt; rw [dif_pos h]
theorem bt_lo (s : ByteArray) (k : Nat) : 0 ≤ bt s k := by unfold bt; split <;> omega
theorem bt_hi (s : ByteArray) (k : Nat) : bt s k ≤ 255 := by
  unfold bt; split
  · have := (s[k]).toNat_lt; omega
  · omega
/-- The value of the k bytes from a on, as digits. -/
def val (s : ByteArray) (a : Nat) : Nat → Int
  | 0 => 0
  | k + 1 => val s a k * 10 + (bt s (a + k) - 48)
/-- Are the k bytes from a on digits? -/
def allB (s : ByteArray) (a : Nat) : Nat → Bool
  | 0 => true
  | k + 1 => allB s a k && decide (48 ≤ bt s (a + k) ∧ bt s (a + k) ≤ 57)
/-- Does a minus stand ahead? -/
def minusB (s : ByteArray) : Bool := decide (1 ≤ s.size ∧ bt s 0 = 45)
/-- Are the bytes from a on digits of a number, no nought ahead but of 0 itself, without a minus? -/
def formAt (s : ByteArray) (a : Nat) : Bool := decide (a < s.size) && (allB s a (s.size - a) && (decide (bt s a ≠ 48) || decide (s.size = 1)))
/-- Has it more than 63 bits? -/
def bigAt (s : ByteArray) (a : Nat) : Bool := decide (4611686018427387904 < val s a (s.size - a)) || (decide (val s a (s.size - a) = 4611686018427387904) && decide (a = 0))
def parEAt (s : ByteArray) (a : Nat) : Int := if formAt s a = true then (if bigAt s a = true then 2 else 0) else 5
def parVAt (s : ByteArray) (a : Nat) : Int := if formAt s a = true ∧ bigAt s a = false then intW (if a = 0 then val s a (s.size - a) else -val s a (s.size - a)) else 0
/-- The word that a text is, and what is wrong. -/
def parV (s : ByteArray) : Int := if minusB s = true then parVAt s 1 else parVAt s 0
def parE (s : ByteArray) : Int := if minusB s = true then parEAt s 1 else parEAt s 0

theorem allB_at (s : ByteArray) (a : Nat) : ∀ n : Nat, allB s a n = true → ∀ k, k < n → 48 ≤ bt s (a + k) ∧ bt s (a + k) ≤ 57
  | 0, _, k, hk => by omega
  | n + 1, h, k, hk => by
    rw [allB, Bool.and_eq_true, decide_eq_true_eq] at h
    by_cases e : k = n
    · subst e; exact h.2
    · exact allB_at s a n h.1 k (by omega)
theorem allB_step (s : ByteArray) (a k : Nat) (h : allB s a k = true) (h1 : 48 ≤ bt s (a + k)) (h2 : bt s (a + k) ≤ 57) : allB s a (k + 1) = true := by
  rw [allB, h, decide_eq_true ⟨h1, h2⟩]; rfl
theorem allB_bad (s : ByteArray) (a k n : Nat) (hk : k < n) (h : ¬ (48 ≤ bt s (a + k) ∧ bt s (a + k) ≤ 57)) : allB s a n = false := by
  cases e : allB s a n
  · rfl
  · exact absurd (allB_at s a n e k hk) h
theorem allB_le (s : ByteArray) (a n : Nat) (h : allB s a n = true) (k : Nat) (hk : k ≤ n) : allB s a k = true := by
  induction k with
  | zero => rfl
  | succ k ih => exact allB_step s a k (ih (by omega)) (allB_at s a n h k (by omega)).1 (allB_at s a n h k (by omega)).2
theorem val_nonneg (s : ByteArray) (a : Nat) : ∀ n : Nat, allB s a n = true → 0 ≤ val s a n
  | 0, _ => by simp [val]
  | n + 1, h => by
    have h1 := allB_at s a (n + 1) h n (by omega)
    have h2 := val_nonneg s a n (allB_le s a (n + 1) h n (by omega))
    rw [val]; omega
theorem val_mono (s : ByteArray) (a n : Nat) (h : allB s a n = true) : ∀ d k : Nat, k + d ≤ n → val s a k ≤ val s a (k + d)
  | 0, k, _ => by simp
  | d + 1, k, hk => by
    have h1 := allB_at s a n h (k + d) (by omega)
    have h2 := val_nonneg s a (k + d) (allB_le s a n h _ (by omega))
    have h3 := val_mono s a n h d k (by omega)
    rw [show k + (d + 1) = (k + d) + 1 from by omega, val]; omega
theorem val_up (s : ByteArray) (a n k : Nat) (h : allB s a n = true) (hk : k ≤ n) : val s a k ≤ val s a n := by
  have := val_mono s a n h (n - k) k (by omega)
  rwa [show k + (n - k) = n from by omega] at this
theorem val_pow (s : ByteArray) (a : Nat) : ∀ n : Nat, allB s a n = true → val s a n ≤ 10 ^ n - 1
  | 0, _ => by simp [val]
  | n + 1, h => by
    have h1 := allB_at s a (n + 1) h n (by omega)
    have h2 := val_pow s a n (allB_le s a (n + 1) h n (by omega))
    rw [val, Int.pow_succ]; omega
theorem val_far (s : ByteArray) (a n : Nat) (h : allB s a n = true) (h0 : bt s a ≠ 48) (hn : 20 ≤ n) : 4611686018427387904 < val s a n := by
  have h1 := allB_at s a n h 0 (by omega)
  have up := val_up s a n 20 h hn
  have step : ∀ k, k < n → val s a (k + 1) = val s a k * 10 + (bt s (a + k) - 48) := fun k _ => rfl
  have low : ∀ k, k < n → val s a k * 10 ≤ val s a (k + 1) := fun k hk => by
    have := allB_at s a n h k hk
    rw [step k hk]; omega
  have l0 : 1 ≤ val s a 1 := by
    rw [step 0 (by omega)]; simp only [Nat.add_zero] at *; simp only [val]; omega
  have l1 := low 1 (by omega)
  have l2 := low 2 (by omega)
  have l3 := low 3 (by omega)
  have l4 := low 4 (by omega)
  have l5 := low 5 (by omega)
  have l6 := low 6 (by omega)
  have l7 := low 7 (by omega)
  have l8 := low 8 (by omega)
  have l9 := low 9 (by omega)
  have l10 := low 10 (by omega)
  have l11 := low 11 (by omega)
  have l12 := low 12 (by omega)
  have l13 := low 13 (by omega)
  have l14 := low 14 (by omega)
  have l15 := low 15 (by omega)
  have l16 := low 16 (by omega)
  have l17 := low 17 (by omega)
  have l18 := low 18 (by omega)
  have l19 := low 19 (by omega)
  simp only [Nat.reduceAdd] at l1 l2 l3 l4 l5 l6 l7 l8 l9 l10 l11 l12 l13 l14 l15 l16 l17 l18 l19
  omega
theorem bt_tail (s : ByteArray) (k : Nat) : bt (s.extract 1 s.size) k = bt s (1 + k) := by
  unfold bt
  have hz : (s.extract 1 s.size).size = s.size - 1 := by rw [ByteArray.size_extract]; omega
  by_cases h : 1 + k < s.size
  · rw [dif_pos (by omega), dif_pos h, ByteArray.getElem_extract]
  · rw [dif_neg (by omega), dif_neg h]
theorem val_tail (s : ByteArray) : ∀ n : Nat, val (s.extract 1 s.size) 0 n = val s 1 n
  | 0 => rfl
  | n + 1 => by rw [val, val, val_tail s n, bt_tail, Nat.zero_add]
theorem allB_tail (s : ByteArray) : ∀ n : Nat, allB (s.extract 1 s.size) 0 n = allB s 1 n
  | 0 => rfl
  | n + 1 => by rw [allB, allB, allB_tail s n, bt_tail, Nat.zero_add]
theorem size_tail (s : ByteArray) : (s.extract 1 s.size).size = s.size - 1 := by rw [ByteArray.size_extract]; omega
theorem byte_is (c : UInt8) (n : Nat) (hn : n < 256) : c = UInt8.ofNat n ↔ (c.toNat : Int) = (n : Int) := by
  rw [← UInt8.toNat_inj, UInt8.toNat_ofNat_of_lt' (by simpa [UInt8.size] using hn)]; omega
theorem first_is (s : ByteArray) (h : 1 ≤ s.size) : ((s.extract 0 1).toList == [45]) = minusB s := by
  rw [Lib.toList_data, Lib.extract_data]
  obtain ⟨⟨l⟩⟩ := s
  cases l with
  | nil => simp [ByteArray.size] at h
  | cons c t =>
    have e : bt ⟨(c :: t).toArray⟩ 0 = (c.toNat : Int) := by
      unfold bt; rw [dif_pos (by simp [ByteArray.size])]; rfl
    have f : ((List.drop 0 (c :: t)).take (1 - 0)) = [c] := rfl
    have g := byte_is c 45 (by omega)
    unfold minusB
    rw [e, f, Bool.eq_iff_iff, beq_iff_eq, decide_eq_true_eq, List.cons.injEq]
    constructor
    · intro q; exact ⟨h, g.1 q.1⟩
    · intro q; exact ⟨g.2 q.2, rfl⟩
theorem nought_is (s : ByteArray) : (s.toList == [48]) = decide (s.size = 1 ∧ bt s 0 = 48) := by
  rw [Lib.toList_data]
  obtain ⟨⟨l⟩⟩ := s
  rw [Bool.eq_iff_iff, beq_iff_eq, decide_eq_true_eq]
  cases l with
  | nil => simp [ByteArray.size]
  | cons c t =>
    have e : bt ⟨(c :: t).toArray⟩ 0 = (c.toNat : Int) := by
      unfold bt; rw [dif_pos (by simp [ByteArray.size])]; rfl
    have g := byte_is c 48 (by omega)
    have z : (ByteArray.mk (c :: t).toArray).size = t.length + 1 := rfl
    rw [e, z]
    constructor
    · intro q
      obtain ⟨q1, q2⟩ := List.cons.inj q
      exact ⟨by rw [q2]; rfl, g.1 q1⟩
    · intro q
      have : t = [] := List.eq_nil_of_length_eq_zero (by omega)
      show c :: t = [48]
      rw [this, g.2 q.2]; rfl
theorem toList_none (s : ByteArray) (h : s.size = 0) : s.toList = [] := by
  rw [Lib.toList_data]; exact List.eq_nil_of_length_eq_zero h
theorem toList_some (s : ByteArray) (h : ¬ s.size = 0) : ¬ s.toList = [] := by
  rw [Lib.toList_data]; intro e; exact h (congrArg List.length e)
theorem val_small (s : ByteArray) (a k : Nat) (hk : k ≤ 18) (h : allB s a k = true) : val s a k ≤ 999999999999999999 := by
  have h1 := val_pow s a k h
  have h2 : (10 : Int) ^ k ≤ 10 ^ 18 := by
    have : (10 : Nat) ^ k ≤ 10 ^ 18 := Nat.pow_le_pow_right (by omega) hk
    exact_mod_cast this
  omega
/-- Digits of a number above 0? -/
def cntB (d : ByteArray) : Bool := allB d 0 d.size && (decide (0 < d.size) && decide (bt d 0 ≠ 48))
theorem cnt_tail (s : ByteArray) : formAt s 1 = cntB (s.extract 1 s.size) := by
  unfold formAt cntB
  rw [size_tail, allB_tail, bt_tail]
  by_cases h : 1 < s.size
  · rw [decide_eq_true h, decide_eq_true (by omega : 0 < s.size - 1), decide_eq_false (by omega : ¬ s.size = 1)]
    simp only [Bool.true_and, Bool.or_false, Nat.add_zero]
  · rw [decide_eq_false h, decide_eq_false (by omega : ¬ 0 < s.size - 1)]; simp
theorem cnt_whole (s : ByteArray) (h : ¬ (s.size = 1 ∧ bt s 0 = 48)) : formAt s 0 = cntB s := by
  unfold formAt cntB
  rw [Nat.sub_zero]
  by_cases q : s.size = 1
  · rw [decide_eq_true (by omega : bt s 0 ≠ 48), decide_eq_true (by omega : 0 < s.size)]; simp
  · rw [decide_eq_false q]
    cases allB s 0 s.size <;> cases decide (0 < s.size) <;> simp
theorem cnt_all (d : ByteArray) (h : cntB d = true) : allB d 0 d.size = true ∧ bt d 0 ≠ 48 := by
  unfold cntB at h
  simp only [Bool.and_eq_true, decide_eq_true_eq] at h
  exact ⟨h.1, h.2.2⟩
/-- Of the digits d of a text, a minus ahead or not: what it is, what is wrong. -/
def outV (d : ByteArray) (m : Bool) : Int := if cntB d = true ∧ ¬ (4611686018427387904 < val d 0 d.size ∨ (val d 0 d.size = 4611686018427387904 ∧ m = false)) then intW (if m = true then -val d 0 d.size else val d 0 d.size) else 0
def outE (d : ByteArray) (m : Bool) : Int := if cntB d = true then (if 4611686018427387904 < val d 0 d.size ∨ (val d 0 d.size = 4611686018427387904 ∧ m = false) then 2 else 0) else 5
theorem big_iff (s : ByteArray) (a : Nat) : bigAt s a = true ↔ (4611686018427387904 < val s a (s.size - a) ∨ (val s a (s.size - a) = 4611686018427387904 ∧ a = 0)) := by
  unfold bigAt; simp
theorem big_not (s : ByteArray) (a : Nat) : bigAt s a = false ↔ ¬ (4611686018427387904 < val s a (s.size - a) ∨ (val s a (s.size - a) = 4611686018427387904 ∧ a = 0)) := by
  rw [← big_iff]; simp
theorem out_tail (s : ByteArray) (hm : minusB s = true) : parV s = outV (s.extract 1 s.size) true ∧ parE s = outE (s.extract 1 s.size) true := by
  have e1 : (bigAt s 1 = true) = (4611686018427387904 < val s 1 (s.size - 1) ∨ (val s 1 (s.size - 1) = 4611686018427387904 ∧ true = false)) := by
    rw [big_iff]; simp
  have e2 : (bigAt s 1 = false) = ¬ (4611686018427387904 < val s 1 (s.size - 1) ∨ (val s 1 (s.size - 1) = 4611686018427387904 ∧ true = false)) := by
    rw [big_not]; simp
  unfold parV parE outV outE
  rw [if_pos hm, if_pos hm]
  unfold parVAt parEAt
  rw [size_tail, val_tail, cnt_tail]
  simp only [e1, e2]
  exact ⟨by simp, trivial⟩
theorem out_whole (s : ByteArray) (hm : minusB s = false) (h : ¬ (s.size = 1 ∧ bt s 0 = 48)) : parV s = outV s false ∧ parE s = outE s false := by
  have e1 : (bigAt s 0 = true) = (4611686018427387904 < val s 0 s.size ∨ (val s 0 s.size = 4611686018427387904 ∧ false = false)) := by
    rw [big_iff]; simp
  have e2 : (bigAt s 0 = false) = ¬ (4611686018427387904 < val s 0 s.size ∨ (val s 0 s.size = 4611686018427387904 ∧ false = false)) := by
    rw [big_not]; simp
  have hm' : ¬ minusB s = true := by rw [hm]; simp
  unfold parV parE outV outE
  rw [if_neg hm', if_neg hm']
  unfold parVAt parEAt
  rw [cnt_whole s h, Nat.sub_zero]
  simp only [e1, e2]
  exact ⟨by simp, trivial⟩
theorem out_nought (s : ByteArray) (h : s.size = 1) (h' : bt s 0 = 48) : parV s = intW 0 ∧ parE s = 0 := by
  have hm : ¬ minusB s = true := by unfold minusB; simp; omega
  have hv : val s 0 1 = 0 := by simp [val, h']
  have ha : allB s 0 1 = true := by simp [allB, h']
  have hf : formAt s 0 = true := by unfold formAt; simp [h, ha]
  have hb : bigAt s 0 = false := by unfold bigAt; simp [h, hv]
  unfold parV parE
  rw [if_neg hm, if_neg hm]
  unfold parVAt parEAt
  rw [hf, hb, h]
  simp [hv]
/-- Digits, and their value, from a up to j. -/
def allJ (s : ByteArray) (a j : Nat) : Bool := allB s a (j - a)
def valJ (s : ByteArray) (a j : Nat) : Int := val s a (j - a)
theorem allJ_start (s : ByteArray) (a : Nat) : allJ s a a = true := by unfold allJ; rw [Nat.sub_self]; rfl
theorem valJ_start (s : ByteArray) (a : Nat) : valJ s a a = 0 := by unfold valJ; rw [Nat.sub_self]; rfl
theorem allJ_step (s : ByteArray) (a j : Nat) (hj : a ≤ j) (h : allJ s a j = true) (h1 : 48 ≤ bt s j) (h2 : bt s j ≤ 57) : allJ s a (j + 1) = true := by
  unfold allJ at *
  rw [show j + 1 - a = (j - a) + 1 from by omega]
  exact allB_step s a _ h (by rw [show a + (j - a) = j from by omega]; exact h1) (by rw [show a + (j - a) = j from by omega]; exact h2)
theorem allJ_at (s : ByteArray) (a n : Nat) (h : allJ s a n = true) (j : Nat) (hj : a ≤ j) (hn : j < n) : 48 ≤ bt s j ∧ bt s j ≤ 57 := by
  have := allB_at s a _ h (j - a) (by omega)
  rwa [show a + (j - a) = j from by omega] at this
theorem allJ_bad (s : ByteArray) (a n j : Nat) (hj : a ≤ j) (hn : j < n) (h : ¬ (48 ≤ bt s j ∧ bt s j ≤ 57)) : allB s a (n - a) = false := by
  cases e : allB s a (n - a)
  · rfl
  · exact absurd (allJ_at s a n e j hj hn) h
theorem valJ_step (s : ByteArray) (a j : Nat) (hj : a ≤ j) : valJ s a (j + 1) = valJ s a j * 10 + (bt s j - 48) := by
  unfold valJ
  rw [show j + 1 - a = (j - a) + 1 from by omega, val, show a + (j - a) = j from by omega]
theorem valJ_nonneg (s : ByteArray) (a j n : Nat) (h : allJ s a n = true) (hj : j ≤ n) : 0 ≤ valJ s a j :=
  val_nonneg s a _ (allB_le s a _ h _ (by omega))
theorem valJ_up (s : ByteArray) (a j n : Nat) (h : allJ s a n = true) (hj : j ≤ n) : valJ s a j ≤ valJ s a n :=
  val_up s a _ _ h (by omega)
theorem far_q (d : Int) (h : d ≤ 9) : (-4611686018427387904 + d).tdiv 10 = -((4611686018427387904 - d) / 10) := by
  rw [show -4611686018427387904 + d = -(4611686018427387904 - d) from by omega, Int.neg_tdiv, Int.tdiv_eq_ediv_of_nonneg (by omega)]
theorem far_yes (v d : Int) (h : d ≤ 9) (hf : 4611686018427387904 < v * 10 + d) : -v < (-4611686018427387904 + d).tdiv 10 := by
  rw [far_q d h]; omega
theorem far_no (v d : Int) (h : d ≤ 9) (hf : ¬ 4611686018427387904 < v * 10 + d) : ¬ -v < (-4611686018427387904 + d).tdiv 10 := by
  rw [far_q d h]; omega
theorem par_form (s : ByteArray) (a : Nat) (h : formAt s a = false) : parVAt s a = 0 ∧ parEAt s a = 5 := by
  unfold parVAt parEAt; rw [h]; simp
theorem par_big (s : ByteArray) (a : Nat) (h : formAt s a = true) (g : bigAt s a = true) : parVAt s a = 0 ∧ parEAt s a = 2 := by
  unfold parVAt parEAt; rw [h, g]; simp
theorem par_ok (s : ByteArray) (a : Nat) (h : formAt s a = true) (g : bigAt s a = false) : parVAt s a = intW (if a = 0 then val s a (s.size - a) else -val s a (s.size - a)) ∧ parEAt s a = 0 := by
  unfold parVAt parEAt; rw [h, g]; simp
theorem form_bad (s : ByteArray) (a j : Nat) (hj : a ≤ j) (hn : j < s.size) (h : ¬ (48 ≤ bt s j ∧ bt s j ≤ 57)) : formAt s a = false := by
  unfold formAt; rw [allJ_bad s a s.size j hj hn h]; simp
theorem form_ok (s : ByteArray) (a : Nat) (ha : a < s.size) (h : allJ s a s.size = true) (g : bt s a ≠ 48 ∨ s.size = 1) : formAt s a = true := by
  unfold formAt; unfold allJ at h
  rw [h, decide_eq_true ha]
  simp only [Bool.true_and, Bool.or_eq_true, decide_eq_true_eq]
  exact g
end Go.Proofs.YtapecobalkjdhaaDoor
