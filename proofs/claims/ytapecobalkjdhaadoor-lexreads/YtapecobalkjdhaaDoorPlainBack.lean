/-
  Plain arithmetic of there and back, without any program: a number's decimal numeral is read as that number; a header's word has its tag and size; an address's word its address. No condition but those written in each statement.
-/
import Derived.Lib.ItoaLen
import Derived.Test.YtapecobalkjdhaaDoorPlainParse
namespace Go.Proofs.YtapecobalkjdhaaDoor
open Go.RowKit

theorem pow_le_nDigits (u : Nat) : 1 ≤ u → 10 ^ (Lib.nDigits u - 1) ≤ u := by
  induction u using Nat.strongRecOn with
  | _ u ih =>
    intro h1
    by_cases h : u < 10
    · rw [Lib.nDigits_small h]; simpa using h1
    · have p := Lib.nDigits_pos (u / 10)
      have := ih (u / 10) (by omega) (by omega)
      rw [Lib.nDigits_big h, show Lib.nDigits (u / 10) + 1 - 1 = (Lib.nDigits (u / 10) - 1) + 1 from by omega, Nat.pow_succ]
      omega
/-- From a on a text is the numeral of u. -/
def numeralAt (s : ByteArray) (a u : Nat) : Prop := s.size = a + Lib.nDigits u ∧ ∀ t, t < Lib.nDigits u → bt s (a + t) = 48 + ((u / 10 ^ (Lib.nDigits u - 1 - t) % 10 : Nat) : Int)
theorem numeral_of (pre : List UInt8) (u : Nat) : numeralAt ⟨(pre ++ Lib.decDigits u).toArray⟩ pre.length u := by
  have hl := Lib.decDigits_length u
  have hz : (ByteArray.mk (pre ++ Lib.decDigits u).toArray).size = pre.length + Lib.nDigits u := by
    show (pre ++ Lib.decDigits u).toArray.size = _
    rw [List.size_toArray, List.length_append, hl]
  refine ⟨hz, fun t ht => ?_⟩
  unfold bt
  rw [dif_pos (by omega)]
  have e : (ByteArray.mk (pre ++ Lib.decDigits u).toArray)[pre.length + t]'(by omega) = Lib.dg u (Lib.nDigits u - 1 - t) := by
    show (pre ++ Lib.decDigits u)[pre.length + t]'(by rw [List.length_append]; omega) = _
    rw [List.getElem_append_right (by omega)]
    simp only [Nat.add_sub_cancel_left, Lib.decDigits_eq u, List.getElem_map, List.getElem_range]
  rw [e]
  unfold Lib.dg
  rw [UInt8.toNat_ofNat']
  omega
theorem numeral_all (s : ByteArray) (a u : Nat) (h : numeralAt s a u) : ∀ k, k ≤ Lib.nDigits u → allB s a k = true
  | 0, _ => rfl
  | k + 1, hk => by
    have d := h.2 k (by omega)
    exact allB_step s a k (numeral_all s a u h k (by omega)) (by omega) (by omega)
theorem numeral_val (s : ByteArray) (a u : Nat) (h : numeralAt s a u) : ∀ k, k ≤ Lib.nDigits u → val s a k = ((u / 10 ^ (Lib.nDigits u - k) : Nat) : Int)
  | 0, _ => by
    have := Lib.lt_pow_nDigits u
    rw [val, Nat.sub_zero, Nat.div_eq_of_lt this]; rfl
  | k + 1, hk => by
    have d := h.2 k (by omega)
    have e : u / 10 ^ (Lib.nDigits u - k) = u / 10 ^ (Lib.nDigits u - (k + 1)) / 10 := by
      rw [show Lib.nDigits u - k = (Lib.nDigits u - (k + 1)) + 1 from by omega, Nat.pow_succ, Nat.div_div_eq_div_mul]
    rw [val, numeral_val s a u h k (by omega), d, e, show Lib.nDigits u - 1 - k = Lib.nDigits u - (k + 1) from by omega]
    generalize u / 10 ^ (Lib.nDigits u - (k + 1)) = v
    omega
theorem numeral_whole (s : ByteArray) (a u : Nat) (h : numeralAt s a u) : val s a (s.size - a) = (u : Int) := by
  rw [show s.size - a = Lib.nDigits u from by have := h.1; omega, numeral_val s a u h _ (Nat.le_refl _), Nat.sub_self, Nat.pow_zero, Nat.div_one]
theorem numeral_first (s : ByteArray) (a u : Nat) (h : numeralAt s a u) (h1 : 1 ≤ u) : bt s a ≠ 48 := by
  have p := Lib.nDigits_pos u
  have d := h.2 0 (by omega)
  rw [Nat.add_zero, Nat.sub_zero] at d
  have lo := pow_le_nDigits u h1
  have hi := Lib.lt_pow_nDigits u
  have q : u / 10 ^ (Lib.nDigits u - 1) < 10 := by
    apply Nat.div_lt_of_lt_mul
    rw [← Nat.pow_succ, show (Lib.nDigits u - 1).succ = Lib.nDigits u from by omega]; exact hi
  have r : 1 ≤ u / 10 ^ (Lib.nDigits u - 1) := (Nat.one_le_div_iff (Nat.pow_pos (by omega))).2 lo
  omega
theorem numeral_form (s : ByteArray) (a u : Nat) (h : numeralAt s a u) (g : 1 ≤ u ∨ a = 0) : formAt s a = true := by
  have p := Lib.nDigits_pos u
  have hz := h.1
  have ha : allB s a (s.size - a) = true := numeral_all s a u h _ (by omega)
  unfold formAt
  rw [decide_eq_true (by omega : a < s.size), ha]
  simp only [Bool.true_and, Bool.or_eq_true, decide_eq_true_eq]
  by_cases h1 : 1 ≤ u
  · exact Or.inl (numeral_first s a u h h1)
  · right
    rw [show u = 0 from by omega, Lib.nDigits_small (by omega)] at hz
    omega
theorem back_par (n : Int) (h : -4611686018427387904 ≤ n) (h' : n ≤ 4611686018427387903) : parV ⟨(Lib.itoa n).toArray⟩ = intW n ∧ parE ⟨(Lib.itoa n).toArray⟩ = 0 := by
  by_cases c : n < 0
  · obtain ⟨u, rfl⟩ : ∃ u : Nat, n = -(u : Int) := ⟨n.natAbs, by omega⟩
    rw [Lib.itoa_neg u (by omega)]
    have N := numeral_of [45] u
    change numeralAt ⟨(45 :: Lib.decDigits u).toArray⟩ 1 u at N
    generalize hs : (ByteArray.mk (45 :: Lib.decDigits u).toArray) = s at *
    have p := Lib.nDigits_pos u
    have hm : minusB s = true := by
      refine decide_eq_true ⟨by have := N.1; omega, ?_⟩
      rw [← hs]; unfold bt; rw [dif_pos (by have := N.1; rw [← hs] at this; omega)]; rfl
    have hv := numeral_whole s 1 u N
    have hf := numeral_form s 1 u N (Or.inl (by omega))
    have hb : bigAt s 1 = false := (big_not s 1).2 (by rw [hv]; omega)
    unfold parV parE
    rw [if_pos hm, if_pos hm]
    obtain ⟨e1, e2⟩ := par_ok s 1 hf hb
    rw [e1, e2, hv]
    exact ⟨rfl, rfl⟩
  · obtain ⟨u, rfl⟩ : ∃ u : Nat, n = (u : Int) := ⟨n.toNat, by omega⟩
    rw [Lib.itoa_nonneg]
    have N := numeral_of [] u
    change numeralAt ⟨(Lib.decDigits u).toArray⟩ 0 u at N
    generalize hs : (ByteArray.mk (Lib.decDigits u).toArray) = s at *
    have p := Lib.nDigits_pos u
    have hm : ¬ minusB s = true := by
      have d := N.2 0 (by omega)
      rw [Nat.add_zero] at d
      unfold minusB; rw [decide_eq_true_eq]; omega
    have hv := numeral_whole s 0 u N
    have hf := numeral_form s 0 u N (Or.inr rfl)
    have hb : bigAt s 0 = false := (big_not s 0).2 (by rw [hv]; omega)
    unfold parV parE
    rw [if_neg hm, if_neg hm]
    obtain ⟨e1, e2⟩ := par_ok s 0 hf hb
    rw [e1, e2, hv]
    exact ⟨rfl, rfl⟩
theorem head_is (t s : Int) (h : 0 ≤ t) (h' : t ≤ 255) (g : 0 ≤ s) (g' : s ≤ 2147483647) : headW t s = intW (256 * s + t) := by
  unfold headW; rw [if_neg (by omega)]
theorem head_num (t s : Int) (h : 0 ≤ t) (h' : t ≤ 255) (g : 0 ≤ s) (g' : s ≤ 2147483647) : numW (headW t s) = 256 * s + t := by
  rw [head_is t s h h' g g', num_int, cut_same _ (by omega) (by omega)]
theorem head_isHead (t s : Int) (h : 0 ≤ t) (h' : t ≤ 255) (g : 0 ≤ s) (g' : s ≤ 2147483647) : isHeadW (headW t s) = true := by
  have n := head_num t s h h' g g'
  have o := isInt_int (256 * s + t)
  rw [← head_is t s h h' g g'] at o
  unfold isIntW at o
  unfold isHeadW
  rw [n, o, decide_eq_true (by omega : 0 ≤ 256 * s + t), decide_eq_true (by omega : 256 * s + t ≤ 549755813887)]; rfl
theorem back_tag (t s : Int) (h : 0 ≤ t) (h' : t ≤ 255) (g : 0 ≤ s) (g' : s ≤ 2147483647) : tagW (headW t s) = t := by
  unfold tagW; rw [if_pos (head_isHead t s h h' g g'), head_num t s h h' g g']; omega
theorem back_size (t s : Int) (h : 0 ≤ t) (h' : t ≤ 255) (g : 0 ≤ s) (g' : s ≤ 2147483647) : sizeW (headW t s) = s := by
  unfold sizeW; rw [if_pos (head_isHead t s h h' g g'), head_num t s h h' g g']; omega
theorem back_headInt (t s : Int) (h : 0 ≤ t) (h' : t ≤ 255) (g : 0 ≤ s) (g' : s ≤ 2147483647) : isIntW (headW t s) = true := by
  rw [head_is t s h h' g g']; exact isInt_int _
theorem ptr_is (s : Int) (g : 0 ≤ s) (g' : s ≤ 2147483647) : ptrW s = 2 * s := by unfold ptrW; rw [if_neg (by omega)]
theorem back_ptr (s : Int) (g : 0 ≤ s) (g' : s ≤ 2147483647) : addrW (ptrW s) = s := by
  rw [ptr_is s g g']; unfold addrW; rw [if_neg (by omega)]; omega
theorem back_ptrInt (s : Int) (g : 0 ≤ s) (g' : s ≤ 2147483647) : isIntW (ptrW s) = false := by
  rw [ptr_is s g g']; unfold isIntW; rw [beq_eq_false_iff_ne]; omega
theorem headW_lo (t s : Int) : 0 ≤ headW t s := by unfold headW; split; omega; exact intW_lo _
theorem headW_hi (t s : Int) : headW t s ≤ 18446744073709551615 := by unfold headW; split; omega; exact intW_hi _
theorem ptrW_lo (a : Int) : 0 ≤ ptrW a := by unfold ptrW; split <;> omega
theorem ptrW_hi (a : Int) : ptrW a ≤ 18446744073709551615 := by unfold ptrW; split <;> omega
/-- The text of a word's number. -/
def textOf (x : Int) : ByteArray := ⟨(Lib.itoa (numW x)).toArray⟩
theorem text_size (x : Int) (h : 0 ≤ x) (h' : x ≤ 18446744073709551615) : (textOf x).size ≤ 21 :=
  Lib.itoa_length_le (numW x) (by have := numW_lo x h; omega) (by have := numW_hi x h'; omega)
theorem text_par (n : Int) : parV (textOf (intW n)) = intW n ∧ parE (textOf (intW n)) = 0 := by
  have h := back_par (numW (intW n)) (numW_lo _ (intW_lo n)) (numW_hi _ (intW_hi n))
  unfold textOf
  rw [h.1, h.2, num_int, intW_cut]
  exact ⟨rfl, rfl⟩
theorem back_num (n : Int) : intW (numW (intW n)) = intW n := by rw [num_int, intW_cut]
end Go.Proofs.YtapecobalkjdhaaDoor
