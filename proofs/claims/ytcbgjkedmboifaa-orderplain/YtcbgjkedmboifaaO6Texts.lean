/-
  Layer 6: the document's own order of numbers and of texts. No condition but that the texts are not too long.
-/
import Derived.Test.YtcbgjkedmboifaaO6Nd
namespace Go.Proofs.Ytcbgjkedmboifaa
open Go.ChangeShapes Go.WideShapes Go.ChangeAt Go.RowKit Go.Deep
set_option linter.unusedVariables false
set_option maxHeartbeats 1000000

theorem rless_any (n m : Int) (w : World) : Calls Try.prog 28 #[.int .i64 n, .int .i64 m] w fun e w' => e = .returned (.int .i64 (sgn n m)) ∧ w' = w := by
  unfold sgn
  by_cases h1 : n < m
  · rw [if_pos h1]
    go_enter Try.func28, Try.ntmps28
    go_wp2
    all_goals go_ret
    all_goals exact ⟨rfl, rfl⟩
  · by_cases h2 : m < n
    · rw [if_neg h1, if_pos h2]
      go_enter Try.func28, Try.ntmps28
      go_wp2
      all_goals go_ret
      all_goals exact ⟨rfl, rfl⟩
    · rw [if_neg h1, if_neg h2]
      go_enter Try.func28, Try.ntmps28
      go_wp2
      all_goals go_ret
      all_goals exact ⟨rfl, rfl⟩
theorem sgnL_drop : ∀ (k : Nat) (l m : List Int), l.take k = m.take k → k ≤ l.length → k ≤ m.length → sgnL l m = sgnL (l.drop k) (m.drop k)
  | 0, _, _, _, _, _ => by simp
  | k + 1, [], _, _, h, _ => absurd h (by simp)
  | k + 1, _ :: _, [], _, _, h => absurd h (by simp)
  | k + 1, a :: l, b :: m, h, h1, h2 => by
    simp only [List.take_succ_cons, List.cons.injEq] at h
    obtain ⟨rfl, h⟩ := h
    show (if a < a then _ else if a < a then _ else sgnL l m) = sgnL (l.drop k) (m.drop k)
    rw [if_neg (by omega), if_neg (by omega)]
    exact sgnL_drop k l m h (by simpa using h1) (by simpa using h2)
theorem sgnL_end {k : Nat} {l m : List Int} (h : l.take k = m.take k) (h1 : k ≤ l.length) (h2 : k ≤ m.length) (e : k = l.length ∨ k = m.length) : sgnL l m = sgn l.length m.length := by
  rw [sgnL_drop k l m h h1 h2]
  unfold sgn
  rcases e with e | e
  · rw [e, List.drop_length]
    by_cases c : l.length < m.length
    · rw [if_pos (by omega), List.drop_eq_getElem_cons c]; rfl
    · rw [if_neg (by omega), if_neg (by omega), List.drop_of_length_le (by omega)]; rfl
  · rw [e, List.drop_length]
    by_cases c : m.length < l.length
    · rw [if_neg (by omega), if_pos (by omega), List.drop_eq_getElem_cons c]; rfl
    · rw [if_neg (by omega), if_neg (by omega), List.drop_of_length_le (by omega)]; rfl
theorem sgnL_at {k : Nat} {l m : List Int} (h : l.take k = m.take k) (h1 : k < l.length) (h2 : k < m.length) (e : l[k] ≠ m[k]) : sgnL l m = sgn l[k] m[k] := by
  rw [sgnL_drop k l m h (by omega) (by omega), List.drop_eq_getElem_cons h1, List.drop_eq_getElem_cons h2]
  unfold sgnL sgn
  by_cases c : l[k] < m[k]
  · rw [if_pos c, if_pos c]
  · rw [if_neg c, if_neg c, if_pos (by omega), if_pos (by omega)]
/-- A text's bytes as numbers. -/
def intsS (s : ByteArray) : List Int := bytesI (bytesS s)
theorem intsS_len (s : ByteArray) : (intsS s).length = s.size := by unfold intsS bytesI; rw [List.length_map, bytesS_len]
theorem intsS_at (s : ByteArray) {k : Nat} (h : k < s.size) : (intsS s)[k]? = some ((s[k]).toNat : Int) := by
  unfold intsS bytesI bytesS
  rw [List.getElem?_map, List.getElem?_eq_getElem (by rw [Array.length_toList]; exact h)]
  rfl
theorem texts_step {s t : ByteArray} {k : Nat} (h : (intsS s).take k = (intsS t).take k) (h1 : k < s.size) (h2 : k < t.size) : ((s[k]).toNat = (t[k]).toNat → (intsS s).take (k + 1) = (intsS t).take (k + 1)) ∧ ((s[k]).toNat ≠ (t[k]).toNat → sgnL (intsS s) (intsS t) = sgn ((s[k]).toNat : Int) ((t[k]).toNat : Int)) := by
  have hi1 := intsS_at s h1
  have hi2 := intsS_at t h2
  have g1 : k < (intsS s).length := by rw [intsS_len]; exact h1
  have g2 : k < (intsS t).length := by rw [intsS_len]; exact h2
  refine ⟨fun e => ?_, fun e => ?_⟩
  · rw [List.take_add_one, List.take_add_one, h, hi1, hi2, e]
  · rw [List.getElem?_eq_getElem g1] at hi1
    rw [List.getElem?_eq_getElem g2] at hi2
    have q1 := Option.some.inj hi1
    have q2 := Option.some.inj hi2
    rw [sgnL_at h g1 g2 (by rw [q1, q2]; omega), q1, q2]
set_option maxRecDepth 20000 in
theorem rtexts_any (s t : ByteArray) (w : World) (hs : s.size ≤ 1000000) (ht : t.size ≤ 1000000) :
    Calls Try.prog 31 #[.string s, .string t] w fun e w' => e = .returned (.int .i64 (sgnL (intsS s) (intsS t))) ∧ ∃ m, w' = w.drewN m := by
  go_enter Try.func31, Try.ntmps31
  go_wp2
  go_loopw [5] (fun i wr => ∃ k m : Nat, k ≤ s.size ∧ k ≤ t.size ∧ i = .int .i64 k ∧ (intsS s).take k = (intsS t).take k ∧ wr = w.drewN m) (fun i _ => (s.size - intOf i).toNat)
  case atStart => exact ⟨0, 0, Nat.zero_le _, Nat.zero_le _, rfl, rfl, rfl⟩
  case round =>
    obtain ⟨k, m, hk1, hk2, rfl, hall, hw⟩ := hrel
    have HA := hidden hall
    have HW := hidden hw
    by_cases h1 : k < s.size
    · have x1 : (k : Int) < (s.size : Int) := by omega
      by_cases h2 : k < t.size
      · have x2 : (k : Int) < (t.size : Int) := by omega
        obtain ⟨st1, st2⟩ := texts_step hall h1 h2
        have ST1 := hidden st1
        have ST2 := hidden st2
        clear hall hw st1 st2
        by_cases hc : (s[k]).toNat = (t[k]).toNat
        · have hcb : (((s[k]).toNat : Int) != ((t[k]).toNat : Int)) = false := by simp [hc]
          have HC := hidden hc
          clear hc
          go_wp2
          go_quiet (fail)
          go_wp2
          go_roundw
          case rel => exact ⟨k + 1, _, by omega, by omega, by go_num, ST1.out HC.out, by rw [HW.out, World.drewN_drewN]⟩
          case measure => simp [intOf]; omega
        · have hcb : (((s[k]).toNat : Int) != ((t[k]).toNat : Int)) = true := by simp; omega
          have HC := hidden (ST2.out hc)
          have b1 : ((s[k]).toNat : Int) < 256 := by have := u8_lt (s[k]); omega
          have b2 : ((t[k]).toNat : Int) < 256 := by have := u8_lt (t[k]); omega
          clear hc
          go_wp2
          go_quiet (fail)
          go_wp2
          generalize hq : World.drewN wr _ = w2
          have HQ := hidden hq
          clear hq
          go_quiet ((go_at_call 28; exact Calls.quiet_of_same (rless_any _ _ _)))
          go_wp2
          go_ret
          exact ⟨ret_int HC.out.symm, _, by rw [← HQ.out, HW.out, World.drewN_drewN, World.drewN_drewN]⟩
      · have HC : Hid (sgnL (intsS s) (intsS t) = sgn s.size t.size) := by have := sgnL_end hall (by rw [intsS_len]; omega) (by rw [intsS_len]; omega) (Or.inr (by rw [intsS_len]; omega)); rw [intsS_len, intsS_len] at this; exact this
        have x2 : ¬ (k : Int) < (t.size : Int) := by omega
        clear hall hw
        go_wp2_with (go_at_call 28; refine (rless_any _ _ _).mono ?_; rintro e w' ⟨rfl, hw'⟩; rw [hw']; clear hw' w')
        go_ret
        exact ⟨ret_int HC.out.symm, m, HW.out⟩
    · have HC : Hid (sgnL (intsS s) (intsS t) = sgn s.size t.size) := by have := sgnL_end hall (by rw [intsS_len]; omega) (by rw [intsS_len]; omega) (Or.inl (by rw [intsS_len]; omega)); rw [intsS_len, intsS_len] at this; exact this
      have x2 : ¬ (k : Int) < (s.size : Int) := by omega
      clear hall hw
      go_wp2_with (go_at_call 28; refine (rless_any _ _ _).mono ?_; rintro e w' ⟨rfl, hw'⟩; rw [hw']; clear hw' w')
      go_ret
      exact ⟨ret_int HC.out.symm, m, HW.out⟩
end Go.Proofs.Ytcbgjkedmboifaa
