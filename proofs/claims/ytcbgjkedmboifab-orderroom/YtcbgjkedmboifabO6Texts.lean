/-
  Layer 6: the document's own order of numbers and of texts. No condition but that the texts are not too long.
-/
import Derived.Test.YtcbgjkedmboifabO6Nd
namespace Go.Proofs.Ytcbgjkedmboifab
open Go.ChangeShapes Go.WideShapes Go.ChangeAt Go.RowKit Go.Deep
set_option linter.unusedVariables false
set_option maxHeartbeats 1000000

theorem sgnL_drop : ∀ (k : Nat) (l m : List Int), l.take k = m.take k → k ≤ l.length → k ≤ m.length → sgnL l m = sgnL (l.drop k) (m.drop k)
  | 0, _, _, _, _, _ => by simp
  | k + 1, [], _, _, h, _ => absurd h (by simp)
  | k + 1, _ :: _, [], _, _, h => absurd h (by simp)
  | k + 1, a :: l, b :: m, h, h1, h2 => by
    simp only [List.take_succ_cons, List.cons.injEq] at h
    obtain ⟨rfl, h⟩ := h
    show (if a < a then _ else if a < a then _ else sgnL l m) = sgnL (l.drop k) (m.drop k)
    rw [if_neg (by omega), if_neg (by omega)]
    exact sgnL_drop k l m h (by simpa using h1) (by simpa using h2)
theorem sgnL_end {k : Nat} {l m : List Int} (h : l.take k = m.take k) (h1 : k ≤ l.length) (h2 : k ≤ m.length) (e : k = l.length ∨ k = m.length) : sgnL l m = sgn l.length m.length := by
  rw [sgnL_drop k l m h h1 h2]
  unfold sgn
  rcases e with e | e
  · rw [e, List.drop_length]
    by_cases c : l.length < m.length
    · rw [if_pos (by omega), List.drop_eq_getElem_cons c]; rfl
    · rw [if_neg (by omega), if_neg (by omega), List.drop_of_length_le (by omega)]; rfl
  · rw [e, List.drop_length]
    by_cases c : m.length < l.length
    · rw [if_neg (by omega), if_pos (by omega), List.drop_eq_getElem_cons c]; rfl
    · rw [if_neg (by omega), if_neg (by omega), List.drop_of_length_le (by omega)]; rfl
theorem sgnL_at {k : Nat} {l m : List Int} (h : l.take k = m.take k) (h1 : k < l.length) (h2 : k < m.length) (e : l[k] ≠ m[k]) : sgnL l m = sgn l[k] m[k] := by
  rw [sgnL_drop k l m h (by omega) (by omega), List.drop_eq_getElem_cons h1, List.drop_eq_getElem_cons h2]
  unfold sgnL sgn
  by_cases c : l[k] < m[k]
  · rw [if_pos c, if_pos c]
  · rw [if_neg c, if_neg c, if_pos (by omega), if_pos (by omega)]
/-- A text's bytes as numbers. -/
def intsS (s : ByteArray) : List Int := bytesI (bytesS s)
theorem intsS_len (s : ByteArray) : (intsS s).length = s.size := by unfold intsS bytesI; rw [List.length_map, bytesS_len]
theorem intsS_at (s : ByteArray) {k : Nat} (h : k < s.size) : (intsS s)[k]? = some ((s[k]).toNat : Int) := by
  unfold intsS bytesI bytesS
  rw [List.getElem?_map, List.getElem?_eq_getElem (by rw [Array.length_toList]; exact h)]
  rfl
theorem texts_step {s t : ByteArray} {k : Nat} (h : (intsS s).take k = (intsS t).take k) (h1 : k < s.size) (h2 : k < t.size) : ((s[k]).toNat = (t[k]).toNat → (intsS s).take (k + 1) = (intsS t).take (k + 1)) ∧ ((s[k]).toNat ≠ (t[k]).toNat → sgnL (intsS s) (intsS t) = sgn ((s[k]).toNat : Int) ((t[k]).toNat : Int)) := by
  have hi1 := intsS_at s h1
  have hi2 := intsS_at t h2
  have g1 : k < (intsS s).length := by rw [intsS_len]; exact h1
  have g2 : k < (intsS t).length := by rw [intsS_len]; exact h2
  refine ⟨fun e => ?_, fun e => ?_⟩
  · rw [List.take_add_one, List.take_add_one, h, hi1, hi2, e]
  · rw [List.getElem?_eq_getElem g1] at hi1
    rw [List.getElem?_eq_getElem g2] at hi2
    have q1 := Option.some.inj hi1
    have q2 := Option.some.inj hi2
    rw [sgnL_at h g1 g2 (by rw [q1, q2]; omega), q1, q2]
end Go.Proofs.Ytcbgjkedmboifab
