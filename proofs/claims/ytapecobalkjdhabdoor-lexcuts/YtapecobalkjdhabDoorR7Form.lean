/-
  Layer 7, the document's own lex: forms behind a backslash. Condition: the place is within the source, or at its end.
-/
import Derived.Test.YtapecobalkjdhabDoorR7Base
namespace Go.Proofs.YtapecobalkjdhabDoor
open Go.ChangeShapes Go.WideShapes Go.ChangeAt Go.RowKit Go.Deep
set_option linter.unusedVariables false
set_option maxHeartbeats 1000000

theorem wrapI (x : Int) (h : -9223372036854775808 ≤ x) (h' : x ≤ 9223372036854775807) : IntKind.i64.wrap x = x := by
  rw [IntKind.wrap_i64]; omega
/-- What hex tells. -/
def hexR (c : UInt8) : Int := match hexB c with | some a => (a.toNat : Int) | none => -1
theorem hexR_digit {c : UInt8} (h : digitB c = true) : hexR c = (c.toNat : Int) - 48 ∧ 48 ≤ c.toNat ∧ c.toNat ≤ 57 := by
  have h2 := h
  rw [digit_is] at h2
  simp at h2
  unfold hexR hexB
  rw [if_pos h]
  simp only
  refine ⟨?_, by omega, by omega⟩
  rw [UInt8.toNat_sub_of_le _ _ (by rw [UInt8.le_iff_toNat_le]; show 48 ≤ c.toNat; omega)]
  show ((c.toNat - 48 : Nat) : Int) = _
  omega
theorem hexR_small {c : UInt8} (h : digitB c = false) (h1 : 97 ≤ c.toNat) (h2 : c.toNat ≤ 102) : hexR c = (c.toNat : Int) - 97 + 10 := by
  unfold hexR hexB
  rw [if_neg (by rw [h]; decide), if_pos ⟨by rw [UInt8.le_iff_toNat_le]; exact h1, by rw [UInt8.le_iff_toNat_le]; exact h2⟩]
  simp only
  have e : (c - 97).toNat = c.toNat - 97 := UInt8.toNat_sub_of_le _ _ (by rw [UInt8.le_iff_toNat_le]; exact h1)
  rw [UInt8.toNat_add, e]
  show (((c.toNat - 97 + 10) % 256 : Nat) : Int) = _
  omega
theorem hexR_none {c : UInt8} (h : digitB c = false) (h1 : ¬ (97 ≤ c.toNat ∧ c.toNat ≤ 102)) : hexR c = -1 := by
  unfold hexR hexB
  rw [if_neg (by rw [h]; decide), if_neg]
  rw [UInt8.le_iff_toNat_le, UInt8.le_iff_toNat_le]; exact h1
/-- What form tells. -/
def formR (s : ByteArray) (i : Nat) : Int × Int := match formB (suf s i) with | some (c, r) => ((c.toNat : Int), (s.size : Int) - i - r.length) | none => (0, 0)
theorem hexR_some {c a : UInt8} (h : hexB c = some a) : hexR c = (a.toNat : Int) := by unfold hexR; rw [h]
theorem hexR_no {c : UInt8} (h : hexB c = none) : hexR c = -1 := by unfold hexR; rw [h]
theorem hexR_le (c : UInt8) : hexR c ≤ 15 := by
  cases hd : digitB c with
  | true => have := hexR_digit hd; omega
  | false =>
    by_cases h1 : 97 ≤ c.toNat ∧ c.toNat ≤ 102
    · rw [hexR_small hd h1.1 h1.2]; omega
    · rw [hexR_none hd h1]; decide
theorem u8_val (c : UInt8) (n : Nat) (hn : n < 256) : c = UInt8.ofNat n ↔ (c.toNat : Int) = (n : Int) := by
  rw [← UInt8.toNat_inj]
  have e : (UInt8.ofNat n).toNat = n := by simp; omega
  rw [e]; omega
end Go.Proofs.YtapecobalkjdhabDoor
