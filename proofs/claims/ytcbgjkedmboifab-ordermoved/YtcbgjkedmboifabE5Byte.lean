/-
  Layer 5, the program's Byte: a byte of a text, or what is wrong. Condition: the arena lies in memory, in one state with a list of blocks.
-/
import Derived.Test.YtcbgjkedmboifabE5Length
namespace Go.Proofs.Ytcbgjkedmboifab
open Go.ChangeShapes Go.WideShapes Go.ChangeAt Go.RowKit Go.Deep
set_option linter.unusedVariables false
set_option maxHeartbeats 1000000

variable {w : World} {p : Pl} {s : St} {r : RS}
/-- What is wrong with byte i of a text of n bytes. -/
def hasE (n : Nat) (E i : Int) : Int := if E ≠ 0 then E else if i < 0 ∨ (n : Int) ≤ i then 2 else 0
theorem text_two (hr : Rep s r) (x : Int) : ((textAt s r x).1 = none ∧ ((textAt s r x).2 = 6 ∨ (textAt s r x).2 = 5)) ∨ ∃ l, textAt s r x = (some l, 0) := by
  rcases text_cases hr x with ⟨g, e⟩ | ⟨k, b, hk, hf, g2, hx, _, _, e⟩
  · rw [e]; exact Or.inl ⟨rfl, Or.inl rfl⟩
  · rw [e]
    cases ht : textF b with
    | none => exact Or.inl ⟨rfl, Or.inr rfl⟩
    | some l => exact Or.inr ⟨l, rfl⟩
theorem hasE_byte (hr : Rep s r) (x i : Int) : hasE ((textAt s r x).1.getD []).length (textAt s r x).2 i = (byteAt s r x i).2 := by
  unfold byteAt
  rcases text_two hr x with ⟨e1, e2⟩ | ⟨l, e⟩
  · rw [e1]
    rcases e2 with e2 | e2
    · rw [e2, if_pos rfl]; rfl
    · rw [e2, if_neg (by decide)]; rfl
  · rw [e]
    show hasE l.length 0 i = (if (0 : Int) = 6 then ((0 : Int), (6 : Int)) else byteOut (some l) i).2
    rw [if_neg (by decide)]
    unfold hasE byteOut
    simp only
    rw [if_neg (by decide)]
    by_cases c : 0 ≤ i ∧ i < l.length
    · rw [if_neg (by omega), if_pos c]
    · rw [if_pos (by omega), if_neg c]
/-- What is told where there is a byte. -/
theorem byte_yes (hr : Rep s r) {x i : Int} (e : (byteAt s r x i).2 = 0) : ∃ l, textAt s r x = (some l, 0) ∧ 0 ≤ i ∧ i < l.length ∧ (byteAt s r x i).1 = (l.getD i.toNat 0).toNat := by
  rcases text_two hr x with ⟨e1, e2⟩ | ⟨l, e3⟩
  · exfalso
    unfold byteAt at e
    rw [e1] at e
    rcases e2 with e2 | e2
    · rw [e2, if_pos rfl] at e; exact absurd e (by decide)
    · rw [e2, if_neg (by decide)] at e; exact absurd (show (5 : Int) = 0 from e) (by decide)
  · refine ⟨l, e3, ?_⟩
    rw [byte_of e3 i] at e ⊢
    unfold byteOut at e ⊢
    simp only at e ⊢
    by_cases c : 0 ≤ i ∧ i < l.length
    · rw [if_pos c]; exact ⟨c.1, c.2, rfl⟩
    · rw [if_neg c] at e; exact absurd e (by decide)
theorem byte_no (hr : Rep s r) {x i : Int} (e : (byteAt s r x i).2 ≠ 0) : (byteAt s r x i).1 = 0 := by
  rcases text_two hr x with ⟨e1, e2⟩ | ⟨l, e3⟩
  · unfold byteAt
    rw [e1]
    rcases e2 with e2 | e2
    · rw [e2, if_pos rfl]
    · rw [e2, if_neg (by decide)]; rfl
  · rw [byte_of e3 i] at e ⊢
    unfold byteOut at e ⊢
    simp only at e ⊢
    by_cases c : 0 ≤ i ∧ i < l.length
    · rw [if_pos c] at e; exact absurd rfl e
    · rw [if_neg c]
/-- A byte of a text is a byte of a field. -/
theorem byte_field (hr : Rep s r) {x : Int} {l : List UInt8} (e : textAt s r x = (some l, 0)) {i : Nat} (hi : i < l.length) : byteI (s.get x ((i / 8 : Nat) : Int)) (i % 8) = l.getD i 0 := by
  rw [(get_text hr e (j := i / 8) (by omega)).2]
  have h1 := bytesF_at (fieldsT l) i (by rw [fieldsT_len]; omega)
  rw [fieldsT_bytes] at h1
  unfold padT at h1
  rw [List.getElem?_append_left hi] at h1
  rw [List.getD_eq_getElem?_getD (l := l), h1]
  rfl
theorem text_short (hr : Rep s r) {x : Int} {l : List UInt8} (e : textAt s r x = (some l, 0)) : l.length < 32768 := by
  obtain ⟨k, b, hk, _, _, _, ht, _⟩ := text_is hr e
  have h1 := (hr.tag k b hk).2.2
  rw [(textF_tag ht).2, fieldsT_len] at h1
  omega
end Go.Proofs.Ytcbgjkedmboifab
