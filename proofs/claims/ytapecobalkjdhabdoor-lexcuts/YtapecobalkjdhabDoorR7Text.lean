/-
  Layer 7, the document's own lex: texts. Condition: the place is within the source.
-/
import Derived.Test.YtapecobalkjdhabDoorR7Row
import Derived.Deep.CutRange
namespace Go.Proofs.YtapecobalkjdhabDoor
open Go.ChangeShapes Go.WideShapes Go.ChangeAt Go.RowKit Go.Deep
set_option linter.unusedVariables false
set_option maxHeartbeats 2000000

/-- A text that is read, behind bytes that were. -/
def pre (acc : List UInt8) (o : Option (List UInt8 × List UInt8)) : Option (List UInt8 × List UInt8) := o.map fun p => (acc ++ p.1, p.2)
theorem pre_nil (o : Option (List UInt8 × List UInt8)) : pre [] o = o := by cases o <;> rfl
theorem txt_mark (t acc : List UInt8) : pre acc (txtB (34 :: t)) = some (acc, t) := by
  rw [txtB.eq_def]; simp [pre]
theorem txt_one {c : UInt8} (t acc : List UInt8) (h1 : c ≠ 34) (h2 : c ≠ 92) : pre acc (txtB (c :: t)) = pre (acc ++ [c]) (txtB t) := by
  rw [txtB.eq_def (c :: t)]
  simp only [if_neg h1, if_neg h2]
  cases txtB t with
  | none => rfl
  | some p => obtain ⟨x, r⟩ := p; simp [pre]
theorem txt_form {b : UInt8} {t r : List UInt8} (acc : List UInt8) (h : formB t = some (b, r)) : pre acc (txtB (92 :: t)) = pre (acc ++ [b]) (txtB r) := by
  rw [txtB.eq_def (92 :: t)]
  simp only [if_neg (show (92 : UInt8) ≠ 34 by decide), if_true]
  split
  · rename_i b' r' h'
    rw [h] at h'
    simp only [Option.some.injEq, Prod.mk.injEq] at h'
    obtain ⟨rfl, rfl⟩ := h'
    cases txtB r with
    | none => rfl
    | some p => obtain ⟨x, r⟩ := p; simp [pre]
  · rename_i h'; rw [h] at h'; cases h'
theorem txt_noform {t : List UInt8} (acc : List UInt8) (h : formB t = none) : pre acc (txtB (92 :: t)) = none := by
  rw [txtB.eq_def (92 :: t)]
  simp only [if_neg (show (92 : UInt8) ≠ 34 by decide), if_true]
  split
  · rename_i b' r' h'; rw [h] at h'; cases h'
  · rfl
theorem suf_at {s : ByteArray} {i : Nat} {r : List UInt8} (h : r <:+ suf s i) (hi : i ≤ s.size) : r = suf s (s.size - r.length) ∧ r.length ≤ s.size - i := by
  obtain ⟨t, ht⟩ := h
  have h1 : t.length + r.length = s.size - i := by rw [← suf_len, ← ht, List.length_append]
  refine ⟨?_, by omega⟩
  have : suf s (s.size - r.length) = (suf s i).drop (s.size - r.length - i) := by
    unfold suf
    rw [List.drop_drop]
    congr 1
    omega
  rw [this, ← ht, show s.size - r.length - i = t.length from by omega, List.drop_left]
/-- What text tells. -/
def textR (s : ByteArray) (i : Nat) (o : Option (List UInt8 × List UInt8)) : List UInt8 × Int := match o with | some (x, r) => (x, (s.size : Int) - i - r.length) | none => ([], 0)
end Go.Proofs.YtapecobalkjdhabDoor
