/-
  Layer 5: what the document's own Byte tells of a word. Condition: the document's own arena lies in memory (Both).
-/
import Derived.Test.YtcbgjkedmboifabR5Read
namespace Go.Proofs.Ytcbgjkedmboifab
open Go.ChangeShapes Go.WideShapes Go.ChangeAt Go.RowKit Go.Deep
set_option linter.unusedVariables false
set_option maxHeartbeats 1000000

variable {w : World} {p : Pl} {s : St} {rb : Nat} {r : RS} {a : Option Addr} {cap : Nat} {V : Nat → Value}
theorem Both.rng (h : Both w p s rb r a cap V) {k : Nat} {b : Blk} (hk : r.L[k]? = some b) (y : Int) (hy : y ∈ b.F) : 0 ≤ y ∧ y ≤ 18446744073709551615 := by
  obtain ⟨i, hi, rfl⟩ := List.getElem_of_mem hy
  have e := h.rep.fld k b hk i b.F[i] (List.getElem?_eq_getElem hi)
  rw [← e]
  exact ⟨h.arw.lo _, h.arw.hi _⟩
/-- A byte of a text, or what is wrong. -/
def byteOut (o : Option (List UInt8)) (i : Int) : Int × Int :=
  match o with
  | none => (0, 5)
  | some l => if 0 ≤ i ∧ i < l.length then ((l.getD i.toNat 0).toNat, 0) else (0, 2)
theorem byte_at (l : List UInt8) (n : Nat) (h : n < (ByteArray.mk l.toArray).size) : (ByteArray.mk l.toArray)[n] = l.getD n 0 := by
  have hl : n < l.length := h
  show l.toArray[n] = _
  simp [List.getD_eq_getElem?_getD, hl]
/-- What Byte tells of a block. -/
def ByteAs (o : Option (List UInt8)) (i : Int) (w : World) (e : Ending) (w' : World) : Prop := e = .returned (.tuple #[.int .u8 (byteOut o i).1, .int .i64 (byteOut o i).2]) ∧ Below w.heap.size w w'
end Go.Proofs.Ytcbgjkedmboifab
