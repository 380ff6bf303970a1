/-
  Layer 5: what the document's own Byte tells of a word. Condition: the document's own arena lies in memory (Both).
-/
import Derived.Test.YtcbgjkedmboifaaR5Read
namespace Go.Proofs.Ytcbgjkedmboifaa
open Go.ChangeShapes Go.WideShapes Go.ChangeAt Go.RowKit Go.Deep
set_option linter.unusedVariables false
set_option maxHeartbeats 1000000

variable {w : World} {p : Pl} {s : St} {rb : Nat} {r : RS} {a : Option Addr} {cap : Nat} {V : Nat → Value}
theorem Both.rng (h : Both w p s rb r a cap V) {k : Nat} {b : Blk} (hk : r.L[k]? = some b) (y : Int) (hy : y ∈ b.F) : 0 ≤ y ∧ y ≤ 18446744073709551615 := by
  obtain ⟨i, hi, rfl⟩ := List.getElem_of_mem hy
  have e := h.rep.fld k b hk i b.F[i] (List.getElem?_eq_getElem hi)
  rw [← e]
  exact ⟨h.arw.lo _, h.arw.hi _⟩
theorem rread_blk (x : Int) (k : Nat) (b : Blk) (w : World) (h : Both w p s rb r a cap V) (h0 : 0 ≤ x) (h1 : x ≤ 18446744073709551615) (hk : r.L[k]? = some b) (g : (s.find x).1 = b.ad) (g2 : (s.find x).2 = 0) :
    Calls Try.prog 30 #[.pointer (some ⟨rb, 0, none⟩), .int .u64 x] w fun e w' => ReadAs (textF b) w e w' := by
  by_cases t : b.tag = 202
  · by_cases tf : b.F.length = 0
    · exact rread_tag x k b w h h0 h1 hk g g2 (Or.inr tf)
    · exact rread_text x k b w h h0 h1 hk g g2 t tf (fun y hy => h.rng hk y hy)
  · exact rread_tag x k b w h h0 h1 hk g g2 (Or.inl t)
/-- A byte of a text, or what is wrong. -/
def byteOut (o : Option (List UInt8)) (i : Int) : Int × Int :=
  match o with
  | none => (0, 5)
  | some l => if 0 ≤ i ∧ i < l.length then ((l.getD i.toNat 0).toNat, 0) else (0, 2)
theorem byte_at (l : List UInt8) (n : Nat) (h : n < (ByteArray.mk l.toArray).size) : (ByteArray.mk l.toArray)[n] = l.getD n 0 := by
  have hl : n < l.length := h
  show l.toArray[n] = _
  simp [List.getD_eq_getElem?_getD, hl]
/-- What Byte tells of a block. -/
def ByteAs (o : Option (List UInt8)) (i : Int) (w : World) (e : Ending) (w' : World) : Prop := e = .returned (.tuple #[.int .u8 (byteOut o i).1, .int .i64 (byteOut o i).2]) ∧ Below w.heap.size w w'
end Go.Proofs.Ytcbgjkedmboifaa
