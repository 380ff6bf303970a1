/-
  Layer 6: what a word is in an arena (a number, a text, a block, nothing, a function); and that the document's own Wrong tells what is wrong with it. Condition: the document's own arena lies in memory.
-/
import Derived.Test.YtcbgjkedmboifabO6More
import Derived.Test.YtcbgjkedmboifabR5Text
import Derived.Test.YtcbgjkedmboifabRefNum
import Derived.BigQuiet
namespace Go.Proofs.Ytcbgjkedmboifab
open Go.ChangeShapes Go.WideShapes Go.ChangeAt Go.RowKit Go.Deep
set_option linter.unusedVariables false
set_option maxHeartbeats 1000000

/-- Bytes as numbers. -/
def bytesI (l : List UInt8) : List Int := l.map fun c => (c.toNat : Int)
/-- What a word is that leads to a block at a distance. -/
def ndB (b : Blk) (d : Int) : Nd := if b.tag = 200 then .fn else if 0 < d then .bad else if b.tag = 202 then (match readT b.F with | some l => .txt (bytesI l) | none => .bad) else .blk b.tag b.F
/-- What a word is. -/
def ndW (s : St) (r : RS) (x : Int) : Nd := if isIntW x = true then .num (numW x) else match leadI s r x with | none => .bad | some k => ndB (blkAt r k) (s.find x).2
variable {w : World} {p : Pl} {s : St} {rb : Nat} {r : RS} {a : Option Addr} {cap : Nat} {V : Nat → Value}
theorem nd_cases (h : Rep s r) (x : Int) : (isIntW x = true ∧ ndW s r x = .num (numW x)) ∨ (isIntW x = false ∧ (s.find x).1 = 0 ∧ ndW s r x = .bad) ∨ (isIntW x = false ∧ ∃ k b, r.L[k]? = some b ∧ (s.find x).1 = b.ad ∧ leadI s r x = some k ∧ blkAt r k = b ∧ ndW s r x = ndB b (s.find x).2) := by
  unfold ndW
  by_cases hi : isIntW x = true
  · exact Or.inl ⟨hi, by rw [if_pos hi]⟩
  · have hi2 : isIntW x = false := by simpa using hi
    rw [if_neg hi]
    rcases lead_cases h x with ⟨g0, hl⟩ | ⟨k, b, hb, hf, hl⟩
    · exact Or.inr (Or.inl ⟨hi2, g0, by rw [hl]⟩)
    · have hbk : blkAt r k = b := by unfold blkAt; rw [List.getD_eq_getElem?_getD, hb]; rfl
      exact Or.inr (Or.inr ⟨hi2, k, b, hb, hf, hl, hbk, by rw [hl]; simp only [hbk]⟩)
theorem isInt_is {b : Bool} (x : Int) (w : World) (h : 0 ≤ x) (h' : x ≤ 18446744073709551615) (e : isIntW x = b) :
    Calls Try.prog 81 #[.int .u64 x] w fun e w' => e = .returned (.bool b) ∧ w' = w := by
  subst e; exact risInt_any x w h h'
theorem rfind_at {d : Int} (x : Int) (k : Nat) (b : Blk) (w : World) (h : Both w p s rb r a cap V) (h0 : 0 ≤ x) (h1 : x ≤ 18446744073709551615) (hk : r.L[k]? = some b) (g : (s.find x).1 = b.ad) (e : (s.find x).2 = d) :
    Calls Try.prog 57 #[.pointer (some ⟨rb, 0, none⟩), .int .u64 x] w fun e w' => e = .returned (.tuple #[.int .i64 k, .int .i64 d]) ∧ ∃ m, w' = w.drewN m := by
  subst e; exact rfind_yes x k b w h h0 h1 hk g
end Go.Proofs.Ytcbgjkedmboifab
