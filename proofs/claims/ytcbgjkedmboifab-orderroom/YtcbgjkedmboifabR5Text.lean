/-
  Layer 5: which text a word holds, and a byte of it: plain; and that the document's own functions tell so. Condition: the document's own arena lies in memory.
-/
import Derived.Test.YtcbgjkedmboifabR5Byte
import Derived.Test.YtcbgjkedmboifabLibC
namespace Go.Proofs.Ytcbgjkedmboifab
open Go.ChangeShapes Go.WideShapes Go.ChangeAt Go.RowKit Go.Deep
set_option linter.unusedVariables false
set_option maxHeartbeats 1000000

theorem find_sum {s : St} {x : Int} (g : (s.find x).1 ≠ 0) : (s.find x).1 + (s.find x).2 = addrW x := by
  unfold St.find at g ⊢
  split
  · simp
  · rename_i c
    rw [if_neg c] at g
    split
    · rename_i c2; rw [if_pos c2] at g; exact absurd rfl g
    · rename_i c2
      rw [if_neg c2] at g
      split
      · simp
      · rename_i c3; rw [if_neg c3] at g; exact absurd rfl g
theorem find2_lo (s : St) (x : Int) : 0 ≤ (s.find x).2 := by
  unfold St.find
  split
  · exact Int.le_refl _
  · split
    · exact Int.le_refl _
    · split
      · exact sizeW_lo _
      · exact Int.le_refl _
/-- The text that a word holds, and what is wrong. -/
def textAt (s : St) (r : RS) (x : Int) : Option (List UInt8) × Int :=
  if (s.find x).1 = 0 ∨ 0 < (s.find x).2 then (none, 6)
  else match leadI s r x with
    | none => (none, 6)
    | some k => (textF (blkAt r k), if (textF (blkAt r k)).isSome then 0 else 5)
/-- A byte of it, and what is wrong. -/
def byteAt (s : St) (r : RS) (x i : Int) : Int × Int := if (textAt s r x).2 = 6 then (0, 6) else byteOut (textAt s r x).1 i
theorem text_cases {s : St} {r : RS} (h : Rep s r) (x : Int) : (((s.find x).1 = 0 ∨ 0 < (s.find x).2) ∧ textAt s r x = (none, 6)) ∨ ∃ k b, r.L[k]? = some b ∧ (s.find x).1 = b.ad ∧ (s.find x).2 = 0 ∧ (b.ad : Int) = addrW x ∧ leadI s r x = some k ∧ blkAt r k = b ∧ textAt s r x = (textF b, if (textF b).isSome then 0 else 5) := by
  by_cases g : (s.find x).1 = 0 ∨ 0 < (s.find x).2
  · exact Or.inl ⟨g, by unfold textAt; rw [if_pos g]⟩
  · rcases lead_cases h x with ⟨g0, _⟩ | ⟨k, b, hb, hf, hl⟩
    · exact absurd (Or.inl g0) g
    · have h2 := find2_lo s x
      have g2 : (s.find x).2 = 0 := by omega
      have hs := find_sum (s := s) (x := x) (by omega)
      have hbk : blkAt r k = b := by unfold blkAt; rw [List.getD_eq_getElem?_getD, hb]; rfl
      refine Or.inr ⟨k, b, hb, hf, g2, by omega, hl, hbk, ?_⟩
      unfold textAt
      rw [if_neg g, hl]
      simp only [hbk]
variable {w : World} {p : Pl} {s : St} {rb : Nat} {r : RS} {a : Option Addr} {cap : Nat} {V : Nat → Value}
theorem below_drews (w : World) (m : Nat) : Below w.heap.size w (w.drewN m) := ⟨rfl, rfl, rfl, Nat.le_refl _, fun _ _ => rfl⟩
end Go.Proofs.Ytcbgjkedmboifab
