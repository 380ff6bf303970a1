/-
  A slice of blocks that came in, as its cells hold it: each a tag and a slice of words. No condition but that it is read.
-/
import Derived.Test.YtlhcleocdlnbdaaLibB
import Derived.Deep.Slices
import Derived.OpenShut
namespace Go.Proofs.Ytlhcleocdlnbdaa
open Go.ChangeShapes Go.WideShapes Go.ChangeAt Go.RowKit Go.Deep
set_option linter.unusedVariables false
theorem cellsI3 : Try.prog.cellsOf 3 = 1 := by kernel_rfl
theorem cellsWs : Try.prog.cellsOf 27 = 1 := by kernel_rfl
theorem add_pos3 (y : Addr) (j : Nat) : y.add (j + 1) = ⟨y.block, y.off + (j + 1), none⟩ := by
  unfold Addr.add; rw [if_neg (by omega)]
theorem list_two {α : Type} : ∀ (l : List α), l.length = 2 → ∃ a b, l = [a, b]
  | [a, b], _ => ⟨a, b, rfl⟩
theorem words_open {H : Type} {enc : TypeId × Value → H} {w : World} {base : Nat} {spare : Nat → Bool} {held : Bool} {fuel : Nat} {cs : List Value} {x : DataW H × List MemPlace}
    (h : DataW.trod enc Try.prog w base spare held fuel 27 cs = some x) : ∃ al l c X, cs = [.slice al l c] ∧ l ≤ maxLen ∧ WS w al l c X ∧ (0 < l → ∀ ad, al = some ad → ad.block < w.heap.size) := by
  rcases open_ints Try.underlying27 Try.underlying29 (by kernel_rfl) h with ⟨hcs, _⟩ | ⟨a, l, c, zs, hcs, hx, hl, hm, hz, _, hcell, hwz⟩
  · exact ⟨none, 0, 0, fun _ => 0, hcs, Nat.zero_le _, ⟨fun _ => ⟨rfl, rfl⟩, fun i hi => absurd hi (Nat.not_lt_zero _), fun i hi => absurd hi (Nat.not_lt_zero _), fun i hi => absurd hi (Nat.not_lt_zero _)⟩, fun h => absurd h (Nat.not_lt_zero _)⟩
  · have hzl : l ≤ zs.length := by rw [hz]; split <;> omega
    have hmem : ∀ i, i < l → zs.getD i 0 ∈ zs := by
      intro i hi
      rw [List.getD_eq_getElem?_getD, List.getElem?_eq_getElem (by omega)]
      exact List.getElem_mem _
    refine ⟨some a, l, c, fun i => zs.getD i 0, hcs, by omega, ⟨fun h => (by cases h), fun i hi => ⟨a, rfl, hcell i (by omega)⟩, fun i hi => (bounds_u64 (hwz _ (hmem i hi))).1, fun i hi => (bounds_u64 (hwz _ (hmem i hi))).2⟩, ?_⟩
    intro h0 ad had
    cases had
    have := cell_lt (hcell 0 (by omega))
    rw [add_block] at this
    exact this
theorem words_in {H : Type} {enc : TypeId × Value → H} {w : World} {base : Nat} {spare : Nat → Bool} {held : Bool} {fuel : Nat} {al : Option Addr} {len cap : Nat} {x : DataW H × List MemPlace}
    (h : DataW.trod enc Try.prog w base spare held fuel 27 [.slice al len cap] = some x) : len ≤ maxLen ∧ ∃ X, WS w al len cap X := by
  obtain ⟨al', l', c', X, e, h1, h2, _⟩ := words_open h
  simp only [List.cons.injEq, Value.slice.injEq, and_true] at e
  obtain ⟨rfl, rfl, rfl⟩ := e
  exact ⟨h1, X, h2⟩
end Go.Proofs.Ytlhcleocdlnbdaa
