/-
  A slice of blocks that came in, as its cells hold it: each a tag and a slice of words. No condition but that it is read.
-/
import Derived.Test.YtkgocnmeedkieaaL3Lay
import Derived.Deep.Slices
import Derived.OpenShut
namespace Go.Proofs.Ytkgocnmeedkieaa
open Go.ChangeShapes Go.WideShapes Go.ChangeAt Go.RowKit Go.Deep
set_option linter.unusedVariables false
theorem cellsL : Try.prog.cellsOf 58 = 2 := by kernel_rfl
theorem cellsI3 : Try.prog.cellsOf 3 = 1 := by kernel_rfl
theorem cellsWs : Try.prog.cellsOf 23 = 1 := by kernel_rfl
theorem add_pos3 (y : Addr) (j : Nat) : y.add (j + 1) = ⟨y.block, y.off + (j + 1), none⟩ := by
  unfold Addr.add; rw [if_neg (by omega)]
theorem list_two {α : Type} : ∀ (l : List α), l.length = 2 → ∃ a b, l = [a, b]
  | [a, b], _ => ⟨a, b, rfl⟩
theorem words_open {H : Type} {enc : TypeId × Value → H} {w : World} {base : Nat} {spare : Nat → Bool} {held : Bool} {fuel : Nat} {cs : List Value} {x : DataW H × List MemPlace}
    (h : DataW.trod enc Try.prog w base spare held fuel 23 cs = some x) : ∃ al l c X, cs = [.slice al l c] ∧ l ≤ maxLen ∧ WS w al l c X ∧ (0 < l → ∀ ad, al = some ad → ad.block < w.heap.size) := by
  rcases open_ints Try.underlying23 Try.underlying49 (by kernel_rfl) h with ⟨hcs, _⟩ | ⟨a, l, c, zs, hcs, hx, hl, hm, hz, _, hcell, hwz⟩
  · exact ⟨none, 0, 0, fun _ => 0, hcs, Nat.zero_le _, ⟨fun _ => ⟨rfl, rfl⟩, fun i hi => absurd hi (Nat.not_lt_zero _), fun i hi => absurd hi (Nat.not_lt_zero _), fun i hi => absurd hi (Nat.not_lt_zero _)⟩, fun h => absurd h (Nat.not_lt_zero _)⟩
  · have hzl : l ≤ zs.length := by rw [hz]; split <;> omega
    have hmem : ∀ i, i < l → zs.getD i 0 ∈ zs := by
      intro i hi
      rw [List.getD_eq_getElem?_getD, List.getElem?_eq_getElem (by omega)]
      exact List.getElem_mem _
    refine ⟨some a, l, c, fun i => zs.getD i 0, hcs, by omega, ⟨fun h => (by cases h), fun i hi => ⟨a, rfl, hcell i (by omega)⟩, fun i hi => (bounds_u64 (hwz _ (hmem i hi))).1, fun i hi => (bounds_u64 (hwz _ (hmem i hi))).2⟩, ?_⟩
    intro h0 ad had
    cases had
    have := cell_lt (hcell 0 (by omega))
    rw [add_block] at this
    exact this
theorem words_in {H : Type} {enc : TypeId × Value → H} {w : World} {base : Nat} {spare : Nat → Bool} {held : Bool} {fuel : Nat} {al : Option Addr} {len cap : Nat} {x : DataW H × List MemPlace}
    (h : DataW.trod enc Try.prog w base spare held fuel 23 [.slice al len cap] = some x) : len ≤ maxLen ∧ ∃ X, WS w al len cap X := by
  obtain ⟨al', l', c', X, e, h1, h2, _⟩ := words_open h
  simp only [List.cons.injEq, Value.slice.injEq, and_true] at e
  obtain ⟨rfl, rfl, rfl⟩ := e
  exact ⟨h1, X, h2⟩
theorem blocks_open {H : Type} {enc : TypeId × Value → H} {w : World} {base : Nat} {spare : Nat → Bool} {held : Bool} {fuel : Nat} {al : Option Addr} {len cap : Nat} {x : DataW H × List MemPlace}
    (h : DataW.trod enc Try.prog w base spare held fuel 22 [.slice al len cap] = some x) : len ≤ maxLen ∧ ∃ I, BlocksIn w w.heap.size al len I := by
  rcases open_slice Try.underlying22 h with ⟨hcs, _⟩ | ⟨a, l, c, m, n, D, Pl, hcs, _, hl, hm, hmm, _, hx⟩
  · simp at hcs
    obtain ⟨_, rfl, _⟩ := hcs
    exact ⟨Nat.zero_le _, fun _ => ⟨0, none, 0, 0, fun _ => 0⟩, fun i hi => by omega⟩
  · simp at hcs
    obtain ⟨rfl, rfl, rfl⟩ := hcs
    have hlm : len ≤ m := by rw [hmm]; split <;> omega
    refine ⟨by omega, ?_⟩
    have each : ∀ i, ∃ b : BI, i < len → ((a.add (i * 2)).block < w.heap.size ∧ w.cell? (a.add (i * 2)) = some (.int .i64 b.tag) ∧ w.cell? ⟨(a.add (i * 2)).block, (a.add (i * 2)).off + 1, none⟩ = some (.slice b.fa b.fl b.fc) ∧
        WS w b.fa b.fl b.fc b.F ∧ (0 < b.fl → ∀ ad, b.fa = some ad → ad.block < w.heap.size) ∧ b.fl ≤ maxLen) := by
      intro i
      by_cases hi : i < len
      · obtain ⟨cs', h1, h2⟩ := hx i (by omega)
        rw [cellsL] at h1
        obtain ⟨_, hlen, hcell⟩ := World.cells?_some h1
        obtain ⟨xs, n', _, _, _, hxl, hf⟩ := DataW.trod_struct Try.underlying58 h2
        obtain ⟨c0, c1, rfl⟩ := list_two cs' hlen
        have f0 := hf 0 _ rfl
        have f1 := hf 1 _ rfl
        have hs : xs.length = 2 := hxl
        rw [List.getElem?_eq_getElem (by omega)] at f0 f1
        obtain ⟨z0, e0, _, _⟩ := DataW.trod_int Try.underlying3 f0
        obtain ⟨fa, fl, fc, F, e1, g1, g2, g3⟩ := words_open f1
        obtain rfl : c0 = .int .i64 z0 := by simpa [cellsI3, cellsWs] using e0
        obtain rfl : c1 = .slice fa fl fc := by simpa [cellsI3, cellsWs] using e1
        have d0 := hcell 0 (by omega)
        have d1 := hcell 1 (by omega)
        rw [add_pos3] at d1
        have d0' : w.cell? (a.add (i * 2)) = some (.int .i64 z0) := d0
        exact ⟨⟨z0, fa, fl, fc, F⟩, fun _ => ⟨cell_lt d0', d0', d1, g2, g3, g1⟩⟩
      · exact ⟨⟨0, none, 0, 0, fun _ => 0⟩, fun h => absurd h hi⟩
    obtain ⟨I, hI⟩ := Classical.axiomOfChoice each
    exact ⟨I, fun i hi => ⟨a, rfl, hI i hi⟩⟩
end Go.Proofs.Ytkgocnmeedkieaa
