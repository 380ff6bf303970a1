/-
  A slice of steps that came in, as its cells hold it. No condition but that it is read.
-/
import Derived.Test.YtaoohkjhniigfaaPlay
import Derived.Deep.Slices
import Derived.OpenShut
namespace Go.Proofs.Ytaoohkjhniigfaa
open Go.ChangeShapes Go.WideShapes Go.ChangeAt Go.RowKit Go.Deep
set_option linter.unusedVariables false
theorem cells63 : Try.prog.cellsOf 63 = 5 := by kernel_rfl
theorem cells3 : Try.prog.cellsOf 3 = 1 := by kernel_rfl
theorem cells24 : Try.prog.cellsOf 24 = 1 := by kernel_rfl
theorem cell_block {w : World} {x : Addr} {v : Value} (hc : w.cell? x = some v) : x.block < w.heap.size := by
  by_cases hb : x.block < w.heap.size
  · exact hb
  · exfalso
    unfold World.cell? at hc
    rw [Array.getElem?_eq_none (by omega)] at hc
    cases hc
theorem add_pos (y : Addr) (j : Nat) : y.add (j + 1) = ⟨y.block, y.off + (j + 1), none⟩ := by
  unfold Addr.add; rw [if_neg (by omega)]
theorem steps_open {H : Type} {enc : TypeId × Value → H} {w : World} {base : Nat} {spare : Nat → Bool} {held : Bool} {fuel : Nat} {al : Option Addr} {len cap : Nat} {x : DataW H × List MemPlace}
    (h : DataW.trod enc Try.prog w base spare held fuel 22 [.slice al len cap] = some x) : len ≤ maxLen ∧ ∃ S, Steps w w.heap.size al len S := by
  rcases open_slice Try.underlying22 h with ⟨hcs, _⟩ | ⟨a, l, c, m, n, D, Pl, hcs, _, hl, hm, hmm, _, hx⟩
  · simp at hcs
    obtain ⟨_, rfl, _⟩ := hcs
    exact ⟨Nat.zero_le _, fun _ => ⟨0, 0, 0, 0, 0⟩, fun i hi => by omega⟩
  · simp at hcs
    obtain ⟨rfl, rfl, rfl⟩ := hcs
    have hlm : len ≤ m := by rw [hmm]; split <;> omega
    refine ⟨by omega, ?_⟩
    have each : ∀ i, ∃ st : Stp, i < len → (((a.add (i * 5)).block < w.heap.size ∧
        w.cell? (a.add (i * 5)) = some (.int .i64 st.kind) ∧ w.cell? ⟨(a.add (i * 5)).block, (a.add (i * 5)).off + 1, none⟩ = some (.int .i64 st.A) ∧ w.cell? ⟨(a.add (i * 5)).block, (a.add (i * 5)).off + 2, none⟩ = some (.int .i64 st.B) ∧
        w.cell? ⟨(a.add (i * 5)).block, (a.add (i * 5)).off + 3, none⟩ = some (.int .u64 st.W) ∧ w.cell? ⟨(a.add (i * 5)).block, (a.add (i * 5)).off + 4, none⟩ = some (.int .u64 st.X) ∧
        0 ≤ st.W ∧ st.W ≤ 18446744073709551615 ∧ 0 ≤ st.X ∧ st.X ≤ 18446744073709551615)) := by
      intro i
      by_cases hi : i < len
      · obtain ⟨cs', h1, h2⟩ := hx i (by omega)
        rw [cells63] at h1
        obtain ⟨_, hlen, hcell⟩ := World.cells?_some h1
        obtain ⟨xs, n', _, _, _, hxl, hf⟩ := DataW.trod_struct Try.underlying63 h2
        match cs', hlen with
        | [c0, c1, c2, c3, c4], _ =>
          have f0 := hf 0 _ rfl
          have f1 := hf 1 _ rfl
          have f2 := hf 2 _ rfl
          have f3 := hf 3 _ rfl
          have f4 := hf 4 _ rfl
          have hs : xs.length = 5 := hxl
          rw [List.getElem?_eq_getElem (by omega)] at f0 f1 f2 f3 f4
          obtain ⟨z0, e0, _, _⟩ := DataW.trod_int Try.underlying3 f0
          obtain ⟨z1, e1, _, _⟩ := DataW.trod_int Try.underlying3 f1
          obtain ⟨z2, e2, _, _⟩ := DataW.trod_int Try.underlying3 f2
          obtain ⟨z3, e3, _, w3⟩ := DataW.trod_int Try.underlying24 f3
          obtain ⟨z4, e4, _, w4⟩ := DataW.trod_int Try.underlying24 f4
          obtain rfl : c0 = .int .i64 z0 := by simpa [cells3, cells24] using e0
          obtain rfl : c1 = .int .i64 z1 := by simpa [cells3, cells24] using e1
          obtain rfl : c2 = .int .i64 z2 := by simpa [cells3, cells24] using e2
          obtain rfl : c3 = .int .u64 z3 := by simpa [cells3, cells24] using e3
          obtain rfl : c4 = .int .u64 z4 := by simpa [cells3, cells24] using e4
          have d0 := hcell 0 (by omega)
          have d1 := hcell 1 (by omega)
          have d2 := hcell 2 (by omega)
          have d3 := hcell 3 (by omega)
          have d4 := hcell 4 (by omega)
          rw [add_pos] at d1 d2 d3 d4
          have d0' : w.cell? (a.add (i * 5)) = some (.int .i64 z0) := d0
          exact ⟨⟨z0, z1, z2, z3, z4⟩, fun _ => ⟨cell_block d0', d0', d1, d2, d3, d4, (bounds_u64 w3).1, (bounds_u64 w3).2, (bounds_u64 w4).1, (bounds_u64 w4).2⟩⟩
      · exact ⟨⟨0, 0, 0, 0, 0⟩, fun h => absurd h hi⟩
    obtain ⟨S, hS⟩ := Classical.axiomOfChoice each
    exact ⟨S, fun i hi => ⟨a, rfl, hS i hi⟩⟩
end Go.Proofs.Ytaoohkjhniigfaa
