/-
  A slice of layer 4's steps that came in, as its cells hold it. No condition but that it is read.
-/
import Derived.Test.YtjnlfnecmiklhaaL4Mach
import Derived.Deep.Slices
import Derived.OpenShut
namespace Go.Proofs.Ytjnlfnecmiklhaa
open Go.ChangeShapes Go.WideShapes Go.ChangeAt Go.RowKit Go.Deep
set_option linter.unusedVariables false
theorem cellsS4 : Try.prog.cellsOf 62 = 4 := by kernel_rfl
theorem cellsI4 : Try.prog.cellsOf 3 = 1 := by kernel_rfl
theorem add_pos4 (y : Addr) (j : Nat) : y.add (j + 1) = ⟨y.block, y.off + (j + 1), none⟩ := by
  unfold Addr.add; rw [if_neg (by omega)]
set_option maxRecDepth 100000 in
theorem steps4_open {H : Type} {enc : TypeId × Value → H} {w : World} {base : Nat} {spare : Nat → Bool} {held : Bool} {fuel : Nat} {al : Option Addr} {len cap : Nat} {x : DataW H × List MemPlace}
    (h : DataW.trod enc Try.prog w base spare held fuel 22 [.slice al len cap] = some x) : len ≤ maxLen ∧ ∃ T, SS4 w al len cap T := by
  rcases open_slice Try.underlying22 h with ⟨hcs, _⟩ | ⟨a, l, c, m, n, D, Pl, hcs, _, hl, hm, hmm, _, hx⟩
  · simp at hcs
    obtain ⟨rfl, rfl, rfl⟩ := hcs
    exact ⟨Nat.zero_le _, fun _ => ⟨0, 0, 0, 0⟩, fun _ => ⟨rfl, rfl⟩, fun i hi => by omega, fun i hi => by omega⟩
  · simp at hcs
    obtain ⟨rfl, rfl, rfl⟩ := hcs
    have hlm : len ≤ m := by rw [hmm]; split <;> omega
    refine ⟨by omega, ?_⟩
    have each : ∀ i, ∃ st : St4, i < len → ((w.cell? (a.add (i * 4)) = some (.int .i64 st.k) ∧ w.cell? ⟨(a.add (i * 4)).block, (a.add (i * 4)).off + 1, none⟩ = some (.int .i64 st.a) ∧ w.cell? ⟨(a.add (i * 4)).block, (a.add (i * 4)).off + 2, none⟩ = some (.int .i64 st.b) ∧ w.cell? ⟨(a.add (i * 4)).block, (a.add (i * 4)).off + 3, none⟩ = some (.int .i64 st.c)) ∧ (RI st.k ∧ RI st.a ∧ RI st.b ∧ RI st.c)) := by
      intro i
      by_cases hi : i < len
      · obtain ⟨cs', h1, h2⟩ := hx i (by omega)
        rw [cellsS4] at h1
        obtain ⟨_, hlen, hcell⟩ := World.cells?_some h1
        obtain ⟨xs, n', _, _, _, hxl, hf⟩ := DataW.trod_struct Try.underlying62 h2
        match cs', hlen with
        | [c0, c1, c2, c3], _ =>
          have f0 := hf 0 _ rfl
          have f1 := hf 1 _ rfl
          have f2 := hf 2 _ rfl
          have f3 := hf 3 _ rfl
          have hs : xs.length = 4 := hxl
          rw [List.getElem?_eq_getElem (by omega)] at f0 f1 f2 f3
          obtain ⟨z0, e0, _, w0⟩ := DataW.trod_int Try.underlying3 f0
          obtain ⟨z1, e1, _, w1⟩ := DataW.trod_int Try.underlying3 f1
          obtain ⟨z2, e2, _, w2⟩ := DataW.trod_int Try.underlying3 f2
          obtain ⟨z3, e3, _, w3⟩ := DataW.trod_int Try.underlying3 f3
          obtain rfl : c0 = .int .i64 z0 := by simpa [cellsI4] using e0
          obtain rfl : c1 = .int .i64 z1 := by simpa [cellsI4] using e1
          obtain rfl : c2 = .int .i64 z2 := by simpa [cellsI4] using e2
          obtain rfl : c3 = .int .i64 z3 := by simpa [cellsI4] using e3
          have d0 := hcell 0 (by omega)
          have d1 := hcell 1 (by omega)
          have d2 := hcell 2 (by omega)
          have d3 := hcell 3 (by omega)
          rw [add_pos4] at d1 d2 d3
          have d0' : w.cell? (a.add (i * 4)) = some (.int .i64 z0) := d0
          exact ⟨⟨z0, z1, z2, z3⟩, fun _ => ⟨⟨d0', d1, d2, d3⟩, ⟨(bounds_i64 w0).1, (bounds_i64 w0).2⟩, ⟨(bounds_i64 w1).1, (bounds_i64 w1).2⟩, ⟨(bounds_i64 w2).1, (bounds_i64 w2).2⟩, ⟨(bounds_i64 w3).1, (bounds_i64 w3).2⟩⟩⟩
      · exact ⟨⟨0, 0, 0, 0⟩, fun h => absurd h hi⟩
    obtain ⟨S, hS⟩ := Classical.axiomOfChoice each
    exact ⟨S, ⟨(fun h => by cases h), fun i hi => ⟨a, rfl, (hS i hi).1⟩, fun i hi => (hS i hi).2⟩⟩
end Go.Proofs.Ytjnlfnecmiklhaa
