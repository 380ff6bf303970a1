/-
  Layer 6: a Value that came in, as its cells hold it, to any depth. No condition but that it is read.
-/
import Derived.Test.YtcbgjkedmboifabLibB
import Derived.Deep.Slices
import Derived.OpenShut
namespace Go.Proofs.Ytcbgjkedmboifab
open Go.ChangeShapes Go.WideShapes Go.ChangeAt Go.RowKit Go.Deep
set_option linter.unusedVariables false
theorem cellsV6 : Try.prog.cellsOf 24 = 4 := by kernel_rfl
theorem cellsI6 : Try.prog.cellsOf 3 = 1 := by kernel_rfl
theorem cellsL6 : Try.prog.cellsOf 2 = 1 := by kernel_rfl
theorem cellsS6 : Try.prog.cellsOf 9 = 1 := by kernel_rfl
theorem cellsVs6 : Try.prog.cellsOf 22 = 1 := by kernel_rfl
theorem add_pos6 (y : Addr) (j : Nat) : y.add (j + 1) = ⟨y.block, y.off + (j + 1), none⟩ := by
  unfold Addr.add; rw [if_neg (by omega)]
/-- A Value's four cells, and those of its parts, to a depth. -/
def VOk (w : World) : Nat → List Value → Prop
  | 0, _ => True
  | d + 1, cs => ∃ (k n : Int) (s : ByteArray) (al : Option Addr) (len cap : Nat), cs = [.int .i64 k, .int .i64 n, .string s, .slice al len cap] ∧ RI k ∧ RI n ∧ s.size ≤ maxLen ∧ len ≤ maxLen ∧
      ∀ i, i < len → ∃ (a : Addr) (c0 c1 c2 c3 : Value), al = some a ∧ w.cell? (a.add (i * 4)) = some c0 ∧ w.cell? ⟨(a.add (i * 4)).block, (a.add (i * 4)).off + 1, none⟩ = some c1 ∧ w.cell? ⟨(a.add (i * 4)).block, (a.add (i * 4)).off + 2, none⟩ = some c2 ∧ w.cell? ⟨(a.add (i * 4)).block, (a.add (i * 4)).off + 3, none⟩ = some c3 ∧ VOk w d [c0, c1, c2, c3]
set_option maxRecDepth 100000 in
theorem value_open {H : Type} {enc : TypeId × Value → H} {w : World} {base : Nat} {spare : Nat → Bool} {held : Bool} : ∀ (d : Nat) {fuel : Nat} {cs : List Value} {x : DataW H × List MemPlace}, DataW.trod enc Try.prog w base spare held fuel 24 cs = some x → VOk w d cs
  | 0, _, _, _, _ => trivial
  | d + 1, fuel, cs, x, h => by
    obtain ⟨xs, n', _, _, hlen, hxl, hf⟩ := DataW.trod_struct Try.underlying24 h
    rw [cellsV6] at hlen
    match cs, hlen with
    | [c0, c1, c2, c3], _ =>
      have f0 := hf 0 _ rfl
      have f1 := hf 1 _ rfl
      have f2 := hf 2 _ rfl
      have f3 := hf 3 _ rfl
      have hs : xs.length = 4 := hxl
      rw [List.getElem?_eq_getElem (by omega)] at f0 f1 f2 f3
      obtain ⟨z0, e0, _, w0⟩ := DataW.trod_int Try.underlying3 f0
      obtain ⟨z1, e1, _, w1⟩ := DataW.trod_int Try.underlying2 f1
      obtain ⟨z2, e2, _, w2⟩ := DataW.trod_string Try.underlying9 f2
      obtain rfl : c0 = .int .i64 z0 := by simpa [cellsI6] using e0
      obtain rfl : c1 = .int .i64 z1 := by simpa [cellsL6] using e1
      obtain rfl : c2 = .string z2 := by simpa [cellsS6] using e2
      rcases open_slice Try.underlying22 f3 with ⟨hcs, _⟩ | ⟨a, l, c, m, n, D, Pl, hcs, _, hl, hm, hmm, _, hx⟩
      · obtain rfl : c3 = .slice none 0 0 := by simpa [cellsVs6] using hcs
        exact ⟨z0, z1, z2, none, 0, 0, rfl, bounds_i64 w0, bounds_i64 w1, w2, Nat.zero_le _, fun i hi => absurd hi (Nat.not_lt_zero _)⟩
      · obtain rfl : c3 = .slice (some a) l c := by simpa [cellsVs6] using hcs
        have hlm : l ≤ m := by rw [hmm]; split <;> omega
        refine ⟨z0, z1, z2, some a, l, c, rfl, bounds_i64 w0, bounds_i64 w1, w2, by omega, fun i hi => ?_⟩
        obtain ⟨cs', h1, h2⟩ := hx i (by omega)
        rw [cellsV6] at h1
        obtain ⟨_, hlen', hcell⟩ := World.cells?_some h1
        match cs', hlen' with
        | [d0, d1, d2, d3], _ =>
          have k0 := hcell 0 (by omega)
          have k1 := hcell 1 (by omega)
          have k2 := hcell 2 (by omega)
          have k3 := hcell 3 (by omega)
          rw [add_pos6] at k1 k2 k3
          exact ⟨a, d0, d1, d2, d3, rfl, k0, k1, k2, k3, value_open d h2⟩
end Go.Proofs.Ytcbgjkedmboifab
