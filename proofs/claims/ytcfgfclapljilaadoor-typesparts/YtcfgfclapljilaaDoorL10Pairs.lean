/-
 Layer 10: pairs of types that came in, as their cells hold them. No condition but that they are read.
-/
import Derived.Test.YtcfgfclapljilaaDoorM10Mem
namespace Go.Proofs.YtcfgfclapljilaaDoor
open Go.ChangeShapes Go.WideShapes Go.ChangeAt Go.RowKit Go.Deep
set_option linter.unusedVariables false
set_option linter.unusedSimpArgs false
set_option maxHeartbeats 2000000
theorem cellsP10 : Tryd.prog.cellsOf 38 = 6 := by kernel_rfl
def POk (P : Nat → Prop) (w : World) (d : Nat) (al : Option Addr) (n : Nat) : Prop := n ≤ maxLen ∧ ∀ i, i < n → ∃ (a : Addr) (c0 c1 c2 c3 c4 c5 : Value), al = some a ∧ P (a.add (i * 6)).block ∧ w.cell? (a.add (i * 6)) = some c0 ∧ w.cell? ⟨(a.add (i * 6)).block, (a.add (i * 6)).off + 1, none⟩ = some c1 ∧ w.cell? ⟨(a.add (i * 6)).block, (a.add (i * 6)).off + 2, none⟩ = some c2 ∧ w.cell? ⟨(a.add (i * 6)).block, (a.add (i * 6)).off + 3, none⟩ = some c3 ∧ w.cell? ⟨(a.add (i * 6)).block, (a.add (i * 6)).off + 4, none⟩ = some c4 ∧ w.cell? ⟨(a.add (i * 6)).block, (a.add (i * 6)).off + 5, none⟩ = some c5 ∧ TOk P w d [c0, c1, c2] ∧ TOk P w d [c3, c4, c5]
set_option maxRecDepth 100000 in
theorem pairs_open {H : Type} {enc : TypeId × Value → H} {w : World} {base : Nat} {spare : Nat → Bool} {held : Bool} (d : Nat) {fuel : Nat} {al : Option Addr} {len cap : Nat} {x : DataW H × List MemPlace} (h : DataW.trod enc Tryd.prog w base spare held fuel 34 [.slice al len cap] = some x) : POk (fun g => g < w.heap.size) w d al len := by
 rcases open_slice Tryd.underlying34 h with ⟨hcs, _⟩ | ⟨a, l, c, m, n, D, Pl, hcs, _, hl, hm, hmm, _, hx⟩
 ·simp only [List.cons.injEq, Value.slice.injEq, and_true] at hcs
  obtain ⟨rfl, rfl, rfl⟩ := hcs
  exact ⟨Nat.zero_le _, fun i hi => absurd hi (Nat.not_lt_zero _)⟩
 ·simp only [List.cons.injEq, Value.slice.injEq, and_true] at hcs
  obtain ⟨rfl, rfl, rfl⟩ := hcs
  have hlm : len ≤ m := by rw [hmm]; split <;> omega
  refine ⟨by omega, fun i hi => ?_⟩
  obtain ⟨cs', h1, h2⟩ := hx i (by omega)
  rw [cellsP10] at h1
  obtain ⟨_, hlen', hcell⟩ := World.cells?_some h1
  obtain ⟨xs, n', _, _, hlen, hxl, hf⟩ := DataW.trod_struct Tryd.underlying38 h2
  match cs', hlen' with
  | [d0, d1, d2, d3, d4, d5], _ =>
   have f0 := hf 0 _ rfl
   have f1 := hf 1 _ rfl
   have hs : xs.length = 2 := hxl
   rw [List.getElem?_eq_getElem (by omega)] at f0 f1
   have t0 := type_open d f0
   have t1 := type_open d f1
   have e0 : (List.drop 0 [d0, d1, d2, d3, d4, d5]).take 3 = [d0, d1, d2] := rfl
   have k0 := hcell 0 (by omega)
   have k1 := hcell 1 (by omega)
   have k2 := hcell 2 (by omega)
   have k3 := hcell 3 (by omega)
   have k4 := hcell 4 (by omega)
   have k5 := hcell 5 (by omega)
   rw [add_pos10] at k1 k2 k3 k4 k5
   refine ⟨a, d0, d1, d2, d3, d4, d5, rfl, cell_ltT k0, k0, k1, k2, k3, k4, k5, ?_, ?_⟩
   ·simpa [cellsT10] using t0
   ·simpa [cellsT10] using t1
end Go.Proofs.YtcfgfclapljilaaDoor
