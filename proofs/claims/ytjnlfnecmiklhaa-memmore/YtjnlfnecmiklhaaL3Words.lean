/-
  Layer 3's statements: what their helpers equal, word and words tell, by plain arithmetic. Condition: the slices lie in memory.
-/
import Derived.Test.YtjnlfnecmiklhaaBlocks
import Derived.Test.YtjnlfnecmiklhaaRefWords
namespace Go.Proofs.Ytjnlfnecmiklhaa
open Go.ChangeShapes Go.WideShapes Go.ChangeAt Go.RowKit Go.Deep
set_option linter.unusedVariables false
set_option maxHeartbeats 1000000

/-- A slice value of m words lies in memory, wherever it came from. -/
structure WS (w : World) (al : Option Addr) (m c : Nat) (X : Nat → Int) : Prop where
  nil : al = none → m = 0 ∧ c = 0
  cell : ∀ i, i < m → ∃ ad, al = some ad ∧ w.cell? (ad.add i) = some (.int .u64 (X i))
  lo : ∀ i, i < m → 0 ≤ X i
  hi : ∀ i, i < m → X i ≤ 18446744073709551615
theorem add_block (a : Addr) (i : Nat) : (a.add i).block = a.block := by unfold Addr.add; split <;> rfl
theorem cell_lt {w : World} {x : Addr} {v : Value} (hc : w.cell? x = some v) : x.block < w.heap.size := by
  by_cases hb : x.block < w.heap.size
  · exact hb
  · exfalso
    unfold World.cell? at hc
    rw [Array.getElem?_eq_none (by omega)] at hc
    cases hc
theorem WS.frame {w w' : World} {al : Option Addr} {m c : Nat} {X : Nat → Int} {S : Nat → Prop} (h : WS w al m c X) (k : Only S w w') (hs : ∀ ad, al = some ad → ad.block < w.heap.size → ¬ S ad.block) : WS w' al m c X := by
  refine ⟨h.nil, fun i hi => ?_, h.lo, h.hi⟩
  obtain ⟨ad, e, hc⟩ := h.cell i hi
  have hl := cell_lt hc
  refine ⟨ad, e, (World.cell?_of_block (w := w) (k.block _ hl ?_)).trans hc⟩
  rw [add_block] at hl ⊢
  exact hs ad e hl
theorem WS.below {w w' : World} {al : Option Addr} {m c : Nat} {X : Nat → Int} (h : WS w al m c X) (k : Below w.heap.size w w') : WS w' al m c X :=
  h.frame (S := fun _ => False) (Only.of_below k) (fun _ _ _ => id)
theorem WS.drewN {w : World} {al : Option Addr} {m c : Nat} {X : Nat → Int} (h : WS w al m c X) (n : Nat) : WS (w.drewN n) al m c X := ⟨h.nil, h.cell, h.lo, h.hi⟩
theorem ws_own {w : World} {g m c : Nat} {X : Nat → Int} (h : Own w g m X) (lo : ∀ i, i < m → 0 ≤ X i) (hi : ∀ i, i < m → X i ≤ 18446744073709551615) : WS w (some ⟨g, 0, none⟩) m c X := by
  refine ⟨fun h => (by cases h), fun i hi' => ⟨_, rfl, ?_⟩, lo, hi⟩
  have e : (Addr.mk g 0 none).add i = ⟨g, i, none⟩ := by
    cases i with
    | zero => rfl
    | succ i => simp [Addr.add]
  rw [e]; exact h.cell hi'
/-- What a number stands for. -/
def wordV (x : Int) (m : Nat) (X : Nat → Int) : Int := if 1048576 ≤ x ∧ x < 1048640 then headW 201 (x - 1048576) else if 1048576 ≤ x ∨ m = 0 then x else (X ((x % 64) % m).toNat + 2 * (x / 64 % 8)) % 18446744073709551616
theorem wordV_lo {x : Int} {m : Nat} {X : Nat → Int} (h0 : 0 ≤ x) : 0 ≤ wordV x m X := by
  unfold wordV
  split
  · unfold headW; split; omega; exact intW_lo _
  · split <;> omega
theorem wordV_hi {x : Int} {m : Nat} {X : Nat → Int} (h1 : x ≤ 18446744073709551615) : wordV x m X ≤ 18446744073709551615 := by
  unfold wordV
  split
  · unfold headW; split; omega; exact intW_hi _
  · split <;> omega
theorem ws_any {w w' : World} {ba : Option Addr} {m bc : Nat} {X : Nat → Int} (u1 : ba = none → m = 0 ∧ bc = 0) (u2 : ∀ ad, ba = some ad → ∃ g, ad = ⟨g, 0, none⟩ ∧ w.heap.size ≤ g ∧ Own w' g m X) (lo : ∀ i, i < m → 0 ≤ X i) (hi : ∀ i, i < m → X i ≤ 18446744073709551615) : WS w' ba m bc X := by
  cases ba with
  | none => exact ⟨u1, fun i h => by have := (u1 rfl).1; omega, lo, hi⟩
  | some ad =>
    obtain ⟨g, rfl, _, ho⟩ := u2 ad rfl
    exact ws_own ho lo hi
theorem blkW_lo (s : St) (r : RS) (i : Nat) : 0 ≤ blkW s r i := by unfold blkW; omega
theorem blkW_hi {w : World} {p : Pl} {s : St} {r : RS} (h : Ar w p s) (hr : Rep s r) (i : Nat) : blkW s r i ≤ 18446744073709551615 := by
  have := lenB_take_all r.L i; have := hr.top; have := h.t2; have := h.n2; have := h.b1
  unfold blkW; omega
end Go.Proofs.Ytjnlfnecmiklhaa
