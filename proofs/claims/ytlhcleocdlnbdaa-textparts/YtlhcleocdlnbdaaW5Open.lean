/-
  A slice of words that came in is no longer than its room; bytes as they come in. No condition but that it is read.
-/
import Derived.Test.YtlhcleocdlnbdaaL3Open
import Derived.Test.YtlhcleocdlnbdaaLibC
namespace Go.Proofs.Ytlhcleocdlnbdaa
open Go.ChangeShapes Go.WideShapes Go.ChangeAt Go.RowKit Go.Deep
set_option linter.unusedVariables false
theorem words_cap {H : Type} {enc : TypeId × Value → H} {w : World} {base : Nat} {spare : Nat → Bool} {held : Bool} {fuel : Nat} {al : Option Addr} {len cap : Nat} {x : DataW H × List MemPlace}
    (h : DataW.trod enc Try.prog w base spare held fuel 27 [.slice al len cap] = some x) : len ≤ cap := by
  rcases open_slice Try.underlying27 h with ⟨hcs, _⟩ | ⟨a, l, c, m, n, D, Pl, hcs, _, hl, hm, hmm, _, hx⟩
  · simp at hcs
    obtain ⟨rfl, rfl, rfl⟩ := hcs
    exact Nat.le_refl _
  · simp at hcs
    obtain ⟨rfl, rfl, rfl⟩ := hcs
    omega
theorem byte_is {x : Int} (h0 : 0 ≤ x) (h1 : x ≤ 255) : ∃ b : UInt8, x = b.toNat := ⟨UInt8.ofNat x.toNat, by rw [UInt8.toNat_ofNat']; omega⟩
end Go.Proofs.Ytlhcleocdlnbdaa
