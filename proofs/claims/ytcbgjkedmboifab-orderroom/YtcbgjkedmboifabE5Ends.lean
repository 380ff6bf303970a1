/-
  Layer 5, the program's text: how many bytes of a text its last field has. No condition.
-/
import Derived.Test.YtcbgjkedmboifabE5Begin
namespace Go.Proofs.Ytcbgjkedmboifab
open Go.ChangeShapes Go.WideShapes Go.ChangeAt Go.RowKit Go.Deep
set_option linter.unusedVariables false
set_option maxHeartbeats 1000000

/-- Are the bytes from 7 - left on, but for the last one, all 0? -/
def noneB (f : Nat → UInt8) (left : Nat) : Bool := (List.range left).all fun i => f (7 - left + i) == 0
/-- What end tells. -/
def endB (f : Nat → UInt8) : Int × Bool := if 7 < (f 7).toNat then (0, false) else if noneB f (f 7).toNat = true then (7 - ((f 7).toNat : Int), true) else (0, false)
theorem eight_lit (f : Nat → UInt8) : eightV f = #[.int .u8 ((f 0).toNat : Int), .int .u8 ((f 1).toNat : Int), .int .u8 ((f 2).toNat : Int), .int .u8 ((f 3).toNat : Int), .int .u8 ((f 4).toNat : Int), .int .u8 ((f 5).toNat : Int), .int .u8 ((f 6).toNat : Int), .int .u8 ((f 7).toNat : Int)] := rfl
theorem u8_zero {c : UInt8} (h : (c.toNat : Int) = 0) : c = 0 := by
  have : c.toNat = (0 : UInt8).toNat := by show c.toNat = 0; omega
  exact UInt8.toNat_inj.1 this
theorem end_yes (f : Nat → UInt8) (h7 : ¬ 7 < (f 7).toNat) : ((∀ j, j < (f 7).toNat → f (7 - (f 7).toNat + j) = 0) → endB f = (7 - ((f 7).toNat : Int), true)) ∧ ((∃ j, j < (f 7).toNat ∧ f (7 - (f 7).toNat + j) ≠ 0) → endB f = (0, false)) := by
  unfold endB
  rw [if_neg h7]
  have hb : noneB f (f 7).toNat = true ↔ ∀ j, j < (f 7).toNat → f (7 - (f 7).toNat + j) = 0 := by unfold noneB; simp
  constructor
  · intro h; rw [if_pos (hb.2 h)]
  · rintro ⟨j, hj, hn⟩
    rw [if_neg (fun c => hn (hb.1 c j hj))]
set_option maxRecDepth 20000 in
theorem e5_end (f : Nat → UInt8) (w : World) :
    Calls Try.prog 95 #[.agg (eightV f)] w fun e w' => e = .returned (.tuple #[.int .i64 (endB f).1, .bool (endB f).2]) ∧ Below w.heap.size w w' := by
  have hr : (w.alloc (.cells (eightV f) 130)).rowIs w.heap.size 130 8 (fun i => .int .u8 ((f i).toNat : Int)) := w.rowIs_alloc (eightV f) 130 _ (fun i hi => eight_at f hi)
  have h255 := u8_lt (f 7)
  by_cases h7 : 7 < (f 7).toNat
  · have h7' : 7 < ((f 7).toNat : Int) := by omega
    have h8 : ((f 7).toNat : Int) < 256 := by omega
    clear hr
    rw [eight_lit]
    go_enter Try.func95, Try.ntmps95
    go_wp2
    go_ret2
    exact ⟨by unfold endB; rw [if_pos h7]; rfl, (Below.refl _ _).alloc (Nat.le_refl _) _⟩
  · have h7' : ((f 7).toNat : Int) ≤ 7 := by omega
    have l0 : (0 : Int) ≤ 7 - ((f 7).toNat : Int) := by omega
    have l1 : 7 - ((f 7).toNat : Int) ≤ (7 : Int) := by omega
    have HR : Hid _ := hr
    clear hr
    rw [eight_lit]
    go_enter Try.func95, Try.ntmps95
    go_wp2
    simp only [← eight_lit]
    have hb : Below w.heap.size w (w.alloc (.cells (eightV f) 130)) := (Below.refl _ _).alloc (Nat.le_refl _) _
    generalize w.alloc (.cells (eightV f) 130) = w1 at *
    have hcells : ∀ i, i < 8 → w1.cell? ⟨w.heap.size, i, none⟩ = some (.int .u8 ((f i).toNat : Int)) := fun i hi => World.rowIs.cell HR.out hi
    have HE : Hid _ := end_yes f h7
    clear HR h255 l0 l1
    rw [show 7 - (7 - (f 7).toNat) = (f 7).toNat from by omega]
    have hc7 : (f 7).toNat ≤ 7 := by omega
    generalize (f 7).toNat = c at *
    go_loop [18] (fun i => ∃ k : Nat, k ≤ c ∧ i = .int .i64 k ∧ ∀ j, j < k → f (7 - c + j) = 0) (fun i => (c - intOf i).toNat)
    case atStart => exact ⟨0, by omega, rfl, fun j hj => absurd hj (Nat.not_lt_zero _)⟩
    case round =>
      obtain ⟨k, hk, rfl, hall⟩ := hrel
      have HA : Hid _ := hall
      clear hall
      by_cases hlt : k < c
      · have hcell := hcells (7 - c + k) (by omega)
        by_cases hz : f (7 - c + k) = 0
        · have hz2 : ((f (7 - c + k)).toNat : Int) = 0 := by rw [hz]; rfl
          rw [hz2] at hcell
          have HZ : Hid _ := hz
          clear hz hz2 hcells
          go_wp2
          go_round
          case rel => exact ⟨k + 1, by omega, by go_num, fun j hj => by
            by_cases e : j = k
            · rw [e]; exact HZ.out
            · exact HA.out j (by omega)⟩
          case measure => simp [intOf]; omega
        · have hz2 : ((f (7 - c + k)).toNat : Int) ≠ 0 := fun e => hz (u8_zero e)
          have HZ : Hid _ := hz
          clear hz hcells
          go_wp2
          go_ret2
          exact ⟨by rw [HE.out.2 ⟨k, hlt, HZ.out⟩]; rfl, hb⟩
      · clear hcells
        go_wp2
        go_ret2
        exact ⟨by rw [HE.out.1 (fun j hj => HA.out j (by omega))]; rfl, hb⟩
end Go.Proofs.Ytcbgjkedmboifab
