/-
  Layer 5, the program's text: a word's eight bytes, the lowest bits first. No condition but that the word is one.
-/
import Derived.Test.YtcbgjkedmboifabLibC
namespace Go.Proofs.Ytcbgjkedmboifab
open Go.ChangeShapes Go.WideShapes Go.ChangeAt Go.RowKit Go.Deep
set_option linter.unusedVariables false
set_option maxHeartbeats 1000000

/-- Byte i of a number. -/
def byteI (x : Int) (i : Nat) : UInt8 := UInt8.ofNat ((x / 2 ^ (8 * i)) % 256).toNat
/-- Eight bytes as a value. -/
def eightV (f : Nat → UInt8) : Array Value := #[u8v (f 0), u8v (f 1), u8v (f 2), u8v (f 3), u8v (f 4), u8v (f 5), u8v (f 6), u8v (f 7)]
theorem eight_cells {w : World} {b : Nat} {t : TypeId} {f : Nat → Value} (h : w.rowIs b t 8 f) : w.cell? ⟨b, 0, none⟩ = some (f 0) ∧ w.cell? ⟨b, 1, none⟩ = some (f 1) ∧ w.cell? ⟨b, 2, none⟩ = some (f 2) ∧ w.cell? ⟨b, 3, none⟩ = some (f 3) ∧ w.cell? ⟨b, 4, none⟩ = some (f 4) ∧ w.cell? ⟨b, 5, none⟩ = some (f 5) ∧ w.cell? ⟨b, 6, none⟩ = some (f 6) ∧ w.cell? ⟨b, 7, none⟩ = some (f 7) :=
  ⟨h.cell (by decide), h.cell (by decide), h.cell (by decide), h.cell (by decide), h.cell (by decide), h.cell (by decide), h.cell (by decide), h.cell (by decide)⟩
/-- Eight cells that are stored one by one. -/
theorem eight_store {w : World} {b : Nat} {t : TypeId} {f : Nat → Value} (h : w.rowIs b t 8 f) (v0 v1 v2 v3 v4 v5 v6 v7 : Value) :
    ((((((((w.setCell ⟨b, 0, none⟩ v0).setCell ⟨b, 1, none⟩ v1).setCell ⟨b, 2, none⟩ v2).setCell ⟨b, 3, none⟩ v3).setCell ⟨b, 4, none⟩ v4).setCell ⟨b, 5, none⟩ v5).setCell ⟨b, 6, none⟩ v6).setCell ⟨b, 7, none⟩ v7).heap[b]? = some (.cells #[v0, v1, v2, v3, v4, v5, v6, v7] t (0, 0)) := by
  obtain ⟨cur, hc, hs, _⟩ := h
  obtain ⟨l⟩ := cur
  match l, hs with
  | [a0, a1, a2, a3, a4, a5, a6, a7], _ =>
  simp [World.setCell, Array.getElem?_modify, hc]
theorem byteI_v (x : Int) (i : Nat) : u8v (byteI x i) = .int .u8 (x / 2 ^ (8 * i) % 256) := by
  unfold u8v byteI
  rw [ofNat_mod]
def zero8 : Array Value := #[.int .u8 0, .int .u8 0, .int .u8 0, .int .u8 0, .int .u8 0, .int .u8 0, .int .u8 0, .int .u8 0]
theorem zero8_at : ∀ i, i < zero8.size → zero8[i]? = some (.int .u8 0) := by
  intro i hi
  have h8 : zero8.size = 8 := rfl
  rw [h8] at hi
  match i, hi with
  | 0, _ | 1, _ | 2, _ | 3, _ | 4, _ | 5, _ | 6, _ | 7, _ => rfl
theorem e5_bytes (x : Int) (w : World) (h0 : 0 ≤ x) (h1 : x ≤ 18446744073709551615) :
    Calls Try.prog 96 #[.int .u64 x] w fun e w' => e = .returned (.agg (eightV (byteI x))) ∧ Below w.heap.size w w' := by
  go_enter Try.func96, Try.ntmps96
  go_wp2
  go_loopw [5] (fun i wr => ∃ k : Nat, k ≤ 8 ∧ i = .int .i64 k ∧ wr.rowIs (w.heap.size + 1) 130 8 (fun j => if j < k then u8v (byteI x j) else .int .u8 0) ∧ wr.rowIs w.heap.size 130 8 (fun j => .int .u8 0) ∧ Below w.heap.size w wr) (fun i _ => (8 - intOf i).toNat)
  case atStart => exact ⟨0, by omega, rfl, (by have := (w.alloc (.cells zero8 130)).rowIs_alloc zero8 130 (fun _ => .int .u8 0) zero8_at; rw [nblk_alloc] at this; exact this), (w.rowIs_alloc zero8 130 (fun _ => .int .u8 0) zero8_at).alloc _, ((Below.refl _ _).alloc (Nat.le_refl _) _).alloc (by simp) _⟩
  case round =>
    obtain ⟨k, hk, rfl, hr, hz, hb⟩ := hrel
    by_cases hlt : k < 8
    · have hc := hr.cell hlt
      have hf := hr.frozen k
      have HR : Hid _ := hr
      have HZ : Hid _ := hz
      have HB : Hid _ := hb
      clear hr hz hb
      go_wp2
      go_roundw
      case rel => exact ⟨k + 1, by omega, by go_num, World.rowIs.congr (World.rowIs.set HR.out k _) (fun j hj => by
          by_cases e : j = k
          · subst e; rw [if_pos rfl, if_pos (by omega)]; exact (byteI_v x j).symm
          · rw [if_neg e]
            by_cases e2 : j < k
            · rw [if_pos e2, if_pos (by omega)]
            · rw [if_neg e2, if_neg (by omega)]), World.rowIs.setOther HZ.out (by simp) _, HB.out.setCell (by simp) _⟩
      case measure => simp [intOf]; omega
    · have hr' : wr.rowIs (w.heap.size + 1) 130 8 (fun j => .int .u8 ((byteI x j).toNat : Int)) := hr.congr (fun i hi => if_pos (by omega))
      have h8 : ¬ (k : Int) < 8 := by omega
      obtain ⟨c0, c1, c2, c3, c4, c5, c6, c7⟩ := eight_cells hr'
      obtain ⟨d0, d1, d2, d3, d4, d5, d6, d7⟩ := eight_cells hz
      have hf := hz.frozen
      have HZ : Hid _ := hz
      have HB : Hid _ := hb
      clear hr hz hb hr' hlt hk
      go_wp2
      refine bodyPost_ret (results_cell_row rfl _ _ w.heap.size 130 _ (0, 0) _ rfl (eight_store HZ.out _ _ _ _ _ _ _ _) Try.underlying130 rfl (by kernel_rfl)) rfl ⟨rfl, ?_⟩
      exact (((((((HB.out.setCell (by simp) _).setCell (by simp) _).setCell (by simp) _).setCell (by simp) _).setCell (by simp) _).setCell (by simp) _).setCell (by simp) _).setCell (by simp) _
end Go.Proofs.Ytcbgjkedmboifab
