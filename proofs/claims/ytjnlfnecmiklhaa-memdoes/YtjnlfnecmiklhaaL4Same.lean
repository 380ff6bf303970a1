/-
  Layer 4's statements: what their comparisons say of rows that hold the same.
-/
import Derived.Test.YtjnlfnecmiklhaaL4Mach
namespace Go.Proofs.Ytjnlfnecmiklhaa
open Go.ChangeShapes Go.WideShapes Go.ChangeAt Go.RowKit Go.Deep
set_option linter.unusedVariables false
set_option maxHeartbeats 1000000

/-- A slice of numbers lies in memory. -/
structure IS (w : World) (al : Option Addr) (m : Nat) (X : Nat → Int) : Prop where
  cell : ∀ i, i < m → ∃ ad, al = some ad ∧ w.cell? (ad.add i) = some (.int .i64 (X i))
theorem IS.frame {w w' : World} {al : Option Addr} {m : Nat} {X : Nat → Int} {S : Nat → Prop} (h : IS w al m X) (k : Only S w w') (hs : ∀ ad, al = some ad → 0 < m → ¬ S ad.block) : IS w' al m X := by
  refine ⟨fun i hi => ?_⟩
  obtain ⟨ad, e, hc⟩ := h.cell i hi
  refine ⟨ad, e, (World.cell?_of_block (w := w) (k.block _ (cell_lt hc) ?_)).trans hc⟩
  rw [add_block]; exact hs ad e (by omega)
/-- What went wrong, in a row. -/
theorem is_of_row {w : World} {B g n c : Nat} {e : TypeId} {E : Nat → Int} (h : w.ownsRow B e 1 (.slice (some ⟨g, 0, none⟩) n c) n (rowE E n)) : IS w (some ⟨g, 0, none⟩) n E := by
  rcases h.2 with ⟨h', _⟩ | ⟨g', cap', cur, h', hb, hg, hnc, _, hcs, htake⟩
  · simp at h'
  · simp only [Value.slice.injEq, Option.some.injEq, Addr.mk.injEq, and_true, true_and] at h'
    obtain ⟨rfl, rfl⟩ := h'
    refine ⟨fun i hi => ⟨_, rfl, ?_⟩⟩
    have : (cur.toList.take (n * 1))[i]? = some (.int .i64 (E i)) := by rw [htake]; unfold rowE; simp [hi]
    rw [List.getElem?_take, if_pos (by omega)] at this
    have e : (Addr.mk g 0 none).add i = ⟨g, i, none⟩ := by
      cases i with
      | zero => rfl
      | succ i => simp [Addr.add]
    rw [e]
    have h2 : cur[i]? = some (.int .i64 (E i)) := by simpa using this
    simp [World.cell?, hg, h2]
theorem same4_yes {a1 a2 : Option Addr} {m c1 c2 : Nat} {X Y : Nat → Int} (w : World) (h1 : WS w a1 m c1 X) (h2 : WS w a2 m c2 Y) (hm : m ≤ maxLen) (he : ∀ i, i < m → X i = Y i) :
    Calls Try.prog 13 #[.slice a1 m c1, .slice a2 m c2] w fun e w' => e = .returned (.bool true) ∧ ∃ k, w' = w.drewN k := by
  unfold maxLen at hm
  have HE : Hid _ := he
  clear he
  go_enter Try.func13, Try.ntmps13
  go_wp2
  go_loopw [13] (fun i wr => ∃ j k : Nat, j ≤ m ∧ i = .int .i64 j ∧ wr = w.drewN k) (fun i _ => m - (intOf i).toNat)
  case atStart => exact ⟨0, 0, Nat.zero_le _, rfl, rfl⟩
  case round =>
    obtain ⟨j, k, hj, rfl, hw⟩ := hrel
    have HW : Hid _ := hw
    by_cases hlt : j < m
    · obtain ⟨x, rfl, hx⟩ := h1.cell j hlt
      obtain ⟨y, rfl, hy⟩ := h2.cell j hlt
      have hx' : wr.cell? (x.add j) = some (.int .u64 (X j)) := by rw [hw]; exact hx
      have hy' : wr.cell? (y.add j) = some (.int .u64 (X j)) := by rw [hw, HE.out j hlt]; exact hy
      have x1 : (0 : Int) ≤ (j : Int) := by omega
      have x2 : (j : Int) < (m : Int) := by omega
      clear hw hx hy
      go_wp2
      go_quiet (fail)
      go_wp2
      go_roundw
      case rel => exact ⟨j + 1, _, by omega, by go_num, by rw [HW.out]; exact World.drewN_drewN _ _ _⟩
      case measure => simp [intOf]; omega
    · clear hw
      go_wp2
      go_ret
      exact ⟨rfl, k, HW.out⟩
theorem sameErrs_yes {a1 a2 : Option Addr} {m c1 c2 : Nat} {X Y : Nat → Int} (w : World) (h1 : IS w a1 m X) (h2 : IS w a2 m Y) (hm : m ≤ maxLen) (he : ∀ i, i < m → X i = Y i) :
    Calls Try.prog 14 #[.slice a1 m c1, .slice a2 m c2] w fun e w' => e = .returned (.bool true) ∧ ∃ k, w' = w.drewN k := by
  unfold maxLen at hm
  have HE : Hid _ := he
  clear he
  go_enter Try.func14, Try.ntmps14
  go_wp2
  go_loopw [13] (fun i wr => ∃ j k : Nat, j ≤ m ∧ i = .int .i64 j ∧ wr = w.drewN k) (fun i _ => m - (intOf i).toNat)
  case atStart => exact ⟨0, 0, Nat.zero_le _, rfl, rfl⟩
  case round =>
    obtain ⟨j, k, hj, rfl, hw⟩ := hrel
    have HW : Hid _ := hw
    by_cases hlt : j < m
    · obtain ⟨x, rfl, hx⟩ := h1.cell j hlt
      obtain ⟨y, rfl, hy⟩ := h2.cell j hlt
      have hx' : wr.cell? (x.add j) = some (.int .i64 (X j)) := by rw [hw]; exact hx
      have hy' : wr.cell? (y.add j) = some (.int .i64 (X j)) := by rw [hw, HE.out j hlt]; exact hy
      have x1 : (0 : Int) ≤ (j : Int) := by omega
      have x2 : (j : Int) < (m : Int) := by omega
      clear hw hx hy
      go_wp2
      go_quiet (fail)
      go_wp2
      go_roundw
      case rel => exact ⟨j + 1, _, by omega, by go_num, by rw [HW.out]; exact World.drewN_drewN _ _ _⟩
      case measure => simp [intOf]; omega
    · clear hw
      go_wp2
      go_ret
      exact ⟨rfl, k, HW.out⟩
theorem sameNums_yes {a1 a2 : Option Addr} {m c1 c2 : Nat} {X Y : Nat → Int} (w : World) (h1 : IS w a1 m X) (h2 : IS w a2 m Y) (hm : m ≤ maxLen) (he : ∀ i, i < m → X i = Y i) :
    Calls Try.prog 24 #[.slice a1 m c1, .slice a2 m c2] w fun e w' => e = .returned (.bool true) ∧ ∃ k, w' = w.drewN k := by
  unfold maxLen at hm
  have HE : Hid _ := he
  clear he
  go_enter Try.func24, Try.ntmps24
  go_wp2
  go_loopw [13] (fun i wr => ∃ j k : Nat, j ≤ m ∧ i = .int .i64 j ∧ wr = w.drewN k) (fun i _ => m - (intOf i).toNat)
  case atStart => exact ⟨0, 0, Nat.zero_le _, rfl, rfl⟩
  case round =>
    obtain ⟨j, k, hj, rfl, hw⟩ := hrel
    have HW : Hid _ := hw
    by_cases hlt : j < m
    · obtain ⟨x, rfl, hx⟩ := h1.cell j hlt
      obtain ⟨y, rfl, hy⟩ := h2.cell j hlt
      have hx' : wr.cell? (x.add j) = some (.int .i64 (X j)) := by rw [hw]; exact hx
      have hy' : wr.cell? (y.add j) = some (.int .i64 (X j)) := by rw [hw, HE.out j hlt]; exact hy
      have x1 : (0 : Int) ≤ (j : Int) := by omega
      have x2 : (j : Int) < (m : Int) := by omega
      clear hw hx hy
      go_wp2
      go_quiet (fail)
      go_wp2
      go_roundw
      case rel => exact ⟨j + 1, _, by omega, by go_num, by rw [HW.out]; exact World.drewN_drewN _ _ _⟩
      case measure => simp [intOf]; omega
    · clear hw
      go_wp2
      go_ret
      exact ⟨rfl, k, HW.out⟩
end Go.Proofs.Ytjnlfnecmiklhaa
