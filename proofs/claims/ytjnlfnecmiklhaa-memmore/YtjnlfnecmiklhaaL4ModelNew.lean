/-
  Layer 4: the document's own machine is made, and handed to play.
-/
import Derived.Test.YtjnlfnecmiklhaaL4ModelDoes
import Derived.Deep.RegionHeld3
import Derived.Laws.EntriesVeiled
namespace Go.Proofs.Ytjnlfnecmiklhaa
open Go.ChangeShapes Go.WideShapes Go.ChangeAt Go.RowKit Go.Deep
set_option linter.unusedVariables false
set_option maxHeartbeats 2000000
theorem cells5 {w : World} {b : Nat} {x0 x1 x2 x3 x4 : Value} {t : TypeId} (h : w.heap[b]? = some (.cells #[x0, x1, x2, x3, x4] t (0, 0))) : (w.cell? ⟨b, 0, none⟩ = some x0 ∧ w.cell? ⟨b, 1, none⟩ = some x1 ∧ w.cell? ⟨b, 2, none⟩ = some x2 ∧ w.cell? ⟨b, 3, none⟩ = some x3 ∧ w.cell? ⟨b, 4, none⟩ = some x4) ∧ ∀ o, w.frozen? ⟨b, o, none⟩ = false := by
  simp [World.cell?, World.frozen?, h]
theorem store5 {w : World} {b : Nat} {x0 x1 x2 x3 x4 : Value} {t : TypeId} (h : w.heap[b]? = some (.cells #[x0, x1, x2, x3, x4] t (0, 0))) (v0 v1 v2 v3 v4 : Value) : (((((w.setCell ⟨b, 0, none⟩ v0).setCell ⟨b, 1, none⟩ v1).setCell ⟨b, 2, none⟩ v2).setCell ⟨b, 3, none⟩ v3).setCell ⟨b, 4, none⟩ v4).heap[b]? = some (.cells #[v0, v1, v2, v3, v4] t (0, 0)) := by
  simp [World.setCell, Array.getElem?_modify, h]
theorem below5 {B b : Nat} {w w' : World} (h : Below B w w') (hb : B ≤ b) (v0 v1 v2 v3 v4 : Value) : Below B w (((((w'.setCell ⟨b, 0, none⟩ v0).setCell ⟨b, 1, none⟩ v1).setCell ⟨b, 2, none⟩ v2).setCell ⟨b, 3, none⟩ v3).setCell ⟨b, 4, none⟩ v4) :=
  ((((h.setCell (p := ⟨b, 0, none⟩) hb v0).setCell (p := ⟨b, 1, none⟩) hb v1).setCell (p := ⟨b, 2, none⟩) hb v2).setCell (p := ⟨b, 3, none⟩) hb v3).setCell (p := ⟨b, 4, none⟩) hb v4
set_option maxRecDepth 100000 in
theorem model_any {kb rb : Nat} (w : World) (m0 : w.cell? ⟨kb, 0, none⟩ = some (.pointer (some ⟨rb, 0, none⟩))) (hk : kb < w.heap.size) : Calls Try.prog 12 #[.pointer (some ⟨kb, 0, none⟩)] w fun e w' => e = .returned (.agg #[.func (.func (modelD kb rb).va.fn) (modelD kb rb).va.first (modelD kb rb).va.cap, .func (.func (modelD kb rb).vf.fn) (modelD kb rb).vf.first (modelD kb rb).vf.cap, .func (.func (modelD kb rb).vg.fn) (modelD kb rb).vg.first (modelD kb rb).vg.cap, .func (.func (modelD kb rb).vs.fn) (modelD kb rb).vs.first (modelD kb rb).vs.cap, .func (.func (modelD kb rb).vz.fn) (modelD kb rb).vz.first (modelD kb rb).vz.cap]) ∧ Below w.heap.size w w' := by
  have hb1 : Below w.heap.size w (w.alloc (.cells #[.nilFunc, .nilFunc, .nilFunc, .nilFunc, .nilFunc] 38)) := (Below.refl _ _).alloc (Nat.le_refl _) _
  have n1 : (w.alloc (.cells #[.nilFunc, .nilFunc, .nilFunc, .nilFunc, .nilFunc] 38)).heap[w.heap.size]? = some (.cells #[.nilFunc, .nilFunc, .nilFunc, .nilFunc, .nilFunc] 38 (0, 0)) := blk_alloc_new _ _
  have m1 : (w.alloc (.cells #[.nilFunc, .nilFunc, .nilFunc, .nilFunc, .nilFunc] 38)).cell? ⟨kb, 0, none⟩ = some (.pointer (some ⟨rb, 0, none⟩)) := (hb1.cell (p := ⟨kb, 0, none⟩) hk).trans m0
  have HB := hidden hb1
  have HN := hidden n1
  obtain ⟨⟨q0, q1, q2, q3, q4⟩, q5⟩ := cells5 n1
  clear hb1 n1 m0
  go_enter Try.func12, Try.ntmps12
  go_wp2_with fail
  generalize w.alloc (.cells #[.nilFunc, .nilFunc, .nilFunc, .nilFunc, .nilFunc] 38) = w1 at *
  go_region
  all_goals
    go_wp2_with fail
    (try simp only [Exit.inBlock, Exit.then])
    refine bodyPost_ret (results_cell_row rfl _ _ w.heap.size 38 _ (0, 0) _ rfl (store5 (w := w1.drew) HN.out _ _ _ _ _) Try.underlying38 rfl (by kernel_rfl)) rfl ?_
    exact ⟨rfl, below5 (below_drewN HB.out 1) (Nat.le_refl _) _ _ _ _ _⟩
theorem good_new {n : Nat} (h1 : 2 ≤ n) (h2 : n ≤ 32768) : ∃ s, Good s ⟨n, 0, []⟩ :=
  valid_good ⟨Nat.zero_le _, h1, h2, Nat.zero_le _, fun i b hb => by simp at hb, fun i b hb => by simp at hb, fun i b hb => by simp at hb, fun i b hb => by simp at hb⟩
/-- What New hands back, and how all lies then. -/
def New4As (n : Nat) (w : World) (e : Ending) (w' : World) : Prop := ∃ kb rb, e = .returned (.pointer (some ⟨kb, 0, none⟩)) ∧ MI kb rb w' ⟨n, 0, []⟩ 0 (none, 0, fun _ => .slice none 0 0) ∧ Below w.heap.size w w' ∧ w.heap.size ≤ kb ∧ w.heap.size ≤ rb
theorem r4new_yes (n : Nat) (w : World) (h1 : 2 ≤ n) (h2 : n ≤ 32768) (h4 : 4 ≤ w.heap.size) : Calls Try.prog 9 #[.int .i64 n] w fun e w' => New4As n w e w' := by
  have HG := hidden (good_new h1 h2)
  go_enter Try.func9, Try.ntmps9
  go_wp2_with (go_at_call 30; refine (rnew_yes (n : Int) _ (by omega) (by omega)).mono ?_; rintro e w1 ⟨rfl, rf1, b1⟩; rw [Int.toNat_natCast] at rf1)
  go_ret
  have hrb := lt_of_some rf1.hr
  refine ⟨w1.heap.size, w.heap.size, rfl, ⟨rf1.frame (S := fun _ => False) ((Only.refl _ _).alloc _) (fun _ _ => id), HG.out, blk_alloc_new _ _, h4⟩, b1.alloc b1.size _, by omega, Nat.le_refl _⟩
theorem r4new_no (n : Int) (w : World) (h : n < 2 ∨ 32768 < n) : Calls Try.prog 9 #[.int .i64 n] w fun e w' => e = .returned (.pointer none) ∧ w' = w := by
  go_enter Try.func9, Try.ntmps9
  go_wp2_with (go_at_call 30; refine (rnew_no n _ h).mono ?_; rintro e w1 ⟨rfl, hw⟩; rw [hw]; clear hw w1)
  go_ret
  exact ⟨rfl, rfl⟩
end Go.Proofs.Ytjnlfnecmiklhaa
