/-
  Layer 4's statements: what real hands to play.
-/
import Derived.Test.YtjnlfnecmiklhaaP4Does
import Derived.Test.YtjnlfnecmiklhaaL4ModelNew
namespace Go.Proofs.Ytjnlfnecmiklhaa
open Go.ChangeShapes Go.WideShapes Go.ChangeAt Go.RowKit Go.Deep
set_option linter.unusedVariables false
set_option maxHeartbeats 2000000
/-- What play is handed. -/
def Doer.agg {τ : Type} (d : Doer τ) : Value := .agg #[.func (.func d.va.fn) d.va.first d.va.cap, .func (.func d.vf.fn) d.vf.first d.vf.cap, .func (.func d.vg.fn) d.vg.first d.vg.cap, .func (.func d.vs.fn) d.vs.first d.vs.cap, .func (.func d.vz.fn) d.vz.first d.vz.cap]
set_option maxRecDepth 100000 in
theorem real_any {kb : Nat} {p : Pl} (w : World) (m0 : w.cell? ⟨kb, 0, none⟩ = some (.pointer (some ⟨p.a, 0, none⟩))) (hk : kb < w.heap.size) : Calls Try.prog 11 #[.pointer (some ⟨kb, 0, none⟩)] w fun e w' => e = .returned (realD kb p).agg ∧ Below w.heap.size w w' := by
  have hb1 : Below w.heap.size w (w.alloc (.cells #[.nilFunc, .nilFunc, .nilFunc, .nilFunc, .nilFunc] 38)) := (Below.refl _ _).alloc (Nat.le_refl _) _
  have n1 : (w.alloc (.cells #[.nilFunc, .nilFunc, .nilFunc, .nilFunc, .nilFunc] 38)).heap[w.heap.size]? = some (.cells #[.nilFunc, .nilFunc, .nilFunc, .nilFunc, .nilFunc] 38 (0, 0)) := blk_alloc_new _ _
  have m1 : (w.alloc (.cells #[.nilFunc, .nilFunc, .nilFunc, .nilFunc, .nilFunc] 38)).cell? ⟨kb, 0, none⟩ = some (.pointer (some ⟨p.a, 0, none⟩)) := (hb1.cell (p := ⟨kb, 0, none⟩) hk).trans m0
  have HB := hidden hb1
  have HN := hidden n1
  obtain ⟨⟨q0, q1, q2, q3, q4⟩, q5⟩ := cells5 n1
  clear hb1 n1 m0
  go_enter Try.func11, Try.ntmps11
  go_wp2_with fail
  generalize w.alloc (.cells #[.nilFunc, .nilFunc, .nilFunc, .nilFunc, .nilFunc] 38) = w1 at *
  go_wp2_with (go_at_call 16; refine (mArena _ m1).mono ?_; rintro e w' ⟨rfl, hw'⟩; rw [hw']; clear hw' w')
  all_goals
    (try simp only [Exit.inBlock, Exit.then])
    refine bodyPost_ret (results_cell_row rfl _ _ w.heap.size 38 _ (0, 0) _ rfl (store5 (w := w1) HN.out _ _ _ _ _) Try.underlying38 rfl (by kernel_rfl)) rfl ?_
    exact ⟨rfl, below5 HB.out (Nat.le_refl _) _ _ _ _ _⟩
end Go.Proofs.Ytjnlfnecmiklhaa
