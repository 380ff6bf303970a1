/-
  What Alloc makes of the arena's state, by plain arithmetic; nothing but the arena's own blocks is written. Condition: the arena lies in memory (Ar).
-/
import Derived.Test.YtkgocnmeedkieaaSets
import Derived.Deep.RegionWith
import Derived.BigRegion
namespace Go.Proofs.Ytkgocnmeedkieaa
open Go.ChangeShapes Go.WideShapes Go.ChangeAt Go.RowKit Go.Deep
set_option linter.unusedVariables false
set_option maxHeartbeats 400000

theorem headW_lo (t z : Int) : 0 ≤ headW t z := by unfold headW; split; omega; exact intW_lo _
theorem headW_hi (t z : Int) : headW t z ≤ 18446744073709551615 := by unfold headW; split; omega; exact intW_hi _
theorem intW_0 : intW 0 = 1 := by decide
/-- What Alloc has made of the state ahead of its fill. -/
def St.laid (s : St) (t z : Int) : St := ⟨s.n, s.base, s.top + (z + 1).toNat, fun j => if j = s.top then headW t z else s.C j, fun j => if j = s.top - s.base then true else s.H j⟩
theorem alloc_eq (s : St) (t z : Int) (h0 : 0 ≤ z) (g : s.allocE t z = 0) : (s.laid t z).filled (s.top + 1) z.toNat 1 = s.alloc t z := by
  unfold St.alloc
  rw [if_pos g]
  unfold St.laid St.filled
  have e : s.top + (z + 1).toNat = s.top + z.toNat + 1 := by omega
  rw [e]
  congr 1
  funext j
  show (if s.top + 1 ≤ j ∧ j < s.top + 1 + z.toNat then 1 else (if j = s.top then headW t z else s.C j)) = _
  by_cases c : j = s.top
  · rw [if_neg (by omega), if_pos c, if_pos c]
  · rw [if_neg c, if_neg c]
    by_cases c2 : s.top + 1 ≤ j ∧ j < s.top + 1 + z.toNat
    · rw [if_pos c2, if_pos (by omega)]
    · rw [if_neg c2, if_neg (by omega)]
theorem fill_top {p : Pl} {s : St} {t : Int} (z v : Int) (w : World) (h : Ar w p (s.laid t z)) (g2 : 0 ≤ z) (g4 : s.top + z + 1 ≤ (s.base : Int) + s.n) (v0 : 0 ≤ v) (v1 : v ≤ 18446744073709551615) :
    Calls Try.prog 56 #[.pointer (some ⟨p.h, 0, none⟩), .int .i64 (s.top + 1), .int .i64 z, .int .u64 v] w fun e w' => e = .returned (.tuple #[]) ∧ Ar w' p ((s.laid t z).filled (s.top + 1) z.toNat v) ∧ Only p.own w w' := by
  have b1 := h.b1
  have e : (s.laid t z).n = s.n := rfl
  have e2 : (s.laid t z).base = s.base := rfl
  rw [e, e2] at b1
  have hz : z = (z.toNat : Int) := by omega
  have := fill_any (s.top + 1) z.toNat v w h (by rw [e]; omega) v0 v1
  rw [← hz] at this
  exact this

set_option maxHeartbeats 4000000 in
theorem alloc_yes {p : Pl} {s : St} (t z : Int) (w : World) (h : Ar w p s) (g1 : St.mayLie t = true) (g2 : 0 ≤ z) (g3 : z ≤ 4096) (g4 : s.top + z + 1 ≤ (s.base : Int) + s.n) :
    Calls Try.prog 31 #[.pointer (some ⟨p.a, 0, none⟩), .int .i64 t, .int .i64 z] w fun e w' => e = .returned (.tuple #[.int .u64 (2 * (s.top + 1)), .int .i64 0]) ∧ Ar w' p (s.alloc t z) ∧ Only p.own w w' := by
  obtain ⟨c0, c1, c2, c3, c4, c5, c6⟩ := h.cells
  have n2 := h.n2; have b1 := h.b1; have t1 := h.t1; have t2 := h.t2
  have tr : 0 ≤ t ∧ t ≤ 202 := by unfold St.mayLie at g1; simp at g1; omega
  obtain ⟨tr0, tr1⟩ := tr
  have HP : Hid (ptrW (s.top + 1) = 2 * (s.top + 1)) := by show _ = _; unfold ptrW; rw [if_neg (by omega)]
  have HA : Hid ((s.laid t z).filled (s.top + 1) z.toNat (intW 0) = s.alloc t z) := by rw [intW_0]; exact alloc_eq s t z g2 (by unfold St.allocE; rw [if_neg (by rw [g1]; simp), if_neg (by omega), if_neg (by omega)])
  have e1 := wrapId (s.top - s.base) (by omega) (by omega)
  go_enter Try.func31, Try.ntmps31
  go_wp2_with (first | (go_at_call 53; refine (mayLie_any t _).mono ?_; rintro e w' ⟨rfl, rfl⟩) | (go_at_call 46; refine (orNone_any _ h).mono ?_; rintro e w' ⟨rfl, rfl⟩) | (go_at_call 54; refine (take_yes _ _ h (by omega) (by omega)).mono ?_; rintro e w1 ⟨rfl, hr, ho⟩))
  obtain ⟨d0, d1, d2, d3, d4, d5, d6⟩ := hr.cells
  have db := hr.cellB (s.top - s.base) (by show _ < s.n; omega)
  have dbf := hr.frozenB (s.top - s.base)
  clear c0 c1 c2 c3 c4 c5 c6
  go_region
  go_wp2
  have hr2 := (hr.setB (s.top - s.base) true).drewN 1
  have ho2 := (ho.setCell (a := ⟨p.b, s.top - s.base, none⟩) (Or.inr (Or.inr (Or.inr rfl))) (.bool true)).drewN 1
  rw [World.drew_is_drewN]
  generalize (w1.setCell ⟨p.b, s.top - s.base, none⟩ (.bool true)).drewN 1 = w2 at hr2 ho2 ⊢
  clear d0 d1 d2 d3 d4 d5 d6 db dbf hr ho
  obtain ⟨d0, d1, d2, d3, d4, d5, d6⟩ := hr2.cells
  have dc := hr2.cellC s.top (by show _ < 2 * s.n; omega)
  have dcf := hr2.frozenC s.top
  simp only at d1 d2 d3 d4 d5 dc
  have dl : (s.top : Int) < 2 * s.n := by omega
  go_region_with (go_at_call 55; refine (head_any t z _ (by omega) (by omega) (by omega) (by omega)).mono ?_; rintro e w' ⟨rfl, rfl⟩)
  all_goals go_wp2
  all_goals
    have hr3 := (hr2.setC s.top (headW t z) (headW_lo t z) (headW_hi t z)).drewN 1
    have ho3 := (ho2.setCell (a := ⟨p.c, s.top, none⟩) (Or.inr (Or.inr (Or.inl rfl))) (.int .u64 (headW t z))).drewN 1
    rw [World.drew_is_drewN]
    generalize (w2.setCell ⟨p.c, s.top, none⟩ (.int .u64 (headW t z))).drewN 1 = w3 at hr3 ho3 ⊢
    clear d0 d1 d2 d3 d4 d5 d6 dc dcf hr2 ho2
    obtain ⟨d0, d1, d2, d3, d4, d5, d6⟩ := hr3.cells
    simp only at d1 d2 d3 d4 d5
    have e2 := wrapId (s.top + 1) (by omega) (by omega)
    go_region_with (first | (go_at_call 57; refine (int_free 0 _).mono ?_; rintro e w' ⟨rfl, rfl⟩) | (go_at_call 56; refine (fill_top (s := s) (t := t) z (intW 0) _ ?_ ?_ ?_ (intW_lo _) (intW_hi _)).mono ?_; exact hr3.drewN _; exact g2; exact g4; rintro e w4 ⟨rfl, hr4, ho4⟩))
    all_goals go_wp2_with (go_at_call 48; refine (ptr_any _ _ (by omega) (by omega)).mono ?_; rintro e w' ⟨rfl, rfl⟩)
    all_goals go_ret2
    all_goals exact ⟨ret_two HP.out rfl, by rw [← HA.out]; exact hr4, ho3.trans ((Only.refl _ _).drewN _ |>.trans ho4)⟩
end Go.Proofs.Ytkgocnmeedkieaa
