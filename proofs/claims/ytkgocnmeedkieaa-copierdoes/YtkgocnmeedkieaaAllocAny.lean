/-
  What Alloc tells, and makes of the arena's state, for every tag and size, by plain arithmetic; nothing but the arena's own blocks is written. Condition: the arena lies in memory (Ar).
-/
import Derived.Test.YtkgocnmeedkieaaAllocs
namespace Go.Proofs.Ytkgocnmeedkieaa
open Go.ChangeShapes Go.WideShapes Go.ChangeAt Go.RowKit Go.Deep
set_option linter.unusedVariables false
set_option maxHeartbeats 400000

theorem alloc_no {p : Pl} {s : St} (t z : Int) (w : World) (h : Ar w p s) (g : s.allocE t z ≠ 0) :
    Calls Try.prog 31 #[.pointer (some ⟨p.a, 0, none⟩), .int .i64 t, .int .i64 z] w fun e w' => e = .returned (.tuple #[.int .u64 0, .int .i64 (s.allocE t z)]) ∧ ∃ m, w' = w.drewN m := by
  cases g1 : St.mayLie t
  · have HE : Hid (s.allocE t z = 1) := by show _ = _; unfold St.allocE; rw [if_pos g1]
    clear g
    go_enter Try.func31, Try.ntmps31
    go_wp2_with (go_at_call 53; refine (mayLie_any t _).mono ?_; rintro e w' ⟨rfl, rfl⟩)
    all_goals go_ret2
    all_goals exact ⟨ret_two rfl HE.out.symm, 0, rfl⟩
  · by_cases g2 : z < 0
    · have HE : Hid (s.allocE t z = 2) := by show _ = _; unfold St.allocE; rw [if_neg (by rw [g1]; simp), if_pos (Or.inl g2)]
      clear g
      go_enter Try.func31, Try.ntmps31
      go_wp2_with (go_at_call 53; refine (mayLie_any t _).mono ?_; rintro e w' ⟨rfl, rfl⟩)
      all_goals go_ret2
      all_goals exact ⟨ret_two rfl HE.out.symm, 0, rfl⟩
    · by_cases g3 : 4096 < z
      · have HE : Hid (s.allocE t z = 2) := by show _ = _; unfold St.allocE; rw [if_neg (by rw [g1]; simp), if_pos (Or.inr g3)]
        clear g
        go_enter Try.func31, Try.ntmps31
        go_wp2_with (go_at_call 53; refine (mayLie_any t _).mono ?_; rintro e w' ⟨rfl, rfl⟩)
        all_goals go_ret2
        all_goals exact ⟨ret_two rfl HE.out.symm, 0, rfl⟩
      · by_cases g4 : (s.base : Int) + s.n < s.top + z + 1
        · have HE : Hid (s.allocE t z = 10) := by show _ = _; unfold St.allocE; rw [if_neg (by rw [g1]; simp), if_neg (by omega), if_pos g4]
          obtain ⟨c0, c1, c2, c3, c4, c5, c6⟩ := h.cells
          clear g
          go_enter Try.func31, Try.ntmps31
          go_wp2_with (first | (go_at_call 53; refine (mayLie_any t _).mono ?_; rintro e w' ⟨rfl, rfl⟩) | (go_at_call 46; refine (orNone_any _ h).mono ?_; rintro e w' ⟨rfl, rfl⟩) | (go_at_call 54; refine (take_no _ _ h (by omega) (by omega)).mono ?_; rintro e w1 ⟨rfl, m, rfl⟩))
          all_goals go_ret2
          all_goals exact ⟨ret_two rfl HE.out.symm, _, rfl⟩
        · exact absurd (by unfold St.allocE; rw [if_neg (by rw [g1]; simp), if_neg (by omega), if_neg g4]) g
theorem alloc_any {p : Pl} {s : St} (t z : Int) (w : World) (h : Ar w p s) :
    Calls Try.prog 31 #[.pointer (some ⟨p.a, 0, none⟩), .int .i64 t, .int .i64 z] w fun e w' => e = .returned (.tuple #[.int .u64 (s.allocW t z), .int .i64 (s.allocE t z)]) ∧ Ar w' p (s.alloc t z) ∧ Only p.own w w' := by
  by_cases g : s.allocE t z = 0
  · have g0 := g
    unfold St.allocE at g
    have g1 : St.mayLie t = true := by
      cases c : St.mayLie t
      · rw [if_pos c] at g; omega
      · rfl
    rw [if_neg (by rw [g1]; simp)] at g
    have g2 : ¬ (z < 0 ∨ 4096 < z) := by intro c; rw [if_pos c] at g; omega
    rw [if_neg g2] at g
    have g3 : ¬ ((s.base : Int) + s.n < s.top + z + 1) := by intro c; rw [if_pos c] at g; omega
    refine (alloc_yes t z w h g1 (by omega) (by omega) (by omega)).mono ?_
    rintro e w' ⟨rfl, ha, ho⟩
    have hw : s.allocW t z = 2 * (s.top + 1) := by unfold St.allocW; rw [if_pos g0]
    exact ⟨by rw [hw, g0], ha, ho⟩
  · refine (alloc_no t z w h g).mono ?_
    rintro e w' ⟨rfl, m, rfl⟩
    have hw : s.allocW t z = 0 := by unfold St.allocW; rw [if_neg g]
    have hs : s.alloc t z = s := by unfold St.alloc; rw [if_neg g]
    exact ⟨by rw [hw], by rw [hs]; exact h.drewN m, (Only.refl _ _).drewN m⟩
end Go.Proofs.Ytkgocnmeedkieaa
