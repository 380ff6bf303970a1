/-
  What Alloc of the document's own arena tells and makes, for every tag and size, where it and the program's arena are in one state. Condition: it lies in memory (Rf), and both are in one state (Rep).
-/
import Derived.Test.YtjnlfnecmiklhaaRefAllocB
namespace Go.Proofs.Ytjnlfnecmiklhaa
open Go.ChangeShapes Go.WideShapes Go.ChangeAt Go.RowKit Go.Deep
set_option linter.unusedVariables false
set_option maxHeartbeats 2000000
variable {w : World} {p : Pl} {s : St} {rb : Nat} {r : RS} {a : Option Addr} {cap : Nat} {V : Nat → Value}

theorem both_drew2 {w' : World} {m : Nat} (hw : w' = w.drewN m) (h : Both w p s rb r a cap V) : Both w' p s rb r a cap V ∧ Hid (w' = w.drewN m) := ⟨by rw [hw]; exact h.drewN m, hw⟩
theorem ralloc_full (t z : Int) (w : World) (h : Both w p s rb r a cap V) (g0 : St.mayLie t = true) (g2 : 0 ≤ z) (g3 : z ≤ 4096) (g4 : (s.base : Int) + s.n < s.top + z + 1) :
    Calls Try.prog 59 #[.pointer (some ⟨rb, 0, none⟩), .int .i64 t, .int .i64 z] w fun e w' => e = .returned (.tuple #[.int .u64 0, .int .i64 10]) ∧ ∃ m, w' = w.drewN m := by
  obtain ⟨z1, z2, z3, z4, z5⟩ := h.sizes
  have hn := h.rep.n
  have htop := h.rep.top
  have hbase := h.rep.base
  have hwh := h.rep.wh
  have HT : Hid (s.base + lenB r.L = s.top) := htop.symm
  have HBB : Hid (s.base = r.n * r.which) := hbase
  have e1 := wrapId ((s.top : Int) + 1) (by omega) (by omega)
  have e2 := wrapId ((s.top : Int) + 1 + z) (by omega) (by omega)
  have e3 := wrapId ((s.base : Int) + r.n) (by omega) (by omega)
  have g5 : (s.base : Int) + r.n < (s.top : Int) + 1 + z := by omega
  clear hn htop hbase g4
  have tt : (0 ≤ t ∧ t ≤ 199) ∨ t = 200 ∨ t = 202 := by unfold St.mayLie at g0; simp at g0; omega
  rcases tt with ⟨c, c2⟩ | ct | ct
  · go_enter Try.func59, Try.ntmps59
    go_wp2_with (go_at_call 18; refine (rtop_any s.base _ h.rf HBB.out z3 hwh z4 (by omega) (by omega)).mono ?_; rw [HT.out]; rintro e w1 ⟨rfl, m, hw1⟩; obtain ⟨h1, HW⟩ := both_drew2 hw1 h; clear hw1)
    obtain ⟨c0, c1, c2', c3⟩ := h1.rf.cells
    go_quiet ((go_at_call 42; exact Calls.quiet_of (rbase_any s.base _ (h1.rf.drewN _) HBB.out z3 hwh)))
    go_wp2
    go_ret2
    exact ⟨rfl, _, by rw [HW.out]; exact World.drewN_drewN _ _ _⟩
  · have c : 199 < t := by omega
    have T1 : (t != 200) = false := by rw [ct]; rfl
    clear ct
    go_enter Try.func59, Try.ntmps59
    go_wp2_with (go_at_call 18; refine (rtop_any s.base _ h.rf HBB.out z3 hwh z4 (by omega) (by omega)).mono ?_; rw [HT.out]; rintro e w1 ⟨rfl, m, hw1⟩; obtain ⟨h1, HW⟩ := both_drew2 hw1 h; clear hw1)
    obtain ⟨c0, c1, c2', c3⟩ := h1.rf.cells
    go_quiet ((go_at_call 42; exact Calls.quiet_of (rbase_any s.base _ (h1.rf.drewN _) HBB.out z3 hwh)))
    go_wp2
    go_ret2
    exact ⟨rfl, _, by rw [HW.out]; exact World.drewN_drewN _ _ _⟩
  · have c : 199 < t := by omega
    have T1 : (t != 200) = true := by rw [ct]; rfl
    have T2 : (t != 202) = false := by rw [ct]; rfl
    clear ct
    go_enter Try.func59, Try.ntmps59
    go_wp2_with (go_at_call 18; refine (rtop_any s.base _ h.rf HBB.out z3 hwh z4 (by omega) (by omega)).mono ?_; rw [HT.out]; rintro e w1 ⟨rfl, m, hw1⟩; obtain ⟨h1, HW⟩ := both_drew2 hw1 h; clear hw1)
    obtain ⟨c0, c1, c2', c3⟩ := h1.rf.cells
    go_quiet ((go_at_call 42; exact Calls.quiet_of (rbase_any s.base _ (h1.rf.drewN _) HBB.out z3 hwh)))
    go_wp2
    go_ret2
    exact ⟨rfl, _, by rw [HW.out]; exact World.drewN_drewN _ _ _⟩
theorem ralloc_arg (t z : Int) (w : World) (g0 : St.mayLie t = false) :
    Calls Try.prog 59 #[.pointer (some ⟨rb, 0, none⟩), .int .i64 t, .int .i64 z] w fun e w' => e = .returned (.tuple #[.int .u64 0, .int .i64 1]) ∧ w' = w := by
  have tt : t < 0 ∨ (199 < t ∧ t ≠ 200 ∧ t ≠ 202) := by unfold St.mayLie at g0; simp at g0; omega
  have T1 : (t != 200) = true := by rw [bne_iff_ne]; omega
  have T2 : (t != 202) = true := by rw [bne_iff_ne]; omega
  by_cases c : t < 0
  · clear tt
    go_enter Try.func59, Try.ntmps59
    go_wp2
    all_goals go_ret2
    all_goals exact ⟨rfl, rfl⟩
  · have c2 : 199 < t := by omega
    clear tt
    go_enter Try.func59, Try.ntmps59
    go_wp2
    all_goals go_ret2
    all_goals exact ⟨rfl, rfl⟩
theorem ralloc_size (t z : Int) (w : World) (g0 : St.mayLie t = true) (g : z < 0 ∨ 4096 < z) :
    Calls Try.prog 59 #[.pointer (some ⟨rb, 0, none⟩), .int .i64 t, .int .i64 z] w fun e w' => e = .returned (.tuple #[.int .u64 0, .int .i64 2]) ∧ w' = w := by
  have tt : (0 ≤ t ∧ t ≤ 199) ∨ t = 200 ∨ t = 202 := by unfold St.mayLie at g0; simp at g0; omega
  by_cases cz : z < 0
  · rcases tt with ⟨c, c2⟩ | ct | ct
    · go_enter Try.func59, Try.ntmps59
      go_wp2
      all_goals go_ret2
      all_goals exact ⟨rfl, rfl⟩
    · subst ct
      go_enter Try.func59, Try.ntmps59
      go_wp2
      all_goals go_ret2
      all_goals exact ⟨rfl, rfl⟩
    · subst ct
      go_enter Try.func59, Try.ntmps59
      go_wp2
      all_goals go_ret2
      all_goals exact ⟨rfl, rfl⟩
  · have cz2 : 4096 < z := by omega
    clear g
    rcases tt with ⟨c, c2⟩ | ct | ct
    · go_enter Try.func59, Try.ntmps59
      go_wp2
      all_goals go_ret2
      all_goals exact ⟨rfl, rfl⟩
    · subst ct
      go_enter Try.func59, Try.ntmps59
      go_wp2
      all_goals go_ret2
      all_goals exact ⟨rfl, rfl⟩
    · subst ct
      go_enter Try.func59, Try.ntmps59
      go_wp2
      all_goals go_ret2
      all_goals exact ⟨rfl, rfl⟩
/-- What Alloc makes of the document's own arena's state. -/
def RS.after (r : RS) (s : St) (t z : Int) : RS := if s.allocE t z = 0 then r.alloc s t z else r
theorem rep_after (h : Rep s r) (hbt : s.base ≤ s.top) (t z : Int) : Rep (s.alloc t z) (r.after s t z) := by
  unfold RS.after
  by_cases g : s.allocE t z = 0
  · rw [if_pos g]; exact rep_alloc h hbt g
  · rw [if_neg g, show s.alloc t z = s from by unfold St.alloc; rw [if_neg g]]; exact h
theorem ralloc_at (t z : Int) (w : World) (h : Both w p s rb r a cap V) :
    Calls Try.prog 59 #[.pointer (some ⟨rb, 0, none⟩), .int .i64 t, .int .i64 z] w fun e w' => e = .returned (.tuple #[.int .u64 (s.allocW t z), .int .i64 (s.allocE t z)]) ∧ ∃ a' cap' V', Rf w' rb (r.after s t z) a' cap' V' ∧ Only (Rown rb a) w w' ∧ Fresh w.heap.size r.L.length V (r.after s t z).L.length V' ∧ ∀ q, a' = some ⟨q, 0, none⟩ → a = some ⟨q, 0, none⟩ ∨ w.heap.size ≤ q := by
  by_cases g : s.allocE t z = 0
  · have hv : s.allocW t z = 2 * (s.top + 1) := by unfold St.allocW; rw [if_pos g]
    have hr : r.after s t z = r.alloc s t z := by unfold RS.after; rw [if_pos g]
    rw [hv, hr, g]
    obtain ⟨g0, _⟩ := allocE_zero g
    have tt : (0 ≤ t ∧ t ≤ 199) ∨ t = 200 ∨ t = 202 := by unfold St.mayLie at g0; simp at g0; omega
    rcases tt with ⟨c, c2⟩ | ct | ct
    · exact ralloc_low t z w h g c c2
    · exact ralloc_200 t z w h g (by omega) (by rw [ct]; rfl)
    · exact ralloc_202 t z w h g (by omega) (by rw [ct]; rfl) (by rw [ct]; rfl)
  · have hv : s.allocW t z = 0 := by unfold St.allocW; rw [if_neg g]
    have hr : r.after s t z = r := by unfold RS.after; rw [if_neg g]
    rw [hv, hr]
    cases g0 : St.mayLie t
    · have he : s.allocE t z = 1 := by unfold St.allocE; rw [if_pos g0]
      rw [he]
      refine (ralloc_arg t z w g0).mono ?_
      rintro e w' ⟨rfl, rfl⟩
      exact ⟨rfl, a, cap, V, h.rf, Only.refl _ _, Fresh.refl _ _ _, fun q hq => Or.inl hq⟩
    · by_cases gz : z < 0 ∨ 4096 < z
      · have he : s.allocE t z = 2 := by unfold St.allocE; rw [if_neg (by rw [g0]; simp), if_pos gz]
        rw [he]
        refine (ralloc_size t z w g0 gz).mono ?_
        rintro e w' ⟨rfl, rfl⟩
        exact ⟨rfl, a, cap, V, h.rf, Only.refl _ _, Fresh.refl _ _ _, fun q hq => Or.inl hq⟩
      · by_cases gf : (s.base : Int) + s.n < s.top + z + 1
        · have he : s.allocE t z = 10 := by unfold St.allocE; rw [if_neg (by rw [g0]; simp), if_neg gz, if_pos gf]
          rw [he]
          refine (ralloc_full t z w h g0 (by omega) (by omega) gf).mono ?_
          rintro e w' ⟨rfl, m, rfl⟩
          exact ⟨rfl, a, cap, V, h.rf.drewN m, (Only.refl _ _).drewN m, Fresh.refl _ _ _, fun q hq => Or.inl hq⟩
        · exact absurd (by unfold St.allocE; rw [if_neg (by rw [g0]; simp), if_neg gz, if_neg gf]) g
theorem ralloc_fresh (t z : Int) (w : World) (h : Both w p s rb r a cap V) :
    Calls Try.prog 59 #[.pointer (some ⟨rb, 0, none⟩), .int .i64 t, .int .i64 z] w fun e w' => e = .returned (.tuple #[.int .u64 (s.allocW t z), .int .i64 (s.allocE t z)]) ∧ ∃ a' cap' V', Rf w' rb (r.after s t z) a' cap' V' ∧ Only (Rown rb a) w w' ∧ Fresh w.heap.size r.L.length V (r.after s t z).L.length V' :=
  (ralloc_at t z w h).mono (fun e w' ⟨h1, a', cap', V', h2, h3, h4, _⟩ => ⟨h1, a', cap', V', h2, h3, h4⟩)
theorem ralloc_any (t z : Int) (w : World) (h : Both w p s rb r a cap V) :
    Calls Try.prog 59 #[.pointer (some ⟨rb, 0, none⟩), .int .i64 t, .int .i64 z] w fun e w' => e = .returned (.tuple #[.int .u64 (s.allocW t z), .int .i64 (s.allocE t z)]) ∧ ∃ a' cap' V', Rf w' rb (r.after s t z) a' cap' V' ∧ Only (Rown rb a) w w' :=
  (ralloc_fresh t z w h).mono (fun e w' ⟨h1, a', cap', V', h2, h3, _⟩ => ⟨h1, a', cap', V', h2, h3⟩)
end Go.Proofs.Ytjnlfnecmiklhaa
