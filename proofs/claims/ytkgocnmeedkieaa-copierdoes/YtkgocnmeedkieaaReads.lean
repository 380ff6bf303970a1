/-
  What the arena's functions that only read tell, by plain arithmetic over the arena's state; the world is as it was but for draws of an order. Condition: the arena lies in memory (Ar).
-/
import Derived.Test.YtkgocnmeedkieaaMem
import Derived.Test.YtkgocnmeedkieaaWordsMore
import Derived.Deep.QuietTactic
import Derived.BigQuiet
namespace Go.Proofs.Ytkgocnmeedkieaa
open Go.ChangeShapes Go.WideShapes Go.ChangeAt Go.RowKit Go.Deep
set_option linter.unusedVariables false
set_option maxHeartbeats 400000

theorem orNone_any {p : Pl} {s : St} (w : World) (h : Ar w p s) :
    Calls Try.prog 46 #[.pointer (some ⟨p.a, 0, none⟩)] w fun e w' => e = .returned (.pointer (some ⟨p.a, 0, none⟩)) ∧ w' = w := by
  obtain ⟨c0, c1, c2, c3, c4, c5, c6⟩ := h.cells
  go_enter Try.func46, Try.ntmps46
  go_wp2
  all_goals go_ret
  all_goals exact ⟨rfl, rfl⟩
theorem half_any {p : Pl} {s : St} (w : World) (h : Ar w p s) :
    Calls Try.prog 60 #[.pointer (some ⟨p.a, 0, none⟩)] w fun e w' => e = .returned (.int .i64 s.n) ∧ w' = w := by
  obtain ⟨c0, c1, c2, c3, c4, c5, c6⟩ := h.cells
  go_enter Try.func60, Try.ntmps60
  go_wp2_with (go_at_call 46; refine (orNone_any _ h).mono ?_; rintro e w' ⟨rfl, rfl⟩)
  all_goals go_ret
  all_goals exact ⟨rfl, rfl⟩
theorem base_any {p : Pl} {s : St} (w : World) (h : Ar w p s) :
    Calls Try.prog 21 #[.pointer (some ⟨p.a, 0, none⟩)] w fun e w' => e = .returned (.int .i64 s.base) ∧ w' = w := by
  obtain ⟨c0, c1, c2, c3, c4, c5, c6⟩ := h.cells
  go_enter Try.func21, Try.ntmps21
  go_wp2_with (go_at_call 46; refine (orNone_any _ h).mono ?_; rintro e w' ⟨rfl, rfl⟩)
  all_goals go_ret
  all_goals exact ⟨rfl, rfl⟩
theorem top_any {p : Pl} {s : St} (w : World) (h : Ar w p s) :
    Calls Try.prog 22 #[.pointer (some ⟨p.a, 0, none⟩)] w fun e w' => e = .returned (.int .i64 s.top) ∧ w' = w := by
  obtain ⟨c0, c1, c2, c3, c4, c5, c6⟩ := h.cells
  go_enter Try.func22, Try.ntmps22
  go_wp2_with (go_at_call 46; refine (orNone_any _ h).mono ?_; rintro e w' ⟨rfl, rfl⟩)
  all_goals go_ret
  all_goals exact ⟨rfl, rfl⟩
theorem inUse_any {p : Pl} {s : St} (c : Int) (w : World) (h : Ar w p s) :
    Calls Try.prog 71 #[.pointer (some ⟨p.h, 0, none⟩), .int .i64 c] w fun e w' => e = .returned (.bool (s.inUse c)) ∧ w' = w := by
  obtain ⟨c0, c1, c2, c3, c4, c5, c6⟩ := h.cells
  unfold St.inUse
  by_cases g1 : (s.base : Int) ≤ c
  · by_cases g2 : c < (s.top : Int)
    all_goals
      go_enter Try.func71, Try.ntmps71
      go_wp2
      all_goals go_ret
      all_goals exact ⟨ret_bool (by simp [g1, g2]), rfl⟩
  · go_enter Try.func71, Try.ntmps71
    go_wp2
    all_goals go_ret
    all_goals exact ⟨ret_bool (by simp; omega), rfl⟩
theorem tagAt_any {p : Pl} {s : St} (a : Int) (w : World) (h : Ar w p s) (h0 : 1 ≤ a) (h1 : a ≤ 2 * s.n) :
    Calls Try.prog 50 #[.pointer (some ⟨p.a, 0, none⟩), .int .i64 a] w fun e w' => e = .returned (.int .i64 (s.tagAt a)) ∧ w' = w := by
  obtain ⟨c0, c1, c2, c3, c4, c5, c6⟩ := h.cells
  have n2 := h.n2
  have cc := h.cellC (a.toNat - 1) (by omega)
  have lo := h.lo (a.toNat - 1)
  have hi := h.hi (a.toNat - 1)
  unfold St.tagAt
  go_enter Try.func50, Try.ntmps50
  go_wp2_with (go_at_call 72; refine (tag_any _ _ (by omega) (by omega)).mono ?_; rintro e w' ⟨rfl, rfl⟩)
  all_goals go_ret
  all_goals exact ⟨rfl, rfl⟩
theorem sizeAt_any {p : Pl} {s : St} (a : Int) (w : World) (h : Ar w p s) (h0 : 1 ≤ a) (h1 : a ≤ 2 * s.n) :
    Calls Try.prog 47 #[.pointer (some ⟨p.a, 0, none⟩), .int .i64 a] w fun e w' => e = .returned (.int .i64 (s.sizeAt a)) ∧ w' = w := by
  obtain ⟨c0, c1, c2, c3, c4, c5, c6⟩ := h.cells
  have n2 := h.n2
  have cc := h.cellC (a.toNat - 1) (by omega)
  have lo := h.lo (a.toNat - 1)
  have hi := h.hi (a.toNat - 1)
  unfold St.sizeAt
  go_enter Try.func47, Try.ntmps47
  go_wp2_with (go_at_call 68; refine (size_any _ _ (by omega) (by omega)).mono ?_; rintro e w' ⟨rfl, rfl⟩)
  all_goals go_ret
  all_goals exact ⟨rfl, rfl⟩
theorem inUse_at {p : Pl} {s : St} (c : Int) (b : Bool) (w : World) (h : Ar w p s) (g : s.inUse c = b) :
    Calls Try.prog 71 #[.pointer (some ⟨p.h, 0, none⟩), .int .i64 c] w fun e w' => e = .returned (.bool b) ∧ w' = w := by
  subst g; exact inUse_any c w h
theorem wrapId (x : Int) (h : -9223372036854775808 ≤ x) (h' : x ≤ 9223372036854775807) : IntKind.i64.wrap x = x := by
  rw [wrap_i64, wrap64_def]; omega
theorem isBlock_any {p : Pl} {s : St} (a : Int) (w : World) (h : Ar w p s) (h0 : -4294967296 ≤ a) (h1 : a ≤ 4294967296) :
    Calls Try.prog 70 #[.pointer (some ⟨p.a, 0, none⟩), .int .i64 a] w fun e w' => e = .returned (.bool (s.isBlk a)) ∧ ∃ m, w' = w.drewN m := by
  obtain ⟨c0, c1, c2, c3, c4, c5, c6⟩ := h.cells
  have n2 := h.n2
  have b1 := h.b1
  have t2 := h.t2
  have e1 := wrapId (a - 1) (by omega) (by omega)
  have e2 := wrapId (a - 1 - s.base) (by omega) (by omega)
  cases g : s.inUse (a - 1)
  · have HV : Hid (s.isBlk a = false) := by show s.isBlk a = false; unfold St.isBlk; rw [g]; rfl
    go_enter Try.func70, Try.ntmps70
    go_wp2
    go_quiet ((go_at_call 71; exact Calls.quiet_of_same (inUse_at _ false _ (h.drewN _) g)))
    go_wp2
    go_ret
    exact ⟨ret_bool HV.out.symm, _, rfl⟩
  · have HV : Hid (s.isBlk a = s.H (a.toNat - 1 - s.base)) := by show s.isBlk a = _; unfold St.isBlk; rw [g]; rfl
    have g' := g
    unfold St.inUse at g'
    simp at g'
    have g1 : 0 ≤ a - 1 - s.base := by omega
    have g2 : a - 1 - s.base < s.n := by omega
    have cc := h.cellB (a.toNat - 1 - s.base) (by omega)
    clear g'
    go_enter Try.func70, Try.ntmps70
    go_wp2
    go_quiet ((go_at_call 71; exact Calls.quiet_of_same (inUse_at _ true _ (h.drewN _) g)))
    go_wp2
    go_ret
    exact ⟨ret_bool HV.out.symm, _, rfl⟩
theorem isBlock_at {p : Pl} {s : St} (a : Int) (b : Bool) (w : World) (h : Ar w p s) (h0 : -4294967296 ≤ a) (h1 : a ≤ 4294967296) (g : s.isBlk a = b) :
    Calls Try.prog 70 #[.pointer (some ⟨p.a, 0, none⟩), .int .i64 a] w fun e w' => e = .returned (.bool b) ∧ ∃ m, w' = w.drewN m := by
  subst g; exact isBlock_any a w h h0 h1
end Go.Proofs.Ytkgocnmeedkieaa
