/-
  What Set, take, fill, Alloc make of the arena's state, by plain arithmetic; nothing but the arena's own blocks is written. Condition: the arena lies in memory (Ar), its blocks lie within what is in use (Fits).
-/
import Derived.Test.YtkgocnmeedkieaaGets
namespace Go.Proofs.Ytkgocnmeedkieaa
open Go.ChangeShapes Go.WideShapes Go.ChangeAt Go.RowKit Go.Deep
set_option linter.unusedVariables false
set_option maxHeartbeats 400000

theorem Ar.setC {w : World} {p : Pl} {s : St} (h : Ar w p s) (i : Nat) (v : Int) (h0 : 0 ≤ v) (h1 : v ≤ 18446744073709551615) :
    Ar (w.setCell ⟨p.c, i, none⟩ (.int .u64 v)) p { s with C := fun j => if j = i then v else s.C j } := by
  obtain ⟨e1, e2, e3, e4, e5, e6⟩ := h.nh
  exact { ha := by rw [blk_setCell_other _ _ _ _ e2]; exact h.ha, hh := by rw [blk_setCell_other _ _ _ _ e4]; exact h.hh, hc := (h.hc.set i _).congr (fun j hj => by show (if j = i then _ else _) = Value.int _ (if j = i then _ else _); split <;> rfl), hb := h.hb.setOther (Ne.symm e6) _,
          n1 := h.n1, n2 := h.n2, b1 := h.b1, t1 := h.t1, t2 := h.t2, lo := fun j => by show 0 ≤ (if j = i then v else s.C j); split; exact h0; exact h.lo j, hi := fun j => by show (if j = i then v else s.C j) ≤ _; split; exact h1; exact h.hi j }
theorem Ar.setB {w : World} {p : Pl} {s : St} (h : Ar w p s) (i : Nat) (v : Bool) :
    Ar (w.setCell ⟨p.b, i, none⟩ (.bool v)) p { s with H := fun j => if j = i then v else s.H j } := by
  obtain ⟨e1, e2, e3, e4, e5, e6⟩ := h.nh
  exact { ha := by rw [blk_setCell_other _ _ _ _ e3]; exact h.ha, hh := by rw [blk_setCell_other _ _ _ _ e5]; exact h.hh, hb := (h.hb.set i _).congr (fun j hj => by show (if j = i then _ else _) = Value.bool (if j = i then _ else _); split <;> rfl), hc := h.hc.setOther e6 _,
          n1 := h.n1, n2 := h.n2, b1 := h.b1, t1 := h.t1, t2 := h.t2, lo := h.lo, hi := h.hi }
theorem Ar.setTop {w : World} {p : Pl} {s : St} (h : Ar w p s) (t : Nat) (h1 : s.base ≤ t) (h2 : t ≤ s.base + s.n) :
    Ar (w.setCell ⟨p.h, 3, none⟩ (.int .i64 t)) p { s with top := t } := by
  obtain ⟨e1, e2, e3, e4, e5, e6⟩ := h.nh
  exact { ha := by rw [blk_setCell_other _ _ _ _ e1]; exact h.ha, hh := by simp [World.setCell, Array.getElem?_modify, h.hh], hb := h.hb.setOther (Ne.symm e5) _, hc := h.hc.setOther (Ne.symm e4) _,
          n1 := h.n1, n2 := h.n2, b1 := h.b1, t1 := h1, t2 := h2, lo := h.lo, hi := h.hi }
theorem Ar.setTopI {w : World} {p : Pl} {s : St} (h : Ar w p s) (t : Nat) (v : Int) (hv : v = t) (h1 : s.base ≤ t) (h2 : t ≤ s.base + s.n) :
    Ar (w.setCell ⟨p.h, 3, none⟩ (.int .i64 v)) p { s with top := t } := by subst hv; exact h.setTop t h1 h2
theorem Ar.frozenC {w : World} {p : Pl} {s : St} (h : Ar w p s) (i : Nat) : w.frozen? ⟨p.c, i, none⟩ = false := h.hc.frozen i
theorem Ar.frozenB {w : World} {p : Pl} {s : St} (h : Ar w p s) (i : Nat) : w.frozen? ⟨p.b, i, none⟩ = false := h.hb.frozen i
theorem set_any {p : Pl} {s : St} (x i v : Int) (w : World) (h : Ar w p s) (hf : s.Fits) (h0 : 0 ≤ x) (h1 : x ≤ 18446744073709551615) (v0 : 0 ≤ v) (v1 : v ≤ 18446744073709551615) :
    Calls Try.prog 34 #[.pointer (some ⟨p.a, 0, none⟩), .int .u64 x, .int .i64 i, .int .u64 v] w fun e w' => e = .returned (.int .i64 (s.fieldE x i)) ∧ Ar w' p (s.put x i v) ∧ Only p.own w w' := by
  obtain ⟨c0, c1, c2, c3, c4, c5, c6⟩ := h.cells
  by_cases g : s.fieldE x i = 0
  · have HE : Hid (s.fieldE x i = 0) := g
    have HP : Hid (s.put x i v = { s with C := fun j => if j = (s.fieldC x i).toNat then v else s.C j }) := by show _ = _; unfold St.put St.fieldC; rw [if_pos g, if_pos g]
    have G : (s.fieldE x i != 0) = false := by rw [g]; rfl
    obtain ⟨f0, f1, f2, f3⟩ := field_rng h hf g
    have cc := h.cellC (s.fieldC x i).toNat (by omega)
    have cf := h.frozenC (s.fieldC x i).toNat
    clear g
    go_enter Try.func34, Try.ntmps34
    go_wp2_with (first | (go_at_call 46; refine (orNone_any _ h).mono ?_; rintro e w' ⟨rfl, rfl⟩) | (go_at_call 51; refine (field_any x i _ h h0 h1).mono ?_; rintro e w' ⟨rfl, m, rfl⟩))
    all_goals go_ret
    all_goals exact ⟨ret_int HE.out.symm, by rw [HP.out]; exact (h.drewN _).setC _ v v0 v1, ((Only.refl _ _).drewN _).setCell (Or.inr (Or.inr (Or.inl rfl))) _⟩
  · have HP : Hid (s.put x i v = s) := by show _ = _; unfold St.put; rw [if_neg g]
    have G : (s.fieldE x i != 0) = true := by rw [bne_iff_ne]; exact g
    clear g
    go_enter Try.func34, Try.ntmps34
    go_wp2_with (first | (go_at_call 46; refine (orNone_any _ h).mono ?_; rintro e w' ⟨rfl, rfl⟩) | (go_at_call 51; refine (field_any x i _ h h0 h1).mono ?_; rintro e w' ⟨rfl, m, rfl⟩))
    all_goals go_ret
    all_goals exact ⟨rfl, by rw [HP.out]; exact h.drewN _, (Only.refl _ _).drewN _⟩
theorem mayLie_any (t : Int) (w : World) :
    Calls Try.prog 53 #[.int .i64 t] w fun e w' => e = .returned (.bool (St.mayLie t)) ∧ w' = w := by
  unfold St.mayLie
  by_cases c1 : 0 ≤ t
  · by_cases c2 : t ≤ 199
    · go_enter Try.func53, Try.ntmps53
      go_wp2
      all_goals go_ret
      all_goals exact ⟨ret_bool (by simp [c1, c2]), rfl⟩
    · by_cases c3 : t = 200
      · have C3 : (t == 200) = true := by rw [beq_iff_eq]; exact c3
        clear c3
        go_enter Try.func53, Try.ntmps53
        go_wp2
        all_goals go_ret
        all_goals exact ⟨ret_bool (by simp), rfl⟩
      · have C3 : (t == 200) = false := beq_eq_false_iff_ne.2 c3
        clear c3
        go_enter Try.func53, Try.ntmps53
        go_wp2
        all_goals go_ret
        all_goals exact ⟨ret_bool (by simp; omega), rfl⟩
  · have C3 : (t == 200) = false := beq_eq_false_iff_ne.2 (by omega)
    have C4 : (t == 202) = false := beq_eq_false_iff_ne.2 (by omega)
    go_enter Try.func53, Try.ntmps53
    go_wp2
    all_goals go_ret
    all_goals exact ⟨ret_bool (by simp; omega), rfl⟩
theorem take_no {p : Pl} {s : St} (c : Int) (w : World) (h : Ar w p s) (h1 : c ≤ 100000) (g : (s.base : Int) + s.n - s.top < c) :
    Calls Try.prog 54 #[.pointer (some ⟨p.h, 0, none⟩), .int .i64 c] w fun e w' => e = .returned (.tuple #[.int .i64 0, .bool false]) ∧ ∃ m, w' = w.drewN m := by
  obtain ⟨c0, c1, c2, c3, c4, c5, c6⟩ := h.cells
  have n2 := h.n2; have b1 := h.b1; have t1 := h.t1; have t2 := h.t2
  have e1 := wrapId (s.base + s.n) (by omega) (by omega)
  have e2 := wrapId (s.base + s.n - s.top) (by omega) (by omega)
  go_enter Try.func54, Try.ntmps54
  go_wp2
  go_quiet (fail)
  go_wp2
  all_goals go_ret2
  all_goals exact ⟨rfl, _, rfl⟩
theorem take_yes {p : Pl} {s : St} (c : Int) (w : World) (h : Ar w p s) (h0 : 0 ≤ c) (g : c ≤ (s.base : Int) + s.n - s.top) :
    Calls Try.prog 54 #[.pointer (some ⟨p.h, 0, none⟩), .int .i64 c] w fun e w' => e = .returned (.tuple #[.int .i64 s.top, .bool true]) ∧ Ar w' p { s with top := s.top + c.toNat } ∧ Only p.own w w' := by
  obtain ⟨c0, c1, c2, c3, c4, c5, c6⟩ := h.cells
  have n2 := h.n2; have b1 := h.b1; have t1 := h.t1; have t2 := h.t2
  have e1 := wrapId (s.base + s.n) (by omega) (by omega)
  have e2 := wrapId (s.base + s.n - s.top) (by omega) (by omega)
  go_enter Try.func54, Try.ntmps54
  go_wp2
  go_quiet (fail)
  go_wp2
  all_goals go_ret2
  all_goals exact ⟨rfl, (h.drewN _).setTopI _ _ (by omega) (by omega) (by omega), ((Only.refl _ _).drewN _).setCell (Or.inr (Or.inl rfl)) _⟩
/-- The cells from f on, k of them, hold v. -/
def St.filled (s : St) (f k : Nat) (v : Int) : St := { s with C := fun j => if f ≤ j ∧ j < f + k then v else s.C j }
theorem filled_zero (s : St) (f : Nat) (v : Int) : s.filled f 0 v = s := by
  unfold St.filled
  congr 1
  funext j
  rw [if_neg (by omega)]
theorem filled_succ (s : St) (f k : Nat) (v : Int) : St.mk s.n s.base s.top (fun j => if j = f + k then v else (s.filled f k v).C j) s.H = s.filled f (k + 1) v := by
  unfold St.filled
  congr 1
  funext j
  show (if j = f + k then v else (if f ≤ j ∧ j < f + k then v else s.C j)) = _
  by_cases e : j = f + k
  · rw [if_pos e, if_pos (by omega)]
  · rw [if_neg e]
    by_cases e2 : f ≤ j ∧ j < f + k
    · rw [if_pos e2, if_pos (by omega)]
    · rw [if_neg e2, if_neg (by omega)]
theorem fill_any {p : Pl} {s : St} (f c : Nat) (v : Int) (w : World) (h : Ar w p s) (h1 : f + c ≤ 2 * s.n) (v0 : 0 ≤ v) (v1 : v ≤ 18446744073709551615) :
    Calls Try.prog 56 #[.pointer (some ⟨p.h, 0, none⟩), .int .i64 f, .int .i64 c, .int .u64 v] w fun e w' => e = .returned (.tuple #[]) ∧ Ar w' p (s.filled f c v) ∧ Only p.own w w' := by
  have n2 := h.n2
  go_enter Try.func56, Try.ntmps56
  go_wp2
  go_loopw [10] (fun i wr => ∃ k : Nat, k ≤ c ∧ i = .int .i64 k ∧ Ar wr p (s.filled f k v) ∧ Only p.own w wr) (fun i _ => c - (intOf i).toNat)
  case atStart => exact ⟨0, Nat.zero_le _, rfl, by rw [filled_zero]; exact h, Only.refl _ _⟩
  case round =>
    obtain ⟨k, hk, rfl, hr, ho⟩ := hrel
    obtain ⟨c0, c1, c2, c3, c4, c5, c6⟩ := hr.cells
    have en : (s.filled f k v).n = s.n := rfl
    rw [en] at c1 c2 c3
    by_cases hlt : k < c
    · have cc := hr.cellC (f + k) (by rw [en]; omega)
      have cf := hr.frozenC (f + k)
      clear en
      go_wp2
      go_roundw
      case rel => exact ⟨k + 1, by omega, by go_num, by rw [← filled_succ]; exact hr.setC _ v v0 v1, ho.setCell (Or.inr (Or.inr (Or.inl rfl))) _⟩
      case measure => simp [intOf]; omega
    · go_wp2
      go_end0
      have : k = c := by omega
      subst this
      exact ⟨rfl, hr, ho⟩
end Go.Proofs.Ytkgocnmeedkieaa
