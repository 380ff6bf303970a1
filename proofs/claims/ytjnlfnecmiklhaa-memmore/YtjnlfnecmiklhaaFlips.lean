/-
  What Flip makes of the arena's state; nothing but the arena's own blocks is written. Condition: the arena lies in memory (Ar).
-/
import Derived.Test.YtjnlfnecmiklhaaLibA
import Derived.Deep.RegionLaw
import Derived.Laws.IdiomCopy
import Derived.Deep.CutRange
namespace Go.Proofs.Ytjnlfnecmiklhaa
open Go.ChangeShapes Go.WideShapes Go.ChangeAt Go.RowKit Go.Deep
set_option linter.unusedVariables false
set_option maxHeartbeats 1000000

theorem zero_bools (k : Nat) : (Builtin.zeroCells #[Value.bool false] k).toList = List.replicate k (.bool false) := by
  unfold Builtin.zeroCells
  apply List.ext_getElem
  · simp
  · intro i h1 h2
    simp [Nat.mod_one]
theorem run_clear (w : World) (ty : TypeId) (b k cap : Nat) (hc : ∀ j, j < k → (w.cell? ⟨b, j, none⟩).isSome = true) (hf : ∀ j, j < k → w.frozen? ⟨b, j, none⟩ = false) :
    (Builtin.clear_ #[82] ty #[.slice (some ⟨b, 0, none⟩) k cap]).run Try.prog w = .ok (.tuple #[]) (w.setCells b 0 (List.replicate k (.bool false))) := by
  obtain ⟨i0, hi, hz0, hz1, hz2⟩ := info_parts Try.info4
  cases k with
  | zero => simp [Builtin.clear_, run_underlying Try.underlying82, World.setCells, Result.andThen]
  | succ k =>
    have hst := run_storeCells_cells (P := Try.prog) b 0 (List.replicate (k + 1) (.bool false)) 0 w (fun j hj => by simpa using hc j (by simpa using hj)) (fun j hj => by simpa using hf j (by simpa using hj)) (fun v hv => by rw [List.eq_of_mem_replicate hv]; rfl)
    have hzc : (Value.bool false).cells = #[.bool false] := rfl
    simp only [Nat.zero_add] at hst
    simp [Builtin.clear_, run_underlying Try.underlying82, zeroValue, typeInfo, hi, hz0, hzc, zero_bools, Result.andThen]
    rw [hst]
theorem step_clear {ops : Array Oper} {o : Oper} {a : Act} {w : World} {K : Act → World → Prop} {Q : Exit → Act → World → Prop} {E : Prop} (hg : o.guard = none) (x : Operand)
    (hop : o.op = Op.call { callee := Callee.builtin Builtin.clear, args := #[x], argTypes := #[82] }) (b k cap : Nat) (hx : a.eval x = .slice (some ⟨b, 0, none⟩) k cap)
    (hc : ∀ j, j < k → (w.cell? ⟨b, j, none⟩).isSome = true) (hf : ∀ j, j < k → w.frozen? ⟨b, j, none⟩ = false)
    (hK : K (a.put o.dst (.tuple #[])) (w.setCells b 0 (List.replicate k (.bool false)))) :
    if Region.wanted o (yielded ops a.tmps) = true then Oper.wp Try.prog o a w K Q else E := by
  have hw : Region.wanted o (yielded ops a.tmps) = true := by simp [Region.wanted, hg]
  rw [if_pos hw]
  have hrun := run_clear w o.type b k cap hc hf
  unfold Oper.wp
  simp [execOp, hop, resolve, invoke, builtin, hx, hrun, Result.andThen]
  exact hK
theorem Ar.clears {p : Pl} : ∀ (k o : Nat) (w : World) (s : St), Ar w p s → Ar (w.setCells p.b o (List.replicate k (.bool false))) p ⟨s.n, s.base, s.top, s.C, fun i => if o ≤ i ∧ i < o + k then false else s.H i⟩ := by
  intro k
  induction k with
  | zero =>
    intro o w s h
    have e : (fun i => if o ≤ i ∧ i < o + 0 then false else s.H i) = s.H := by
      funext i; rw [if_neg (by omega)]
    rw [e]; exact h
  | succ k ih =>
    intro o w s h
    have h2 := ih (o + 1) _ _ (h.setB o false)
    have e : (fun i => if o ≤ i ∧ i < o + (k + 1) then false else s.H i) = (fun i => if o + 1 ≤ i ∧ i < o + 1 + k then false else (if i = o then false else s.H i)) := by
      funext i
      by_cases e1 : i = o
      · subst e1
        rw [if_pos (by omega), if_neg (by omega), if_pos rfl]
      · by_cases e2 : o + 1 ≤ i ∧ i < o + 1 + k
        · rw [if_pos (by omega), if_pos e2]
        · rw [if_neg (by omega), if_neg e2, if_neg e1]
    rw [e]
    exact h2
theorem Only.clears {p : Pl} {w0 : World} : ∀ (k o : Nat) (w : World), Only p.own w0 w → Only p.own w0 (w.setCells p.b o (List.replicate k (.bool false))) := by
  intro k
  induction k with
  | zero => intro o w h; exact h
  | succ k ih => intro o w h; exact ih (o + 1) _ (h.setCell (Or.inr (Or.inr (Or.inr rfl))) _)
theorem Ar.turned {w : World} {p : Pl} {s : St} (h : Ar w p s) (b : Nat) (v : Int) (hv : v = b) (hb : b = 0 ∨ b = s.n) :
    Ar ((w.setCell ⟨p.h, 2, none⟩ (.int .i64 v)).setCell ⟨p.h, 3, none⟩ (.int .i64 v)) p ⟨s.n, b, b, s.C, s.H⟩ := by
  obtain ⟨e1, e2, e3, e4, e5, e6⟩ := h.nh
  subst hv
  exact { ha := by rw [blk_setCell_other _ _ _ _ e1, blk_setCell_other _ _ _ _ e1]; exact h.ha, hh := by simp [World.setCell, Array.getElem?_modify, h.hh], hb := (h.hb.setOther (Ne.symm e5) _).setOther (Ne.symm e5) _, hc := (h.hc.setOther (Ne.symm e4) _).setOther (Ne.symm e4) _,
          n1 := h.n1, n2 := h.n2, b1 := hb, t1 := Nat.le_refl _, t2 := Nat.le_add_right _ _, lo := h.lo, hi := h.hi }
theorem turn_any {p : Pl} {s : St} (w : World) (h : Ar w p s) :
    Calls Try.prog 94 #[.pointer (some ⟨p.h, 0, none⟩)] w fun e w' => e = .returned (.tuple #[]) ∧ Ar w' p ⟨s.n, s.n - s.base, s.n - s.base, s.C, s.H⟩ ∧ Only p.own w w' := by
  obtain ⟨c0, c1, c2, c3, c4, c5, c6⟩ := h.cells
  have n2 := h.n2; have b1 := h.b1; have t1 := h.t1; have t2 := h.t2
  have e1 := wrapId (s.n - s.base) (by omega) (by omega)
  go_enter Try.func94, Try.ntmps94
  go_wp2
  go_region
  all_goals go_wp2
  all_goals go_end0
  all_goals exact ⟨rfl, (h.turned (s.n - s.base) ((s.n : Int) - s.base) (by omega) (by omega)).drewN 1, (((Only.refl _ _).setCell (Or.inr (Or.inl rfl)) _).setCell (Or.inr (Or.inl rfl)) _).drewN 1⟩
theorem flip_any {p : Pl} {s : St} (w : World) (h : Ar w p s) :
    Calls Try.prog 89 #[.pointer (some ⟨p.a, 0, none⟩)] w fun e w' => e = .returned (.tuple #[]) ∧ Ar w' p s.flip ∧ Only p.own w w' := by
  obtain ⟨c0, c1, c2, c3, c4, c5, c6⟩ := h.cells
  have n2 := h.n2; have b1 := h.b1; have t1 := h.t1; have t2 := h.t2
  have e1 := wrapId (s.top - s.base) (by omega) (by omega)
  have x1 : (0 : Int) ≤ (s.top : Int) - s.base := by omega
  have x2 : (s.top : Int) - s.base ≤ s.n := by omega
  go_enter Try.func89, Try.ntmps89
  go_upto_region 1 with (go_at_call 41; refine (orNone_any _ h).mono ?_; rintro e w' ⟨rfl, hw'⟩; rw [hw']; clear hw' w')
  go_cut [] from 4 to 23 (fun wx => Ar wx p ⟨s.n, s.base, s.top, s.C, fun i => if 0 ≤ i ∧ i < 0 + (s.top - s.base) then false else s.H i⟩ ∧ Only p.own w wx)
  case first =>
    go_region_law (refine step_clear rfl (.tmp 23) rfl p.b (s.top - s.base) s.n (by simp [Act.eval, Act.put]) (fun j hj => by have := h.cellB j (by omega); simp [this]) (fun j hj => by have := h.frozenB j; simp [this]) ?_)
    all_goals (go_wp2_with fail; go_meet; exact ⟨Ar.clears _ _ _ _ (h.drewN 1), Only.clears _ _ _ ((Only.refl _ _).drewN 1)⟩)
  case rest =>
    obtain ⟨h2, o2⟩ := hcut
    have HS : Hid (s.flip = ⟨s.n, s.n - s.base, s.n - s.base, s.C, fun i => if 0 ≤ i ∧ i < 0 + (s.top - s.base) then false else s.H i⟩) := by
      show _ = _
      unfold St.flip
      congr 1
      funext i
      rw [Nat.zero_add]
      by_cases e : i < s.top - s.base
      · rw [if_pos e, if_pos ⟨Nat.zero_le _, e⟩]
      · rw [if_neg e, if_neg (fun c => e c.2)]
    clear c0 c1 c2 c3 c4 c5 c6
    obtain ⟨c0, c1, c2, c3, c4, c5, c6⟩ := h2.cells
    go_wp2_with (go_at_call 94; refine (turn_any _ h2).mono ?_; rintro e w3 ⟨rfl, h3, o3⟩)
    go_end0
    exact ⟨rfl, by rw [HS.out]; exact h3, o2.trans o3⟩
end Go.Proofs.Ytjnlfnecmiklhaa
