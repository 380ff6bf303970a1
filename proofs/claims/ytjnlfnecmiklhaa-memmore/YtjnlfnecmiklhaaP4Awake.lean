/-
  Layer 4's statements: awake returns true. Condition: none but what New, Alloc and Count tell.
-/
import Derived.Test.YtjnlfnecmiklhaaP4Alloc
import Derived.Test.YtjnlfnecmiklhaaL4Pure
namespace Go.Proofs.Ytjnlfnecmiklhaa
open Go.ChangeShapes Go.WideShapes Go.ChangeAt Go.RowKit Go.Deep
set_option linter.unusedVariables false
set_option maxHeartbeats 2000000

def wk0 : St := St.new 8
def wr0 : RS := ⟨8, 0, []⟩
def wk1 : St := wk0.alloc 1 2
def wr1 : RS := wr0.after wk0 1 2
def wk2 : St := wk1.alloc 2 2
def wr2 : RS := wr1.after wk1 2 2
def wr3 : RS := ⟨8, 1, [⟨9, 1, [1, 1]⟩]⟩
def wr4 : RS := ⟨8, 1, [⟨9, 1, [1, 1]⟩, ⟨12, 3, [1, 1]⟩]⟩
def wk4 : St := ((wk0.flip).alloc 1 2).alloc 3 2
theorem wk_e1 : wk0.allocE 1 2 = 0 ∧ wk0.allocW 1 2 = 2 := by refine ⟨?_, ?_⟩ <;> kernel_rfl
theorem wk_e2 : wk1.allocE 2 2 = 0 ∧ wk1.allocW 2 2 = 8 := by refine ⟨?_, ?_⟩ <;> kernel_rfl
theorem wk_e3 : wk2.allocE 3 2 = 10 := by kernel_rfl
theorem wk_reach : reachG wk2 wr2 [2] = [0] := by kernel_rfl
theorem wk_len : lenG wr2 [0] = 3 ∧ wr2.n = 8 := by refine ⟨?_, ?_⟩ <;> kernel_rfl
theorem wk_coll : collR wk2 wr2 [2] = wr3 := by kernel_rfl
theorem wk_w : collW wk2 wr2 [2] 2 = 18 := by kernel_rfl
theorem wk_flip : Good wk0.flip wr0.flip := ⟨rep_flip (rep_new 8), fun _ => Int.le_refl 0, fun _ => (by decide : (0 : Int) ≤ 18446744073709551615), by decide, by decide, by decide⟩
theorem wk_good4 : Good wk4 wr4 := by
  have h := good_alloc (good_alloc wk_flip 1 2) 3 2
  have e : (wr0.flip.after wk0.flip 1 2).after (wk0.flip.alloc 1 2) 3 2 = wr4 := by kernel_rfl
  rw [e] at h
  exact h
theorem wk_reach4 : reachG wk4 wr4 [18, 24] = [0, 1] := by kernel_rfl
theorem wk_len4 : lenG wr4 [0, 1] = 6 := by kernel_rfl
theorem wk_top3 {s3 : St} (h : Good s3 wr3) : s3.n = 8 ∧ s3.base = 8 ∧ s3.top = 11 := by
  have h1 := h.rep.n
  have h2 := h.rep.base
  have h3 := h.rep.top
  have e1 : wr3.n = 8 := rfl
  have e2 : wr3.n * wr3.which = 8 := rfl
  have e3 : lenB wr3.L = 3 := by kernel_rfl
  omega
theorem wk_s3 {s3 : St} (h : Good s3 wr3) : s3.allocE 3 2 = 0 ∧ s3.allocW 3 2 = 24 ∧ wr3.after s3 3 2 = wr4 := by
  obtain ⟨h1, h2, h3⟩ := wk_top3 h
  have e : s3.allocE 3 2 = 0 := by
    unfold St.allocE
    rw [if_neg (by decide), if_neg (by decide), h1, h2, h3, if_neg (by decide)]
  refine ⟨e, ?_, ?_⟩
  · unfold St.allocW; rw [if_pos e, h3]; rfl
  · unfold RS.after; rw [if_pos e]; unfold RS.alloc; rw [h3]; rfl
theorem wk_s4 {s4 : St} (h : Good s4 wr4) : s4.allocE 0 4 = 10 := by
  have h1 := h.rep.n
  have h2 := h.rep.base
  have h3 := h.rep.top
  have e1 : wr4.n = 8 := rfl
  have e2 : wr4.n * wr4.which = 8 := rfl
  have e3 : lenB wr4.L = 6 := by kernel_rfl
  have q1 : s4.n = 8 := by omega
  have q2 : s4.base = 8 := by omega
  have q3 : s4.top = 14 := by omega
  unfold St.allocE
  rw [if_neg (by decide), if_neg (by decide), q1, q2, q3, if_pos (by decide)]
def lit4 (a b : Int) (i : Nat) : Int := if i = 0 then a else b
theorem ws_nil (w : World) (X : Nat → Int) : WS w none 0 0 X := ⟨fun _ => ⟨rfl, rfl⟩, fun i hi => absurd hi (Nat.not_lt_zero _), fun i hi => absurd hi (Nat.not_lt_zero _), fun i hi => absurd hi (Nat.not_lt_zero _)⟩
theorem ws_one (w : World) (v : Int) (h0 : 0 ≤ v) (h1 : v ≤ 18446744073709551615) : WS (w.alloc (.cells #[.int .u64 v] 54)) (some ⟨w.heap.size, 0, none⟩) 1 1 (fun _ => v) := by
  refine ws_own ⟨_, blk_alloc_new _ _, fun i hi => ?_⟩ (fun _ _ => h0) (fun _ _ => h1)
  have : i = 0 := by omega
  subst this; rfl
theorem ws_two (w : World) (u v : Int) (h0 : 0 ≤ u) (h1 : u ≤ 18446744073709551615) (k0 : 0 ≤ v) (k1 : v ≤ 18446744073709551615) : WS (w.alloc (.cells #[.int .u64 u, .int .u64 v] 54)) (some ⟨w.heap.size, 0, none⟩) 2 2 (lit4 u v) := by
  refine ws_own ⟨_, blk_alloc_new _ _, fun i hi => ?_⟩ (fun i _ => ?_) (fun i _ => ?_)
  · rcases (show i = 0 ∨ i = 1 by omega) with rfl | rfl <;> rfl
  · unfold lit4; split <;> omega
  · unfold lit4; split <;> omega
theorem PI.alloc {kb : Nat} {p : Pl} {w : World} {s : St} {r : RS} {k : Int} (h : PI kb p w s r k) (o : Obj) : PI kb p (w.alloc o) s r k := h.frame (S := fun _ => False) ((Only.refl _ _).alloc o) (fun _ _ => id)
theorem only_up {kb B : Nat} {p : Pl} {w0 w w' : World} (hb : Below B w0 w) (hB : B ≤ w0.heap.size) (o : Only (Pown kb p) w w') (hp : ∀ q, Pown kb p q → B ≤ q) : Below B w0 w' := hb.trans (o.below (Nat.le_trans hB hb.size) (fun q hq hs => by have := hp q hs; omega))
set_option maxRecDepth 100000 in
theorem awake4_any (w : World) : Calls Try.prog 7 #[] w fun e w' => e = .returned (.bool true) ∧ Below w.heap.size w w' := by
  go_enter Try.func7, Try.ntmps7
  go_wp2_with fail
  refine (mNew_yes 8 _ (by omega) (by omega)).mono ?_
  rintro e w0 ⟨kb, p, rfl, i0, b0, l0⟩
  have HL := hidden l0
  have hI0 : PI kb p w0 wk0 wr0 0 := i0
  obtain ⟨q0, q1, q2⟩ := i0.cells
  have I0 := hidden hI0
  have B0 := hidden b0
  clear i0 b0 l0 hI0
  go_upto_region 4 with (go_at_call 16; refine (mArena _ q0).mono ?_; rintro e w' ⟨rfl, hw'⟩; rw [hw']; clear hw' w')
  go_wp2_with fail
  refine (mAlloc_yes (X := fun _ => 0) (t := 1) (z := 2) _ I0.out (ws_nil _ _) (by omega) wk_e1.1).mono ?_
  rintro e w1 ⟨now1, rfl, i1, o1, _⟩
  rw [wk_e1.2]
  have I1 : Hid (PI kb p w1 wk1 wr1 0) := i1
  have B1 := hidden (only_up B0.out (Nat.le_refl _) o1 HL.out)
  clear i1 o1 I0 B0 q0 q1 q2
  go_wp2_with fail
  refine (mAlloc_yes (t := 2) (z := 2) _ (I1.out.alloc _) (ws_one w1 2 (by omega) (by omega)) (by omega) wk_e2.1).mono ?_
  rintro e w2 ⟨now2, rfl, i2, o2, _⟩
  rw [wk_e2.2]
  have I2 : Hid (PI kb p w2 wk2 wr2 0) := i2
  have B2 := hidden (only_up (B1.out.alloc B1.out.size _) (Nat.le_refl _) o2 HL.out)
  clear i2 o2 I1 B1
  go_wp2_with fail
  refine (mAlloc_room (t := 3) (z := 2) _ (I2.out.alloc _) (ws_one w2 2 (by omega) (by omega)) (by omega) wk_e3 (by
    have e : reachG wk2 wr2 (listX (fun _ => 2) 1) = [0] := wk_reach
    rw [e, wk_len.1, wk_len.2]; decide)).mono ?_
  rintro e w3 ⟨s3, g3, now3, rfl, i3, o3, f3⟩
  have g3' : Good s3 wr3 := by
    have e : collR wk2 wr2 (listX (fun _ => 2) 1) = wr3 := wk_coll
    rw [← e]; exact g3
  obtain ⟨a3, a4, a5⟩ := wk_s3 g3'
  rw [a4]
  obtain ⟨al3, c3, rfl, x3, fr3, og3⟩ := f3 rfl
  obtain ⟨g3c, rfl, own3⟩ := og3 (fun e => by cases e)
  have I3 : Hid (PI kb p w3 (s3.alloc 3 2) wr4 1) := by
    have e : (collR wk2 wr2 (listX (fun _ => 2) 1)).after s3 3 2 = wr4 := by
      rw [show collR wk2 wr2 (listX (fun _ => 2) 1) = wr3 from wk_coll]; exact a5
    rw [← e]
    exact (show wrap64 (0 + 1) = 1 from by unfold wrap64; omega) ▸ i3
  have B3 := hidden (only_up (B2.out.alloc B2.out.size _) (Nat.le_refl _) o3 HL.out)
  have X3 := hidden own3
  have FR3 := hidden fr3
  have LT2 := hidden (I2.out.alloc (.cells #[.int .u64 2] 54)).lt
  clear i3 o3 I2 B2 g3 g3' a3 a4 a5 x3 fr3 f3 own3 og3
  go_wp2_with fail
  refine (mAlloc_full (t := 0) (z := 4) _ (I3.out.alloc _) (ws_two w3 18 24 (by omega) (by omega) (by omega) (by omega)) (by omega) (wk_s4 I3.out.good) (by
    have e : reachG (s3.alloc 3 2) wr4 (listX (lit4 18 24) 2) = [0, 1] := by
      rw [agree_reach I3.out.good wk_good4]; exact wk_reach4
    rw [e, wk_len4]; decide)).mono ?_
  rintro e w4 ⟨now4, rfl, i4, o4, _⟩
  obtain ⟨q0, q1, q2⟩ := i4.cells
  have B4 := hidden (only_up (B3.out.alloc B3.out.size _) (Nat.le_refl _) o4 HL.out)
  have X4 := (X3.out.frame (S := fun _ => False) ((Only.refl _ _).alloc (.cells #[.int .u64 18, .int .u64 24] 54)) id).frame o4 (fun hc => by
    have h1 := FR3.out _ rfl
    have h2 := LT2.out _ hc
    simp only at h1
    omega)
  have hc2 : w4.cell? ⟨g3c, 0, none⟩ = some (.int .u64 18) := by
    rw [X4.cell (by omega)]
    exact congrArg (fun x => some (Value.int .u64 x)) wk_w
  clear i4 o4 X3 X4 FR3 LT2 I3 B3
  go_wp2_with (go_at_call 15; refine (mCount _ q1).mono ?_; rintro e w' ⟨rfl, hw'⟩; rw [hw']; clear hw' w')
  all_goals go_ret
  all_goals exact ⟨rfl, B4.out⟩
end Go.Proofs.Ytjnlfnecmiklhaa
