/-
  Layer 6: what the program's Compare tells. Condition: the arena lies in memory, in one state with a list of blocks; at most 90000 steps.
-/
import Derived.Test.YtcbgjkedmboifabQ6Hold
namespace Go.Proofs.Ytcbgjkedmboifab
open Go.ChangeShapes Go.WideShapes Go.ChangeAt Go.RowKit Go.Deep
set_option linter.unusedVariables false
set_option maxHeartbeats 1000000

variable {w w' : World} {kb : Nat} {O : Nat → Prop} {ws : List (Int × Int)} {room x y : Int} {p : Pl} {s : St} {r : RS}
theorem parts_ok (h : Ar w p s) (hr : Rep s r) (x : Int) : (ndW s r x).parts.length ≤ 4096 ∧ ∀ z, z ∈ (ndW s r x).parts → R64 z := by
  rcases nd_cases hr x with ⟨_, e⟩ | ⟨_, _, e⟩ | ⟨_, k, b, hk, hf, _, _, e⟩
  · rw [e]; exact ⟨Nat.zero_le _, fun z hz => by cases hz⟩
  · rw [e]; exact ⟨Nat.zero_le _, fun z hz => by cases hz⟩
  · have ht := hr.tag k b hk
    have hp : (ndB b (s.find x).2).parts = b.F ∨ (ndB b (s.find x).2).parts = [] := by
      unfold ndB
      split
      · exact Or.inr rfl
      · split
        · exact Or.inr rfl
        · split
          · cases readT b.F <;> exact Or.inr rfl
          · exact Or.inl rfl
    rw [e]
    rcases hp with c | c
    · rw [c]; exact ⟨ht.2.2, fun z hz => rep_rng h hr hk z hz⟩
    · rw [c]; exact ⟨Nat.zero_le _, fun z hz => by cases hz⟩
theorem pairs_ok (h : Ar w p s) (hr : Rep s r) {ps : List (Int × Int)} (e : pairOut (ndW s r) x y = (0, 0, ps)) : ps.length ≤ 4096 ∧ ∀ q, q ∈ ps → R64 q.1 ∧ R64 q.2 := by
  have hz : ps = [] ∨ ps = (ndW s r x).parts.zip (ndW s r y).parts := by
    unfold pairOut at e
    split at e
    · cases e
    · split at e
      · cases e
      · split at e
        · simp only [Prod.mk.injEq] at e; exact Or.inl e.2.2.symm
        · simp only [Prod.mk.injEq] at e
          split at e
          · exact Or.inr e.2.2.symm
          · exact Or.inl e.2.2.symm
  rcases hz with rfl | rfl
  · exact ⟨Nat.zero_le _, fun q hq => by cases hq⟩
  · obtain ⟨h1, h2⟩ := parts_ok h hr x
    obtain ⟨h3, h4⟩ := parts_ok h hr y
    refine ⟨by rw [List.length_zip]; omega, fun q hq => ?_⟩
    obtain ⟨a, b⟩ := q
    obtain ⟨q1, q2⟩ := List.of_mem_zip hq
    exact ⟨h2 _ q1, h4 _ q2⟩
/-- What holding a pair tells: two numbers. -/
def HoldIs (w : World) (O : Nat → Prop) (kb : Nat) (room : Int) (ws : List (Int × Int)) (P : Int × Int × List (Int × Int)) (a b : Int) (w' : World) : Prop :=
  (P.1 ≠ 0 ∧ (a = 0 ∧ b = P.1) ∧ Only O w w') ∨ (P.1 = 0 ∧ P.2.1 ≠ 0 ∧ (a = P.2.1 ∧ b = 0) ∧ Only O w w') ∨
  (∃ ps, P = (0, 0, ps) ∧ ((ps ≠ [] ∧ room < 2 * (ps.length + ws.length : Nat) ∧ (a = 0 ∧ b = 11) ∧ Only O w w') ∨ ((ps ≠ [] → 2 * ((ps.length + ws.length : Nat) : Int) ≤ room) ∧ (a = 0 ∧ b = 0) ∧ ∃ O', PW w' O' kb (ps ++ ws) room ∧ Grows O O' w w')))
theorem hold_two (x y : Int) (w : World) (hA : ∀ w', Only O w w' → Ar w' p s) (hr : Rep s r) (hp : PW w O kb ws room) (hl : ws.length ≤ 390000000) (x0 : 0 ≤ x) (x1 : x ≤ 18446744073709551615) (y0 : 0 ≤ y) (y1 : y ≤ 18446744073709551615) :
    Calls Try.prog 19 #[.pointer (some ⟨kb, 0, none⟩), .pointer (some ⟨p.a, 0, none⟩), .agg #[.int .u64 x, .int .u64 y]] w fun e w' => ∃ a b, e = .returned (.tuple #[.int .i64 a, .int .i64 b]) ∧ HoldIs w O kb room ws (pairOut (ndW s r) x y) a b w' := by
  refine (hold_any x y w hA hr hp hl x0 x1 y0 y1).mono ?_
  rintro e w' (⟨h1, rfl, h2⟩ | ⟨h1, h3, rfl, h2⟩ | ⟨ps, h1, ⟨h3, h4, rfl, h2⟩ | ⟨h3, rfl, O6, h4, h5⟩⟩)
  · exact ⟨_, _, rfl, Or.inl ⟨h1, ⟨rfl, rfl⟩, h2⟩⟩
  · exact ⟨_, _, rfl, Or.inr (Or.inl ⟨h1, h3, ⟨rfl, rfl⟩, h2⟩)⟩
  · exact ⟨_, _, rfl, Or.inr (Or.inr ⟨ps, h1, Or.inl ⟨h3, h4, ⟨rfl, rfl⟩, h2⟩⟩)⟩
  · exact ⟨_, _, rfl, Or.inr (Or.inr ⟨ps, h1, Or.inr ⟨h3, ⟨rfl, rfl⟩, O6, h4, h5⟩⟩)⟩
/-- Where the loop over the pairs is. -/
def CmpPAt (nd : Int → Nd) (room : Int) (K : Nat) (res : Int × Int × Int) (w : World) (tv : Value) (wr : World) : Prop :=
  ∃ (ws : List (Int × Int)) (t : Nat) (O : Nat → Prop), t ≤ K ∧ tv = .int .i64 t ∧ PW wr O w.heap.size ws room ∧ (∀ q, q ∈ ws → R64 q.1 ∧ R64 q.2) ∧ ws.length ≤ 4096 * t + 1 ∧ res = ((goC nd room (K - t) ws).1, (goC nd room (K - t) ws).2.1 + t, (goC nd room (K - t) ws).2.2) ∧ Below w.heap.size w wr ∧ ∀ k, O k → w.heap.size ≤ k
def ret3V (t : Int × Int × Int) : Ending := .returned (.tuple #[.int .i64 t.1, .int .i64 t.2.1, .int .i64 t.2.2])
theorem work_first (w : World) (room : Int) : PW (w.alloc (.cells #[.slice none 0 0, .int .i64 room] 53)) (fun k => k = w.heap.size) w.heap.size [] room :=
  ⟨.slice none 0 0, blk_alloc_new _ _, ⟨rfl, (fun k e => by cases e), fun q hq => by rw [nblk_alloc, hq]; omega⟩, rfl, Or.inl ⟨rfl, rfl⟩⟩
set_option maxRecDepth 100000 in
set_option maxHeartbeats 8000000 in
theorem compare_any (x y room steps : Int) (w : World) (h : Ar w p s) (hr : Rep s r) (x0 : 0 ≤ x) (x1 : x ≤ 18446744073709551615) (y0 : 0 ≤ y) (y1 : y ≤ 18446744073709551615) (hs : steps ≤ 90000) :
    Calls Try.prog 9 #[.pointer (some ⟨p.a, 0, none⟩), .int .u64 x, .int .u64 y, .int .i64 room, .int .i64 steps] w fun e w' => e = ret3V (cmpC (ndW s r) x y room steps) ∧ Below w.heap.size w w' := by
  have HA := hidden h
  have HW := hidden (work_first w room)
  have HB0 : Hid (Below w.heap.size w (w.alloc (.cells #[.slice none 0 0, .int .i64 room] 53))) := (Below.refl _ _).alloc (Nat.le_refl _) _
  obtain ⟨res, hres⟩ : ∃ res, cmpC (ndW s r) x y room steps = res := ⟨_, rfl⟩
  rw [hres]
  have HR := hidden hres
  clear hres h
  by_cases hrm : room < 2
  · have HE : Hid (res = (0, 0, 11)) := by show _ = _; rw [← HR.out]; unfold cmpC; rw [if_pos hrm]
    go_enter Try.func9, Try.ntmps9
    go_upto_region 2 with fail
    generalize w.alloc (.cells #[.slice none 0 0, .int .i64 room] 53) = w0 at *
    go_wp2_with (go_at_call 17; refine (put_no x y _ HW.out (by simp) (by simp; omega)).mono ?_; rintro e w1 ⟨rfl, hb1⟩; have B1 : Hid (Below w.heap.size w w1) := HB0.out.trans (hb1.mono HB0.out.size); clear hb1)
    all_goals go_ret3
    all_goals exact ⟨by rw [HE.out]; rfl, B1.out⟩
  · have HG : Hid (goC (ndW s r) room steps.toNat [(x, y)] = res) := by show _ = _; rw [← HR.out]; unfold cmpC; rw [if_neg hrm]
    clear HR
    go_enter Try.func9, Try.ntmps9
    go_upto_region 2 with fail
    generalize w.alloc (.cells #[.slice none 0 0, .int .i64 room] 53) = w0 at *
    go_wp2_with (go_at_call 17; refine (put_yes x y _ HW.out (by simp) (by simp; omega)).mono ?_; rintro e w1 ⟨rfl, O1, hp1, hg1⟩; have P1 := hidden hp1; have G1 := hidden hg1; clear hp1 hg1)
    clear HW
    go_loopw [15] (fun tv wr => CmpPAt (ndW s r) room steps.toNat res w tv wr) (fun tv _ => (steps - intOf tv).toNat)
    case atStart => exact ⟨[(x, y)], 0, O1, Nat.zero_le _, rfl, P1.out, fun q hq => by rw [List.mem_singleton.1 hq]; exact ⟨⟨x0, x1⟩, y0, y1⟩, by simp, by rw [Nat.sub_zero, HG.out]; simp, HB0.out.trans (G1.out.below HB0.out.size (fun q hq => by rw [hq]; exact Nat.le_refl _)), G1.out.ge HB0.out.size (fun q hq => by rw [hq]; exact Nat.le_refl _)⟩
    case round =>
      clear P1 G1 HB0 HG x0 x1 y0 y1
      obtain ⟨ws, t, O, ht, rfl, hpw, hws, hwl, hgo, hbl, hO⟩ := hrel
      have HGO := hidden hgo
      have HBL := hidden hbl
      have HWS := hidden hws
      have HPW := hidden hpw
      have HOO := hidden hO
      clear hgo hbl hws hpw hO
      cases ws with
      | nil =>
        have HE : Hid (res = (0, (t : Int), 0)) := by
          show _ = _
          rw [HGO.out]
          have e : ∀ k, goC (ndW s r) room k [] = (0, 0, 0) := fun k => by cases k <;> (unfold goC; rfl)
          rw [e]; simp
        go_wp2_with (go_at_call 18; refine (done_is (b := true) _ HPW.out rfl).mono ?_; rintro e w' ⟨rfl, hw'⟩; rw [hw']; clear hw' w')
        all_goals go_ret3
        all_goals exact ⟨by rw [HE.out]; rfl, HBL.out⟩
      | cons xy ws =>
        obtain ⟨x, y⟩ := xy
        obtain ⟨⟨x0, x1⟩, y0, y1⟩ := HWS.out (x, y) List.mem_cons_self
        simp only at x0 x1 y0 y1
        have HW2 : Hid (∀ q, q ∈ ws → R64 q.1 ∧ R64 q.2) := fun q hq => HWS.out q (List.mem_cons_of_mem _ hq)
        have hwl2 : ws.length ≤ 4096 * t := by simpa using hwl
        clear HWS hwl
        by_cases hst : steps ≤ (t : Int)
        · have HE : Hid (res = (0, (t : Int), 13)) := by
            show _ = _
            rw [HGO.out, show steps.toNat - t = 0 from by omega]
            simp [goC]
          go_wp2_with (go_at_call 18; refine (done_is (b := false) _ HPW.out rfl).mono ?_; rintro e w' ⟨rfl, hw'⟩; rw [hw']; clear hw' w')
          all_goals go_ret3
          all_goals exact ⟨by rw [HE.out]; rfl, HBL.out⟩
        · have hst2 : (t : Int) < steps := by omega
          obtain ⟨m, hm⟩ : ∃ m, steps.toNat - t = m + 1 := ⟨steps.toNat - t - 1, by omega⟩
          rw [hm] at HGO
          have HM : Hid (steps.toNat - (t + 1) = m) := by show _ = _; omega
          clear hm
          have HAO : Hid (∀ w5, Grows O O wr w5 → ∀ w', Only O w5 w' → Ar w' p s) := fun w5 g5 w' o => by
            have b5 : Below w.heap.size w w5 := HBL.out.trans (g5.below HBL.out.size HOO.out)
            exact HA.out.under (b5.trans (o.below b5.size (fun k hk c => by have := HOO.out k c; omega)))
          go_upto_region 11 with (first
            | (go_at_call 18; refine (done_is (b := false) _ HPW.out rfl).mono ?_; rintro e w' ⟨rfl, hw'⟩; rw [hw']; clear hw' w')
            | (go_at_call 20; refine (take_any _ HPW.out (by omega)).mono ?_; rintro e w5 ⟨rfl, hp5, hg5⟩; have P5 := hidden hp5; have G5 := hidden hg5; clear hp5 hg5)
            | (go_at_call 19; refine (hold_two (r := r) x y _ (HAO.out _ G5.out) hr P5.out (by omega) x0 x1 y0 y1).mono ?_; rintro e w6 ⟨a, b, rfl, h6⟩; have H6 := hidden h6; clear h6))
          have B5 : Hid (Below w.heap.size w w5) := HBL.out.trans (G5.out.below HBL.out.size HOO.out)
          have HBB : Hid (∀ w', Only O w5 w' → Below w.heap.size w w') := fun w' o => B5.out.trans (o.below B5.out.size (fun k hk c => by have := HOO.out k c; omega))
          rcases H6.out with ⟨h1, ⟨rfl, hb⟩, h2⟩ | ⟨h1, h3, ⟨ha, rfl⟩, h2⟩ | ⟨ps, h1, ⟨h3, h4, ⟨rfl, rfl⟩, h2⟩ | ⟨h3, ⟨rfl, rfl⟩, O6, h4, h5⟩⟩
          · rw [← hb] at h1
            have hbb : (b != 0) = true := by simp [h1]
            have HE : Hid (res = (0, (t : Int) + 1, b)) := by
              show _ = _
              rw [HGO.out, goC_err (E := b) hb.symm h1]
              simp; omega
            have B6 := hidden (HBB.out _ h2)
            clear h1 hb h2 H6 HGO
            go_wp2_with fail
            all_goals go_ret3
            all_goals exact ⟨by rw [HE.out]; rfl, B6.out⟩
          · rw [← ha] at h3
            have hbb : (a != 0) = true := by simp [h3]
            have HE : Hid (res = (a, (t : Int) + 1, 0)) := by
              show _ = _
              rw [HGO.out, goC_dec h1 ha.symm h3]
              simp; omega
            have B6 := hidden (HBB.out _ h2)
            clear h1 ha h2 h3 H6 HGO
            go_wp2_with fail
            all_goals go_ret3
            all_goals exact ⟨by rw [HE.out]; rfl, B6.out⟩
          · have HE : Hid (res = (0, (t : Int) + 1, 11)) := by
              show _ = _
              rw [HGO.out, goC_full h1 h3 h4]
              simp; omega
            have B6 := hidden (HBB.out _ h2)
            clear h1 h2 h3 h4 H6 HGO
            go_wp2_with fail
            all_goals go_ret3
            all_goals exact ⟨by rw [HE.out]; rfl, B6.out⟩
          · have HE : Hid (res = ((goC (ndW s r) room m (ps ++ ws)).1, (goC (ndW s r) room m (ps ++ ws)).2.1 + ((t + 1 : Nat) : Int), (goC (ndW s r) room m (ps ++ ws)).2.2)) := by
              show _ = _
              rw [HGO.out, goC_next h1 h3]
              simp; omega
            have PO := hidden (pairs_ok HA.out hr h1)
            have B6 := hidden (HBB.out _ h5.only)
            have P6 := hidden h4
            have O6K := hidden (h5.ge B5.out.size HOO.out)
            clear h1 h3 h4 h5 H6 HGO
            go_wp2_with fail
            all_goals go_roundw
            case rel => exact ⟨ps ++ ws, t + 1, O6, by omega, by go_num, P6.out, fun q hq => by rcases List.mem_append.1 hq with c | c; exact PO.out.2 q c; exact HW2.out q c, by rw [List.length_append]; have := PO.out.1; omega, by rw [HM.out]; exact HE.out, B6.out, O6K.out⟩
            case measure => simp [intOf]; omega
end Go.Proofs.Ytcbgjkedmboifab
