/-
  Layer 4's statements: what their play does with whatever lays and collects: step by step what that does. Condition: what is handed to it does what is said of it, and keeps to its own blocks.
-/
import Derived.Test.YtjnlfnecmiklhaaL4Mach
import Derived.Test.YtjnlfnecmiklhaaRefAlloc
namespace Go.Proofs.Ytjnlfnecmiklhaa
open Go.ChangeShapes Go.WideShapes Go.ChangeAt Go.RowKit Go.Deep
set_option linter.unusedVariables false
set_option maxHeartbeats 2000000
section
variable {τ : Type} {d : Doer τ}
/-- What play hands back, and how all lies then. -/
def PlayAs (d : Doer τ) (f : Bool) (T : Nat → St4) (a0 : τ) (n : Nat) (w : World) (e : Ending) (w' : World) : Prop := ∃ g c ge ce a X E, e = .returned (.tuple #[.slice (some ⟨g, 0, none⟩) 8 c, .slice (some ⟨ge, 0, none⟩) n ce]) ∧ playR d.M f T a0 n E a X ∧ PB d w a0 w' a g X ge ce n E
theorem ones_made (w : World) : Own (w.alloc (.cells (madeCells #[.int .u64 0] 8) 54)) w.heap.size 8 (fun _ => 0) := by
  obtain ⟨cur, h1, _, h2⟩ := World.rowIs_made w (.int .u64 0) 8 54
  exact ⟨cur, h1, h2⟩
/-- The first j places hold the number nought. -/
def onesTo (j k : Nat) : Int := if k < j then 1 else 0
theorem ones_step {w : World} {g j : Nat} (h : Own w g 8 (onesTo j)) : Own (w.setCell ⟨g, j, none⟩ (.int .u64 1)) g 8 (onesTo (j + 1)) := by
  refine (h.set j 1).congr (fun k hk => ?_)
  unfold onesTo
  by_cases e : k = j
  · subst e; rw [if_pos rfl, if_pos (by omega)]
  · rw [if_neg e]
    by_cases e2 : k < j
    · rw [if_pos e2, if_pos (by omega)]
    · rw [if_neg e2, if_neg (by omega)]
/-- The world in which play begins. -/
def pW (d : Doer τ) (w : World) : World := (w.alloc (.cells #[.func (.func d.va.fn) d.va.first d.va.cap, .func (.func d.vf.fn) d.vf.first d.vf.cap, .func (.func d.vg.fn) d.vg.first d.vg.cap, .func (.func d.vs.fn) d.vs.first d.vs.cap, .func (.func d.vz.fn) d.vz.first d.vz.cap] 38)).alloc (.cells (madeCells #[.int .u64 0] 8) 54)
theorem pW_start (hd : Does d) {w wr : World} {a0 : τ} (hI : d.I w a0) (ho : Own wr (w.heap.size + 1) 8 (onesTo 8)) (k : Only (fun q => q = w.heap.size + 1) (pW d w) wr) :
    PB d w a0 (wr.alloc (.cells #[] 58)) a0 (w.heap.size + 1) (fun _ => 1) wr.heap.size 0 0 (fun _ => 0) := by
  have hsz : (pW d w).heap.size = w.heap.size + 2 := by unfold pW; rw [nblk_alloc, nblk_alloc]
  have hlt := hd.lt hI
  have o0 : Only (fun _ => False) w (pW d w) := ((Only.refl _ w).alloc _).alloc _
  have hw := k.size
  refine ⟨?_, ?_, fun i _ => ⟨by decide, by decide⟩, fun hc => by have := hlt _ hc; omega, ?_, fun hc => by have := hlt _ hc; omega, ?_, fun hc => by have := hlt _ hc; omega, ?_, fun q hq => Or.inl hq, by omega⟩
  · have h1 := hd.frame hI o0 (fun _ _ => id)
    have h2 := hd.frame h1 k (fun q hq e => by have := hlt q hq; omega)
    exact hd.frame h2 ((Only.refl (fun _ => False) _).alloc _) (fun _ _ => id)
  · exact (Own.of_block (w := wr) ho (blk_alloc_lt _ _ _ ho.lt)).congr (fun i hi => by unfold onesTo; rw [if_pos hi])
  · exact ⟨rfl, .inr ⟨wr.heap.size, 0, #[], rfl, by omega, blk_alloc_new _ _, Nat.le_refl _, Nat.zero_le _, rfl, rfl⟩⟩
  · rw [blk_alloc_lt _ _ _ (by omega), k.block _ (by omega) (by omega)]
    unfold pW
    rw [blk_alloc_lt _ _ _ (by rw [nblk_alloc]; omega)]
    exact blk_alloc_new _ _
  · refine ⟨k.os, k.tape, k.output, by rw [nblk_alloc]; omega, fun q hq hs => ?_⟩
    rw [blk_alloc_lt _ _ _ (by omega), k.block _ (by omega) (by omega)]
    exact o0.block q hq id
/-- Behind j steps. -/
def LoopR (d : Doer τ) (f : Bool) (T : Nat → St4) (a0 : τ) (len : Nat) (w : World) (hv ev iv : Value) (wr : World) : Prop := ∃ j g c ge ce a X E, iv = .int .i64 (j : Nat) ∧ hv = .slice (some ⟨g, 0, none⟩) 8 c ∧ ev = .slice (some ⟨ge, 0, none⟩) j ce ∧ j ≤ len ∧ j ≤ 80 ∧ playR d.M f T a0 j E a X ∧ PB d w a0 wr a g X ge ce j E
theorem one_cell4 (w : World) (u : Value) (t : TypeId) : (w.alloc (.cells #[u] t)).cell? ⟨w.heap.size, 0, none⟩ = some u := by
  have key : ∀ (w' : World) (b : Nat), w'.heap[b]? = some (.cells #[u] t (0, 0)) → w'.cell? ⟨b, 0, none⟩ = some u := fun w' b h => by simp [World.cell?, h]
  exact key _ _ (blk_alloc_new _ _)
/-- Behind the collection that is forced, or without one. -/
def ForcedR (d : Doer τ) (f : Bool) (w0 : World) (a0 a : τ) (X : Nat → Int) (ge ce j : Nat) (E : Nat → Int) (sb : Nat) (st : St4) (hv : Value) (wx : World) : Prop := ∃ g1 c1 a1 X1, hv = .slice (some ⟨g1, 0, none⟩) 8 c1 ∧ (if f then d.M.fo a X X1 a1 else a1 = a ∧ X1 = X) ∧ PB d w0 a0 wx a1 g1 X1 ge ce j E ∧ SB d wx a1 sb st
theorem playR_congr {M : Mach τ} {f : Bool} {T : Nat → St4} {a0 : τ} : ∀ {n : Nat} {E E' : Nat → Int} {a : τ} {X : Nat → Int}, playR M f T a0 n E a X → (∀ i, i < n → E i = E' i) → playR M f T a0 n E' a X
  | 0, _, _, _, _, h, _ => h
  | n + 1, _, _, _, _, ⟨a1, X1, h1, h2⟩, he => ⟨a1, X1, playR_congr h1 (fun i hi => he i (by omega)), by rw [← he n (by omega)]; exact h2⟩
theorem play_succ {M : Mach τ} {f : Bool} {T : Nat → St4} {a0 a a1 a2 : τ} {n : Nat} {E : Nat → Int} {X X1 X2 : Nat → Int} {e : Int} {st : St4} (h : playR M f T a0 n E a X) (hst : st = T n) (hf : if f then M.fo a X X1 a1 else a1 = a ∧ X1 = X) (hs : stepR M st a1 X1 e a2 X2) : playR M f T a0 (n + 1) (putX E n e) a2 X2 := by
  refine ⟨a, X, playR_congr h (fun i hi => by unfold putX; rw [if_neg (by omega)]), a1, X1, hf, ?_⟩
  have e2 : putX E n e n = e := by unfold putX; rw [if_pos rfl]
  rw [← hst, e2]; exact hs
theorem kN {a n : Int} (h0 : ¬ n ≤ 0) (h1 : n ≤ 100000) : wrap64 ((IntKind.u64.wrap a).tmod n) = (a % 18446744073709551616) % n ∧ 0 ≤ (a % 18446744073709551616) % n ∧ (a % 18446744073709551616) % n ≤ 100000 := by
  have e1 : IntKind.u64.wrap a = a % 18446744073709551616 := by rw [IntKind.wrap_u64]
  have b1 := Int.emod_nonneg (a % 18446744073709551616) (b := n) (by omega)
  have b2 := Int.emod_lt_of_pos (a % 18446744073709551616) (b := n) (by omega)
  refine ⟨?_, b1, by omega⟩
  rw [e1, Int.tmod_eq_emod_of_nonneg (by omega)]
  unfold wrap64
  omega
set_option maxRecDepth 100000 in
theorem play_any (hd : Does d) {al : Option Addr} {len cap : Nat} {T : Nat → St4} (f : Bool) (w : World) (a0 : τ) (hI : d.I w a0) (hT : SS4 w al len cap T) (hlo : ∀ x, al = some x → 0 < len → ¬ d.own a0 x.block ∧ x.block < w.heap.size) (hlen : len ≤ maxLen) :
    Calls Try.prog 10 #[.agg #[.func (.func d.va.fn) d.va.first d.va.cap, .func (.func d.vf.fn) d.vf.first d.vf.cap, .func (.func d.vg.fn) d.vg.first d.vg.cap, .func (.func d.vs.fn) d.vs.first d.vs.cap, .func (.func d.vz.fn) d.vz.first d.vz.cap], .slice al len cap, .bool f] w fun e w' => PlayAs d f T a0 (min len 80) w e w' := by
  unfold maxLen at hlen
  have hmk : ∀ w : World, (Instr.makeSlice 28 (.int .i64 8) (.int .i64 8)).run Try.prog w = .ok (.slice (some ⟨w.heap.size, 0, none⟩) 8 8) (w.alloc (.cells (madeCells #[.int .u64 0] 8) 54)) :=
    run_make_row' (P := Try.prog) 28 54 (.int .u64 0) 8 Try.underlying28 Try.info54 rfl .i64 .i64 8 (by omega) (by omega)
  have HI := hidden hI
  have HT := hidden hT
  have HLO := hidden hlo
  have ho0 : Own (pW d w) (w.heap.size + 1) 8 (fun _ => 0) := by
    have := ones_made (w.alloc (.cells #[.func (.func d.va.fn) d.va.first d.va.cap, .func (.func d.vf.fn) d.vf.first d.vf.cap, .func (.func d.vg.fn) d.vg.first d.vg.cap, .func (.func d.vs.fn) d.vs.first d.vs.cap, .func (.func d.vz.fn) d.vz.first d.vz.cap] 38))
    rw [nblk_alloc] at this; exact this
  have HO0 := hidden ho0
  have eW : (w.alloc (.cells #[.func (.func d.va.fn) d.va.first d.va.cap, .func (.func d.vf.fn) d.vf.first d.vf.cap, .func (.func d.vg.fn) d.vg.first d.vg.cap, .func (.func d.vs.fn) d.vs.first d.vs.cap, .func (.func d.vz.fn) d.vz.first d.vz.cap] 38)).alloc (.cells (madeCells #[.int .u64 0] 8) 54) = pW d w := rfl
  have EW := hidden eW
  clear hI hT hlo ho0 eW
  go_enter Try.func10, Try.ntmps10
  go_wp2_with fail
  rw [EW.out]
  clear EW
  go_loopw [25] (fun i wr => ∃ j : Nat, j ≤ 8 ∧ i = .int .i64 j ∧ Own wr (w.heap.size + 1) 8 (onesTo j) ∧ Only (fun q => q = w.heap.size + 1) (pW d w) wr) (fun i _ => 8 - (intOf i).toNat)
  case atStart => exact ⟨0, by omega, rfl, HO0.out, Only.refl _ _⟩
  case round =>
    clear HO0
    obtain ⟨j, hj, rfl, ho, hon⟩ := hrel
    by_cases hlt : j < 8
    · have k1 := ho.cell hlt
      have k2 := ho.frozen j
      have x1 : (0 : Int) ≤ (j : Int) := by omega
      have x2 : (j : Int) < 8 := by omega
      have HO := hidden ho
      have HON := hidden hon
      clear ho hon
      go_wp2_with fail
      go_roundw
      case rel => exact ⟨j + 1, by omega, by go_num, ones_step HO.out, HON.out.setCell (a := ⟨w.heap.size + 1, j, none⟩) (Or.inr rfl) _⟩
      case measure => simp [intOf]; omega
    · have ej : j = 8 := by omega
      have ho8 : Own wr (w.heap.size + 1) 8 (onesTo 8) := by rw [ej] at ho; exact ho
      have H0 := hidden (pW_start hd HI.out ho8 hon)
      have hnl : ¬ ((j : Int) < 8) := by omega
      clear ho ho8 hon hlt ej
      go_wp2_with fail
      generalize j = j0 at *
      clear hnl hj
      have HL0 : Hid (LoopR d f T a0 len w (.slice (some ⟨w.heap.size + 1, 0, none⟩) 8 8) (.slice (some ⟨wr.heap.size, 0, none⟩) 0 0) (.int .i64 0) (wr.alloc (.cells #[] 58))) := ⟨0, _, _, _, _, _, _, _, rfl, rfl, rfl, Nat.zero_le _, Nat.zero_le _, ⟨rfl, rfl⟩, H0.out⟩
      clear H0
      generalize wr.alloc (.cells #[] 58) = w1 at *
      go_loopw [8, 10, 11] (fun hv ev iv wr => LoopR d f T a0 len w hv ev iv wr) (fun _ _ i _ => 80 - (intOf i).toNat)
      case atStart => exact HL0.out
      case round =>
        clear HL0
        obtain ⟨j, g, c, ge, ce, a, X, E, rfl, rfl, rfl, hjl, hj8, hp, hP⟩ := hrel
        by_cases h8 : j < len ∧ j < 80
        · obtain ⟨h81, h82⟩ := h8
          have hT := HT.out.frame hP.on (fun x e hm => (HLO.out x e hm).1)
          obtain ⟨x, rfl, q0, q1, q2, q3⟩ := hT.cell j h81
          obtain ⟨r0, r1, r2, r3⟩ := HT.out.rng j h81
          have x1 : (0 : Int) ≤ (j : Int) := by omega
          have x2 : (j : Int) < (len : Int) := by omega
          have x3 : (j : Int) < 80 := by omega
          have HP := hidden hp
          have HP1 := hidden (hP.alloc hd (.cells #[.int .i64 (T j).k, .int .i64 (T j).a, .int .i64 (T j).b, .int .i64 (T j).c] 62))
          have HS1 : Hid (SB d (wr.alloc (.cells #[.int .i64 (T j).k, .int .i64 (T j).a, .int .i64 (T j).b, .int .i64 (T j).c] 62)) a wr.heap.size (T j)) := ⟨blk_alloc_new _ _, fun hc => by have := hd.lt hP.i _ hc; omega⟩
          clear hT hp hP
          obtain ⟨st, hst⟩ : ∃ st, st = T j := ⟨_, rfl⟩
          rw [← hst] at q0 q1 q2 q3 r0 r1 r2 r3 HP1 HS1
          have HST := hidden hst
          clear hst
          go_upto_if 47 with fail
          go_cut [8] from 33 to 162 (fun hv' wx => ForcedR d f w a0 a X ge ce j E wr.heap.size st hv' wx)
          case first =>
            cases f with
            | false =>
              go_wp2_with fail
              go_meet
              exact ⟨g, c, a, X, rfl, ⟨rfl, rfl⟩, HP1.out, HS1.out⟩
            | true =>
              have hP := HP1.out
              obtain ⟨d0, d1, d2, d3, d4⟩ := hP.dcells
              have hok : ∀ (args : Array Value) (w : World), (callFunc d.vf.fn args).run Try.prog w = .ok (.enter d.vf.fn args) w := hd.ok.2.1
              go_wp2_with fail
              refine (hd.force _ a g c X hP.i hP.held hP.hg hP.rx).mono ?_
              rintro e w5 ⟨X5, a5, now5, rfl, m5, i5, k5, n5, h5⟩
              have P5 := hP.called i5 k5 n5
              have S5 := hidden (HS1.out.called k5 n5)
              obtain ⟨g5, c5, rfl, PB5⟩ := P5.holds h5 hP.on.size
              have PB5' := hidden PB5
              have M5 := hidden m5
              clear P5 PB5 h5 i5 k5 n5 m5
              go_wp2_with fail
              go_meet
              exact ⟨g5, c5, a5, X5, rfl, M5.out, PB5'.out, S5.out⟩
          case rest =>
            obtain ⟨g1, c1, a1, X1, rfl, hf1, hP1, hS1⟩ := hcut
            have HF1 := hidden hf1
            have HPP := hidden hP1
            have HSS := hidden hS1
            obtain ⟨d0, d1, d2, d3, d4⟩ := hP1.dcells
            obtain ⟨s0, s1, s2, s3⟩ := hS1.cells
            obtain ⟨ok0, ok1, ok2, ok3, ok4⟩ := hd.ok
            have HSTEP : Hid (∀ e a2 X2, stepR d.M st a1 X1 e a2 X2 → playR d.M f T a0 (j + 1) (putX E j e) a2 X2) := fun e a2 X2 h => play_succ HP.out HST.out HF1.out h
            clear HP1 HS1 hP1 hS1 hf1 q0 q1 q2 q3
            have hpc := placeN_lt st.c
            have hpb := placeN_lt st.b
            by_cases e3 : st.k = 3
            · have b0 : (st.k == 0) = false := beq_eq_false_iff_ne.2 (by omega)
              have b1 : (st.k == 1) = false := beq_eq_false_iff_ne.2 (by omega)
              have b2 : (st.k == 2) = false := beq_eq_false_iff_ne.2 (by omega)
              have b5 : (st.k == 5) = false := beq_eq_false_iff_ne.2 (by omega)
              have b3 : (st.k == 3) = true := by rw [e3]; rfl
              have HX : Hid (∀ X2 a2, d.M.fo a1 X1 X2 a2 → stepR d.M st a1 X1 0 a2 X2) := fun X2 a2 h => by unfold stepR; rw [if_neg (by omega), if_neg (by omega), if_pos e3]; exact ⟨h, rfl⟩
              have hP := HPP.out
              clear HSS s1 s2 s3 e3 d0 d2 d3 d4
              unfold FV.Ok at ok1
              go_wp2_with fail
              refine (hd.force _ a1 g1 c1 X1 hP.i hP.held hP.hg hP.rx).mono ?_
              rintro e w5 ⟨X5, a5, now5, rfl, m5, i5, k5, n5, h5⟩
              have P5 := hP.called i5 k5 n5
              obtain ⟨g5, c5, rfl, PB5⟩ := P5.holds h5 hP.on.size
              have PE := hidden PB5
              have HX5 := hidden (HX.out X5 a5 m5)
              clear P5 PB5 h5 i5 k5 n5 m5
              go_wp2_with (at_builtin; refine append_err rfl (.tmp 159) (.tmp 161) rfl w.heap.size ge j ce E rfl (PE.out.errs.alloc _) w5.heap.size 1 0 rfl (one_cell4 _ _ _) (by omega) (by rw [nblk_alloc]; have := PE.out.on.size; omega) ?_; intro g7 c7 w7 hr7 gr7 hat7; have P7 := hidden (PE.out.err hd gr7 hr7 hat7); clear hr7 gr7 hat7)
              go_roundw
              case rel => exact ⟨j + 1, g5, c5, g7, c7, a5, X5, putX E j 0, by go_num, rfl, rfl, by omega, by omega, HSTEP.out _ _ _ HX5.out, P7.out⟩
              case measure => simp [intOf]; omega
            · by_cases e4 : st.k = 4
              · have b0 : (st.k == 0) = false := beq_eq_false_iff_ne.2 (by omega)
                have b1 : (st.k == 1) = false := beq_eq_false_iff_ne.2 (by omega)
                have b2 : (st.k == 2) = false := beq_eq_false_iff_ne.2 (by omega)
                have b5 : (st.k == 5) = false := beq_eq_false_iff_ne.2 (by omega)
                have b3 : (st.k == 3) = false := beq_eq_false_iff_ne.2 (by omega)
                have b4 : (st.k == 4) = true := by rw [e4]; rfl
                have HX : Hid (stepR d.M st a1 X1 0 a1 (putX X1 (placeN st.c) 1)) := by unfold stepR; rw [if_neg (by omega), if_neg (by omega), if_neg (by omega), if_pos e4]; exact ⟨rfl, rfl, rfl⟩
                have hP := HPP.out
                have PE := hidden (hP.write hd (placeN st.c) (v := 1) ⟨by decide, by decide⟩)
                have k1 := hP.held.cell hpc
                have k2 := hP.held.frozen (placeN st.c)
                have y1 : (0 : Int) ≤ (placeN st.c : Int) := by omega
                have y2 : (placeN st.c : Int) < 8 := by omega
                clear HSS s1 s2 e4 d0 d1 d2 d3 d4 hP
                go_upto_region 40 with (first | (go_at_call 31; refine (place_any _ _ r3).mono ?_; rintro e w' ⟨rfl, hw'⟩; rw [hw']; clear hw' w'))
                generalize wc.setCell ⟨g1, placeN st.c, none⟩ (.int .u64 1) = wE at *
                go_wp2_with (at_builtin; refine append_err rfl (.tmp 159) (.tmp 161) rfl w.heap.size ge j ce E rfl (PE.out.errs.alloc _) wE.heap.size 1 0 rfl (one_cell4 _ _ _) (by omega) (by rw [nblk_alloc]; have := PE.out.on.size; omega) ?_; intro g7 c7 w7 hr7 gr7 hat7; have P7 := hidden (PE.out.err hd gr7 hr7 hat7); clear hr7 gr7 hat7)
                go_roundw
                case rel => exact ⟨j + 1, g1, c1, g7, c7, a1, (putX X1 (placeN st.c) 1), putX E j 0, by go_num, rfl, rfl, by omega, by omega, HSTEP.out _ _ _ HX.out, P7.out⟩
                case measure => simp [intOf]; omega
              · by_cases e0 : st.k = 0
                · have b0 : (st.k == 0) = true := by rw [e0]; rfl
                  have HX : Hid (∀ E5 W5 Y5 a2, d.M.al a1 st.a st.b X1 E5 W5 Y5 a2 → stepR d.M st a1 X1 E5 a2 (if E5 = 0 then putX Y5 (placeN st.c) W5 else X1)) := fun E5 W5 Y5 a2 h => by unfold stepR; rw [if_pos e0]; exact ⟨W5, Y5, h, rfl⟩
                  have hP := HPP.out
                  have HSS' := HSS
                  clear HSS s3 e0 e3 e4 d1 d2 d3 d4
                  unfold FV.Ok at ok0
                  go_wp2_with fail
                  refine (hd.alloc _ a1 g1 c1 X1 st.a st.b hP.i hP.held hP.hg hP.rx r1 r2).mono ?_
                  rintro e w5 ⟨E5, W5, X5, a5, now5, rfl, m5, i5, k5, n5, rw5, h5⟩
                  have P5 := hP.called i5 k5 n5
                  have S5 := HSS'.out.called k5 n5
                  have HX5 := hidden (HX.out E5 W5 X5 a5 m5)
                  by_cases e5 : E5 = 0
                  · subst e5
                    have HX5 : Hid (stepR d.M st a1 X1 0 a5 (putX X5 (placeN st.c) W5)) := by have := HX5.out; rw [if_pos rfl] at this; exact this
                    obtain ⟨g5, c5, rfl, PB5⟩ := P5.holds (h5 rfl) hP.on.size
                    have PE := hidden (PB5.write hd (placeN st.c) (v := W5) rw5)
                    have k1 := PB5.held.cell hpc
                    have k2 := PB5.held.frozen (placeN st.c)
                    have y1 : (0 : Int) ≤ (placeN st.c : Int) := by omega
                    have y2 : (placeN st.c : Int) < 8 := by omega
                    obtain ⟨_, _, _, s3⟩ := S5.cells
                    clear P5 PB5 h5 i5 k5 n5 m5 hP HSS' S5 s0 s1 s2 d0
                    go_upto_region 40 with (first | (go_at_call 31; refine (place_any _ _ r3).mono ?_; rintro e w' ⟨rfl, hw'⟩; rw [hw']; clear hw' w'))
                    generalize w5.setCell ⟨g5, placeN st.c, none⟩ (.int .u64 W5) = wE at *
                    go_wp2_with (at_builtin; refine append_err rfl (.tmp 159) (.tmp 161) rfl w.heap.size ge j ce E rfl (PE.out.errs.alloc _) wE.heap.size 1 0 rfl (one_cell4 _ _ _) (by omega) (by rw [nblk_alloc]; have := PE.out.on.size; omega) ?_; intro g7 c7 w7 hr7 gr7 hat7; have P7 := hidden (PE.out.err hd gr7 hr7 hat7); clear hr7 gr7 hat7)
                    go_roundw
                    case rel => exact ⟨j + 1, g5, c5, g7, c7, a5, (putX X5 (placeN st.c) W5), putX E j 0, by go_num, rfl, rfl, by omega, by omega, HSTEP.out _ _ _ (HX5.out), P7.out⟩
                    case measure => simp [intOf]; omega
                  · have be : (E5 == 0) = false := beq_eq_false_iff_ne.2 e5
                    have HX6 : Hid (stepR d.M st a1 X1 E5 a5 X1) := by have := HX5.out; rw [if_neg e5] at this; exact this
                    have PE := hidden P5
                    clear P5 h5 i5 k5 n5 m5 hP HSS' S5 s0 s1 s2 d0 HX5 e5
                    go_wp2_with (at_builtin; refine append_err rfl (.tmp 159) (.tmp 161) rfl w.heap.size ge j ce E rfl (PE.out.errs.alloc _) w5.heap.size 1 E5 rfl (one_cell4 _ _ _) (by omega) (by rw [nblk_alloc]; have := PE.out.on.size; omega) ?_; intro g7 c7 w7 hr7 gr7 hat7; have P7 := hidden (PE.out.err hd gr7 hr7 hat7); clear hr7 gr7 hat7)
                    go_roundw
                    case rel => exact ⟨j + 1, g1, c1, g7, c7, a5, X1, putX E j E5, by go_num, rfl, rfl, by omega, by omega, HSTEP.out _ _ _ HX6.out, P7.out⟩
                    case measure => simp [intOf]; omega
                · by_cases e125 : st.k = 1 ∨ st.k = 2 ∨ st.k = 5
                  · have b0 : (st.k == 0) = false := beq_eq_false_iff_ne.2 (by omega)
                    have hP := HPP.out
                    have HXZ : Hid (d.M.sz a1 (X1 (placeN st.b)) ≤ 0 → stepR d.M st a1 X1 0 a1 X1) := fun h => by unfold stepR; rw [if_neg e0, if_pos e125, if_pos h]; exact ⟨rfl, rfl, rfl⟩
                    have HX5 : Hid (¬ d.M.sz a1 (X1 (placeN st.b)) ≤ 0 → st.k = 5 → stepR d.M st a1 X1 (d.M.ge a1 (X1 (placeN st.b)) ((st.a % 18446744073709551616) % d.M.sz a1 (X1 (placeN st.b)))) a1 (putX X1 (placeN st.c) (d.M.gv a1 (X1 (placeN st.b)) ((st.a % 18446744073709551616) % d.M.sz a1 (X1 (placeN st.b)))))) := fun h h5 => by unfold stepR; rw [if_neg e0, if_pos e125, if_neg h, if_pos h5]; exact ⟨rfl, rfl, rfl⟩
                    have HXS : Hid (∀ v E5 a2, ¬ d.M.sz a1 (X1 (placeN st.b)) ≤ 0 → st.k ≠ 5 → v = (if st.k = 1 then X1 (placeN st.c) else intW st.a) → d.M.se a1 (X1 (placeN st.b)) ((st.a % 18446744073709551616) % d.M.sz a1 (X1 (placeN st.b))) v E5 a2 → stepR d.M st a1 X1 E5 a2 X1) := fun v E5 a2 h h5 hv hs => by unfold stepR; rw [if_neg e0, if_pos e125, if_neg h, if_neg h5, ← hv]; exact ⟨hs, rfl⟩
                    have k1 := hP.held.cell hpb
                    have y1 : (0 : Int) ≤ (placeN st.b : Int) := by omega
                    have y2 : (placeN st.b : Int) < 8 := by omega
                    have hsr := hd.sizeR (X1 (placeN st.b)) hP.i
                    have hx1 := hP.rx _ hpb
                    unfold FV.Ok at ok4
                    rcases e125 with e1 | e2 | e5
                    · have b1 : (st.k == 1) = true := by rw [e1]; rfl
                      have b5 : (st.k == 5) = false := beq_eq_false_iff_ne.2 (by omega)
                      clear d0 d1 d2 d3 s1 s3
                      go_wp2_with fail
                      go_quiet (first | (go_at_call 31; exact Calls.quiet_of_same (place_any _ _ r2)) | exact Calls.quiet_of (hd.size _ a1 _ (hd.frame hP.i ((Only.refl (fun _ => False) _).drewN _) (fun _ _ => id)) hx1))
                      have P3 := hP.drewN hd nq
                      have S3 := HSS.out.frame ((Only.refl (fun _ => False) _).drewN nq) id
                      generalize wc.drewN nq = w3 at P3 S3 ⊢
                      obtain ⟨n, hn⟩ : ∃ n, n = d.M.sz a1 (X1 (placeN st.b)) := ⟨_, rfl⟩
                      rw [← hn] at HXZ HX5 HXS hsr ⊢
                      clear hn hP HPP HSS d4 s0 s2 k1
                      by_cases hn0 : n ≤ 0
                      · have PE := hidden P3
                        have HX := hidden (HXZ.out hn0)
                        clear HXZ HX5 HXS P3 S3
                        go_wp2_with (at_builtin; refine append_err rfl (.tmp 159) (.tmp 161) rfl w.heap.size ge j ce E rfl (PE.out.errs.alloc _) w3.heap.size 1 0 rfl (one_cell4 _ _ _) (by omega) (by rw [nblk_alloc]; have := PE.out.on.size; omega) ?_; intro g7 c7 w7 hr7 gr7 hat7; have P7 := hidden (PE.out.err hd gr7 hr7 hat7); clear hr7 gr7 hat7)
                        go_roundw
                        case rel => exact ⟨j + 1, g1, c1, g7, c7, a1, X1, putX E j 0, by go_num, rfl, rfl, by omega, by omega, HSTEP.out _ _ _ HX.out, P7.out⟩
                        case measure => simp [intOf]; omega
                      · obtain ⟨s0, s1, s2, s3⟩ := S3.cells
                        obtain ⟨d0, d1, d2, d3, d4⟩ := P3.dcells
                        have kb := P3.held.cell hpb
                        have kc := P3.held.cell hpc
                        have y3 : (0 : Int) ≤ (placeN st.c : Int) := by omega
                        have y4 : (placeN st.c : Int) < 8 := by omega
                        have hxc := P3.rx _ hpc
                        have HP3 := hidden P3
                        have HS3 := hidden S3
                        clear P3 S3
                        go_upto_region 28 with fail
                        obtain ⟨ke, k0, k9⟩ := kN (a := st.a) hn0 hsr.2
                        rw [ke]
                        clear ke
                        obtain ⟨kk, hkk⟩ : ∃ kk, kk = (st.a % 18446744073709551616) % n := ⟨_, rfl⟩
                        rw [← hkk] at HX5 HXS k0 k9 ⊢
                        clear hkk
                        have hkR : RI kk := ⟨by omega, by omega⟩
                        have HV : Hid (R64 (X1 (placeN st.c))) := hxc
                        have HX : Hid (∀ E5 a2, d.M.se a1 (X1 (placeN st.b)) kk (X1 (placeN st.c)) E5 a2 → stepR d.M st a1 X1 E5 a2 X1) := fun E5 a2 h => HXS.out (X1 (placeN st.c)) E5 a2 (by omega) (by omega) (by rw [if_pos e1]) h
                        clear HXZ HX5 HXS d0 d1 d2 d4
                        go_upto_region 35 with (first | (go_at_call 32; refine (rint_any _ _ r1.1 r1.2).mono ?_; rintro e w' ⟨rfl, hw'⟩; rw [hw']; clear hw' w') | (go_at_call 31; refine (place_any _ _ r3).mono ?_; rintro e w' ⟨rfl, hw'⟩; rw [hw']; clear hw' w'))
                        clear s0 s1 s3 kc
                        unfold FV.Ok at ok3
                        go_region_held3 (fun w' => w'.cell? ⟨w.heap.size, 3, none⟩ = some (.func (.func d.vs.fn) d.vs.first d.vs.cap) ∧ w'.cell? ⟨wr.heap.size, 2, none⟩ = some (.int .i64 st.b) ∧ w'.cell? ⟨g1, placeN st.b, none⟩ = some (.int .u64 (X1 (placeN st.b)))) (go_keep) (first | (go_at_call 31; refine (place_any _ _ r2).mono ?_; rintro e w' ⟨rfl, hw'⟩; rw [hw']; clear hw' w') | (refine (hd.set _ a1 (X1 (placeN st.b)) kk (X1 (placeN st.c)) ?_ hx1 hkR HV.out).mono ?_; exact (HP3.out.drewN hd 1).i; rintro e w5 ⟨E5, a5, rfl, m5, i5, k5, n5⟩; have PE := hidden ((HP3.out.drewN hd 1).called i5 k5 n5); obtain ⟨t0, t1, t2, t3, t4⟩ := PE.out.dcells; obtain ⟨q0, q1, q2, q3⟩ := ((HS3.out.frame ((Only.refl (fun _ => False) _).drewN 1) id).called k5 n5).cells; have t5 := PE.out.held.cell hpb; have HX6 := hidden (HX.out E5 a5 m5); clear m5 i5 k5 n5))
                        clear t0 t1 t2 t3 t4 q0 q1 q2 q3 t5 HP3 HS3
                        go_wp2_with (at_builtin; refine append_err rfl (.tmp 159) (.tmp 161) rfl w.heap.size ge j ce E rfl (PE.out.errs.alloc _) w5.heap.size 1 E5 rfl (one_cell4 _ _ _) (by omega) (by rw [nblk_alloc]; have := PE.out.on.size; omega) ?_; intro g7 c7 w7 hr7 gr7 hat7; have P7 := hidden (PE.out.err hd gr7 hr7 hat7); clear hr7 gr7 hat7)
                        go_roundw
                        case rel => exact ⟨j + 1, g1, c1, g7, c7, a5, X1, putX E j E5, by go_num, rfl, rfl, by omega, by omega, HSTEP.out _ _ _ HX6.out, P7.out⟩
                        case measure => simp [intOf]; omega
                    · have b1 : (st.k == 1) = false := beq_eq_false_iff_ne.2 (by omega)
                      have b2 : (st.k == 2) = true := by rw [e2]; rfl
                      have b5 : (st.k == 5) = false := beq_eq_false_iff_ne.2 (by omega)
                      clear d0 d1 d2 d3 s1 s3
                      go_wp2_with fail
                      go_quiet (first | (go_at_call 31; exact Calls.quiet_of_same (place_any _ _ r2)) | exact Calls.quiet_of (hd.size _ a1 _ (hd.frame hP.i ((Only.refl (fun _ => False) _).drewN _) (fun _ _ => id)) hx1))
                      have P3 := hP.drewN hd nq
                      have S3 := HSS.out.frame ((Only.refl (fun _ => False) _).drewN nq) id
                      generalize wc.drewN nq = w3 at P3 S3 ⊢
                      obtain ⟨n, hn⟩ : ∃ n, n = d.M.sz a1 (X1 (placeN st.b)) := ⟨_, rfl⟩
                      rw [← hn] at HXZ HX5 HXS hsr ⊢
                      clear hn hP HPP HSS d4 s0 s2 k1
                      by_cases hn0 : n ≤ 0
                      · have PE := hidden P3
                        have HX := hidden (HXZ.out hn0)
                        clear HXZ HX5 HXS P3 S3
                        go_wp2_with (at_builtin; refine append_err rfl (.tmp 159) (.tmp 161) rfl w.heap.size ge j ce E rfl (PE.out.errs.alloc _) w3.heap.size 1 0 rfl (one_cell4 _ _ _) (by omega) (by rw [nblk_alloc]; have := PE.out.on.size; omega) ?_; intro g7 c7 w7 hr7 gr7 hat7; have P7 := hidden (PE.out.err hd gr7 hr7 hat7); clear hr7 gr7 hat7)
                        go_roundw
                        case rel => exact ⟨j + 1, g1, c1, g7, c7, a1, X1, putX E j 0, by go_num, rfl, rfl, by omega, by omega, HSTEP.out _ _ _ HX.out, P7.out⟩
                        case measure => simp [intOf]; omega
                      · obtain ⟨s0, s1, s2, s3⟩ := S3.cells
                        obtain ⟨d0, d1, d2, d3, d4⟩ := P3.dcells
                        have kb := P3.held.cell hpb
                        have kc := P3.held.cell hpc
                        have y3 : (0 : Int) ≤ (placeN st.c : Int) := by omega
                        have y4 : (placeN st.c : Int) < 8 := by omega
                        have hxc := P3.rx _ hpc
                        have HP3 := hidden P3
                        have HS3 := hidden S3
                        clear P3 S3
                        go_upto_region 28 with fail
                        obtain ⟨ke, k0, k9⟩ := kN (a := st.a) hn0 hsr.2
                        rw [ke]
                        clear ke
                        obtain ⟨kk, hkk⟩ : ∃ kk, kk = (st.a % 18446744073709551616) % n := ⟨_, rfl⟩
                        rw [← hkk] at HX5 HXS k0 k9 ⊢
                        clear hkk
                        have hkR : RI kk := ⟨by omega, by omega⟩
                        have HV : Hid (R64 (intW st.a)) := ⟨intW_lo _, intW_hi _⟩
                        have HX : Hid (∀ E5 a2, d.M.se a1 (X1 (placeN st.b)) kk (intW st.a) E5 a2 → stepR d.M st a1 X1 E5 a2 X1) := fun E5 a2 h => HXS.out (intW st.a) E5 a2 (by omega) (by omega) (by rw [if_neg (by omega)]) h
                        clear HXZ HX5 HXS d0 d1 d2 d4 kc
                        go_upto_region 35 with (first | (go_at_call 32; refine (rint_any _ _ r1.1 r1.2).mono ?_; rintro e w' ⟨rfl, hw'⟩; rw [hw']; clear hw' w') | (go_at_call 31; refine (place_any _ _ r3).mono ?_; rintro e w' ⟨rfl, hw'⟩; rw [hw']; clear hw' w'))
                        clear s0 s1 s3
                        unfold FV.Ok at ok3
                        go_region_held3 (fun w' => w'.cell? ⟨w.heap.size, 3, none⟩ = some (.func (.func d.vs.fn) d.vs.first d.vs.cap) ∧ w'.cell? ⟨wr.heap.size, 2, none⟩ = some (.int .i64 st.b) ∧ w'.cell? ⟨g1, placeN st.b, none⟩ = some (.int .u64 (X1 (placeN st.b)))) (go_keep) (first | (go_at_call 31; refine (place_any _ _ r2).mono ?_; rintro e w' ⟨rfl, hw'⟩; rw [hw']; clear hw' w') | (refine (hd.set _ a1 (X1 (placeN st.b)) kk (intW st.a) ?_ hx1 hkR HV.out).mono ?_; exact (HP3.out.drewN hd 1).i; rintro e w5 ⟨E5, a5, rfl, m5, i5, k5, n5⟩; have PE := hidden ((HP3.out.drewN hd 1).called i5 k5 n5); obtain ⟨t0, t1, t2, t3, t4⟩ := PE.out.dcells; obtain ⟨q0, q1, q2, q3⟩ := ((HS3.out.frame ((Only.refl (fun _ => False) _).drewN 1) id).called k5 n5).cells; have t5 := PE.out.held.cell hpb; have HX6 := hidden (HX.out E5 a5 m5); clear m5 i5 k5 n5))
                        clear t0 t1 t2 t3 t4 q0 q1 q2 q3 t5 HP3 HS3
                        go_wp2_with (at_builtin; refine append_err rfl (.tmp 159) (.tmp 161) rfl w.heap.size ge j ce E rfl (PE.out.errs.alloc _) w5.heap.size 1 E5 rfl (one_cell4 _ _ _) (by omega) (by rw [nblk_alloc]; have := PE.out.on.size; omega) ?_; intro g7 c7 w7 hr7 gr7 hat7; have P7 := hidden (PE.out.err hd gr7 hr7 hat7); clear hr7 gr7 hat7)
                        go_roundw
                        case rel => exact ⟨j + 1, g1, c1, g7, c7, a5, X1, putX E j E5, by go_num, rfl, rfl, by omega, by omega, HSTEP.out _ _ _ HX6.out, P7.out⟩
                        case measure => simp [intOf]; omega
                    · have b1 : (st.k == 1) = false := beq_eq_false_iff_ne.2 (by omega)
                      have b2 : (st.k == 2) = false := beq_eq_false_iff_ne.2 (by omega)
                      have b5 : (st.k == 5) = true := by rw [e5]; rfl
                      clear d0 d1 d2 d3 s1 s3
                      go_wp2_with fail
                      go_quiet (first | (go_at_call 31; exact Calls.quiet_of_same (place_any _ _ r2)) | exact Calls.quiet_of (hd.size _ a1 _ (hd.frame hP.i ((Only.refl (fun _ => False) _).drewN _) (fun _ _ => id)) hx1))
                      have P3 := hP.drewN hd nq
                      have S3 := HSS.out.frame ((Only.refl (fun _ => False) _).drewN nq) id
                      generalize wc.drewN nq = w3 at P3 S3 ⊢
                      obtain ⟨n, hn⟩ : ∃ n, n = d.M.sz a1 (X1 (placeN st.b)) := ⟨_, rfl⟩
                      rw [← hn] at HXZ HX5 HXS hsr ⊢
                      clear hn hP HPP HSS d4 s0 s2 k1
                      by_cases hn0 : n ≤ 0
                      · have PE := hidden P3
                        have HX := hidden (HXZ.out hn0)
                        clear HXZ HX5 HXS P3 S3
                        go_wp2_with (at_builtin; refine append_err rfl (.tmp 159) (.tmp 161) rfl w.heap.size ge j ce E rfl (PE.out.errs.alloc _) w3.heap.size 1 0 rfl (one_cell4 _ _ _) (by omega) (by rw [nblk_alloc]; have := PE.out.on.size; omega) ?_; intro g7 c7 w7 hr7 gr7 hat7; have P7 := hidden (PE.out.err hd gr7 hr7 hat7); clear hr7 gr7 hat7)
                        go_roundw
                        case rel => exact ⟨j + 1, g1, c1, g7, c7, a1, X1, putX E j 0, by go_num, rfl, rfl, by omega, by omega, HSTEP.out _ _ _ HX.out, P7.out⟩
                        case measure => simp [intOf]; omega
                      · obtain ⟨s0, s1, s2, s3⟩ := S3.cells
                        obtain ⟨d0, d1, d2, d3, d4⟩ := P3.dcells
                        have kb := P3.held.cell hpb
                        have kc := P3.held.cell hpc
                        have y3 : (0 : Int) ≤ (placeN st.c : Int) := by omega
                        have y4 : (placeN st.c : Int) < 8 := by omega
                        have hxc := P3.rx _ hpc
                        have HP3 := hidden P3
                        have HS3 := hidden S3
                        clear P3 S3
                        go_upto_region 28 with fail
                        obtain ⟨ke, k0, k9⟩ := kN (a := st.a) hn0 hsr.2
                        rw [ke]
                        clear ke
                        obtain ⟨kk, hkk⟩ : ∃ kk, kk = (st.a % 18446744073709551616) % n := ⟨_, rfl⟩
                        rw [← hkk] at HX5 HXS k0 k9 ⊢
                        clear hkk
                        have hkR : RI kk := ⟨by omega, by omega⟩
                        have HX := hidden (HX5.out (by omega) (by omega))
                        clear HXZ HX5 HXS d0 d1 d3 d4 s1
                        unfold FV.Ok at ok2
                        have hi3 := hidden HP3.out.i
                        go_wp2_with fail
                        go_quiet (first | (go_at_call 31; exact Calls.quiet_of_same (place_any _ _ r2)) | exact Calls.quiet_of (hd.get _ a1 _ kk (hd.frame hi3.out ((Only.refl (fun _ => False) _).drewN _) (fun _ _ => id)) hx1 hkR))
                        have P4 := HP3.out.drewN hd nq
                        have S4 := HS3.out.frame ((Only.refl (fun _ => False) _).drewN nq) id
                        generalize w3.drewN nq = w4 at P4 S4 ⊢
                        have hgr := hd.getR (X1 (placeN st.b)) kk P4.i
                        obtain ⟨_, _, _, s3⟩ := S4.cells
                        have kc := P4.held.cell hpc
                        have kf := P4.held.frozen (placeN st.c)
                        generalize d.M.gv a1 (X1 (placeN st.b)) kk = gvv at *
                        generalize d.M.ge a1 (X1 (placeN st.b)) kk = gee at *
                        have PE := hidden (P4.write hd (placeN st.c) (v := gvv) hgr)
                        clear P4 S4 HP3 HS3 hi3 d2 s0 s2 kb hx1 hgr
                        go_upto_region 40 with (first | (go_at_call 31; refine (place_any _ _ r3).mono ?_; rintro e w' ⟨rfl, hw'⟩; rw [hw']; clear hw' w'))
                        generalize w4.setCell ⟨g1, placeN st.c, none⟩ (.int .u64 gvv) = wE at *
                        go_wp2_with (at_builtin; refine append_err rfl (.tmp 159) (.tmp 161) rfl w.heap.size ge j ce E rfl (PE.out.errs.alloc _) wE.heap.size 1 gee rfl (one_cell4 _ _ _) (by omega) (by rw [nblk_alloc]; have := PE.out.on.size; omega) ?_; intro g7 c7 w7 hr7 gr7 hat7; have P7 := hidden (PE.out.err hd gr7 hr7 hat7); clear hr7 gr7 hat7)
                        go_roundw
                        case rel => exact ⟨j + 1, g1, c1, g7, c7, a1, (putX X1 (placeN st.c) gvv), putX E j gee, by go_num, rfl, rfl, by omega, by omega, HSTEP.out _ _ _ HX.out, P7.out⟩
                        case measure => simp [intOf]; omega
                  · have b0 : (st.k == 0) = false := beq_eq_false_iff_ne.2 (by omega)
                    have b1 : (st.k == 1) = false := beq_eq_false_iff_ne.2 (by omega)
                    have b2 : (st.k == 2) = false := beq_eq_false_iff_ne.2 (by omega)
                    have b5 : (st.k == 5) = false := beq_eq_false_iff_ne.2 (by omega)
                    have b3 : (st.k == 3) = false := beq_eq_false_iff_ne.2 (by omega)
                    have b4 : (st.k == 4) = false := beq_eq_false_iff_ne.2 (by omega)
                    have HX : Hid (stepR d.M st a1 X1 0 a1 X1) := by unfold stepR; rw [if_neg e0, if_neg e125, if_neg e3, if_neg e4]; exact ⟨rfl, rfl, rfl⟩
                    have PE := HPP
                    clear HSS s1 s2 s3 e0 e125 e3 e4 d0 d1 d2 d3 d4
                    go_wp2_with (at_builtin; refine append_err rfl (.tmp 159) (.tmp 161) rfl w.heap.size ge j ce E rfl (PE.out.errs.alloc _) wc.heap.size 1 0 rfl (one_cell4 _ _ _) (by omega) (by rw [nblk_alloc]; have := PE.out.on.size; omega) ?_; intro g7 c7 w7 hr7 gr7 hat7; have P7 := hidden (PE.out.err hd gr7 hr7 hat7); clear hr7 gr7 hat7)
                    go_roundw
                    case rel => exact ⟨j + 1, g1, c1, g7, c7, a1, X1, putX E j 0, by go_num, rfl, rfl, by omega, by omega, HSTEP.out _ _ _ HX.out, P7.out⟩
                    case measure => simp [intOf]; omega
        · have hm : j = min len 80 := by omega
          have PE := hidden hP
          have HPL := hidden hp
          have HM := hidden hm
          have hb : ((decide ((j : Int) < (len : Int))) && decide ((j : Int) < 80)) = false := by
            rcases Nat.lt_or_ge j len with e | e
            · rw [decide_eq_false (p := (j : Int) < 80) (by omega), Bool.and_false]
            · rw [decide_eq_false (p := (j : Int) < (len : Int)) (by omega), Bool.false_and]
          clear hP hp hm
          by_cases e1 : (j : Int) < (len : Int)
          · have e2 : ¬ ((j : Int) < 80) := by omega
            go_wp2_with fail
            go_ret2
            exact ⟨g, c, ge, ce, a, X, E, by rw [← HM.out]; rfl, by rw [← HM.out]; exact HPL.out, by rw [← HM.out]; exact PE.out⟩
          · go_wp2_with fail
            go_ret2
            exact ⟨g, c, ge, ce, a, X, E, by rw [← HM.out]; rfl, by rw [← HM.out]; exact HPL.out, by rw [← HM.out]; exact PE.out⟩
end
end Go.Proofs.Ytjnlfnecmiklhaa
