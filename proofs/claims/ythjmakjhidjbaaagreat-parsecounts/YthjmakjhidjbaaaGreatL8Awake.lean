/-
 Layer 8, the statements: Parse by its plain answer; awake. No condition.
-/
import Derived.Test.YthjmakjhidjbaaaGreatP8X
import Derived.Test.YthjmakjhidjbaaaGreatX8Awake
namespace Go.Proofs.YthjmakjhidjbaaaGreat
open Go.ChangeShapes Go.WideShapes Go.ChangeAt Go.RowKit Go.Deep
set_option linter.unusedVariables false
set_option linter.unusedSimpArgs false
set_option maxHeartbeats 1000000
set_option maxRecDepth 20000

theorem parseP (s : ByteArray) (w : World) (hz : s.size ≤ maxLen) : Calls Tryz.prog 10 #[.string s] w fun e w' => ParseAs (plS s) (parseR s) w e w' := by
 cases h : lexR s with
 | error ek =>
  obtain ⟨e', k⟩ := ek
  exact parseP_lex w h hz
 | ok tp =>
  have e : plS s = plM (toks s tp) := by unfold plS; rw [h]
  rw [e]
  exact parseP_ok w h
theorem parse_ok {s : ByteArray} {L : List Tr} (w : World) (h : parseR s = .ok L) (hz : s.size ≤ maxLen) : Calls Tryz.prog 10 #[.string s] w fun e w' => ∃ (ao : Option Addr) (cp : Nat), e = .returned (.tuple #[.agg #[.int .i64 211, .int .i64 0, .int .i64 0, .string ⟨#[]⟩, .slice ao L.length cp], .int .i64 0, .int .i64 0]) ∧ RL (plS s) (fun g => w.heap.size ≤ g) w' L ao ∧ Below w.heap.size w w' := by
 refine (parseP s w hz).mono ?_
 intro e w' hh
 rw [h] at hh
 obtain ⟨hb, ao, cp, rfl, hl⟩ := hh
 exact ⟨ao, cp, rfl, hl, hb⟩
theorem parse_err {s : ByteArray} {e' p : Int} (w : World) (h : parseR s = .error (e', p)) (hz : s.size ≤ maxLen) : Calls Tryz.prog 10 #[.string s] w fun e w' => e = .returned (.tuple #[.agg #[.int .i64 0, .int .i64 0, .int .i64 0, .string ⟨#[]⟩, .slice none 0 0], .int .i64 e', .int .i64 p]) ∧ Below w.heap.size w w' := by
 refine (parseP s w hz).mono ?_
 intro e w' hh
 rw [h] at hh
 exact ⟨hh.2, hh.1⟩
/-- What is wrong is not nothing. -/
theorem parseR_err {s : ByteArray} {e' p : Int} (h : parseR s = .error (e', p)) : e' ≠ 0 := by
 unfold parseR at h
 cases hl : lexR s with
 | error ek =>
  obtain ⟨e2, k⟩ := ek
  rw [hl] at h
  simp only [Except.error.injEq, Prod.mk.injEq] at h
  rw [← h.1]
  exact lexR_err hl
 | ok tp =>
  rw [hl] at h
  simp only at h
  split at h
  ·simp only [Except.error.injEq, Prod.mk.injEq] at h; omega
  ·split at h
   ·simp only [Except.error.injEq, Prod.mk.injEq] at h; omega
   ·split at h
    ·simp only [Except.error.injEq, Prod.mk.injEq] at h; omega
    ·cases h
theorem aw8_l1 : lexR ⟨#[108, 101, 116, 32, 102, 32, 120, 32, 121, 32, 61, 32, 120, 32, 43, 32, 121, 32, 42, 32, 50]⟩ = .ok awT1 := by kernel_rfl
theorem aw8_deep (f : Nat → Int) : deepL f 149 [awTr] = none := by simp [deepL, deepT, awTr, Tr.L]
theorem aw8_deep1 (f : Nat → Int) : deepL f 0 [awTr] = some (f 0) := by simp [deepL, deepT, awTr, Tr.pl]
theorem aw8_p1 : parseR ⟨#[108, 101, 116, 32, 102, 32, 120, 32, 121, 32, 61, 32, 120, 32, 43, 32, 121, 32, 42, 32, 50]⟩ = .ok [awTr] := by
 unfold parseR
 rw [aw8_l1]
 simp only
 rw [show reads (srcT awT1) .items 0 = .ok (lst [awTr], 10) from aw8_read1]
 simp only
 have e : (lst [awTr]).L = [awTr] := rfl
 have c : cntL [awTr] = 11 := by kernel_rfl
 rw [e, c, if_neg (by decide), aw8_deep]
theorem aw8_p2 : parseR ⟨#[108, 101, 116, 32, 95, 32, 61, 32, 49, 32, 60, 45, 32, 50]⟩ = .error (21, 10) := by kernel_rfl
theorem aw8_any (w : World) : Calls Tryz.prog 9 #[] w fun e w' => e = .returned (.bool true) ∧ Below w.heap.size w w' := by
 go_enter Tryz.func9, Tryz.ntmps9
 go_wp2_with fail
 refine (parse_ok w aw8_p1 (by decide)).mono ?_
 rintro e w1 ⟨ao, cp, rfl, hl, hb⟩
 have V2 := hidden (B5.new w1 211 0 0 ⟨#[]⟩ (.slice ao 1 cp))
 have X2 := hidden (hl.alloc (.cells #[.int .i64 211, .int .i64 0, .int .i64 0, .string ⟨#[]⟩, .slice ao 1 cp] 25))
 have B2 := hidden (hb.alloc (by have := hb.size; omega) (.cells #[.int .i64 211, .int .i64 0, .int .i64 0, .string ⟨#[]⟩, .slice ao 1 cp] 25))
 clear hl hb
 go_wp2_with fail
 generalize w1.alloc (.cells #[.int .i64 211, .int .i64 0, .int .i64 0, .string ⟨#[]⟩, .slice ao 1 cp] 25) = w2 at *
 refine (parse_err w2 aw8_p2 (by decide)).mono ?_
 rintro e w3 ⟨rfl, hb⟩
 have hb2 := hb.alloc (by have := hb.size; omega) (.cells #[.int .i64 0, .int .i64 0, .int .i64 0, .string ⟨#[]⟩, .slice none 0 0] 25)
 have V4 := hidden (V2.out.below hb2 (Nat.le_refl _))
 have X4 := hidden (X2.out.keep (fun g _ hlt => hb2.block g hlt))
 have B4 := hidden (B2.out.trans (hb2.mono B2.out.size))
 clear hb hb2 V2 X2 B2
 go_upto_region 3 with fail
 generalize w3.alloc (.cells #[.int .i64 0, .int .i64 0, .int .i64 0, .string ⟨#[]⟩, .slice none 0 0] 25) = w4 at *
 have HD : Hid (∀ w P, RL (plS ⟨#[108, 101, 116, 32, 102, 32, 120, 32, 121, 32, 61, 32, 120, 32, 43, 32, 121, 32, 42, 32, 50]⟩) P w [awTr] ao → Calls Tryz.prog 14 #[.agg #[.int .i64 211, .int .i64 0, .int .i64 0, .string ⟨#[]⟩, .slice ao 1 cp], .int .i64 1] w fun e w' => e = .returned (.tuple #[.int .i64 (plS ⟨#[108, 101, 116, 32, 102, 32, 120, 32, 121, 32, 61, 32, 120, 32, 43, 32, 121, 32, 42, 32, 50]⟩ 0), .bool true]) ∧ Below w.heap.size w w') := hidden (fun w P r => by
  have hd := deepP 20000 (.mk 211 0 0 [] [awTr]) (by rw [cnt_root]; decide) (by omega) w ao cp 0 1 (by omega) r
  refine hd.mono (fun e w' hh => ⟨hh.1.trans ?_, hh.2⟩)
  show Ending.returned (deepR (deepL _ 0 [awTr])) = _
  rw [aw8_deep1]
  rfl)
 have HC : Hid (∀ w P, RL (plS ⟨#[108, 101, 116, 32, 102, 32, 120, 32, 121, 32, 61, 32, 120, 32, 43, 32, 121, 32, 42, 32, 50]⟩) P w [awTr] ao → Calls Tryz.prog 16 #[.agg #[.int .i64 211, .int .i64 0, .int .i64 0, .string ⟨#[]⟩, .slice ao 1 cp], .int .i64 99] w fun e w' => e = .returned (.int .i64 12) ∧ Below w.heap.size w w') := hidden (fun w P r => countP 20000 (.mk 211 0 0 [] [awTr]) (by rw [cnt_root]; decide) (by omega) w ao cp 0 99 (by omega) (by omega) r)
 obtain ⟨v0, v1, v2, v3, v4, vf⟩ := V4.out.cells
 generalize plS ⟨#[108, 101, 116, 32, 102, 32, 120, 32, 121, 32, 61, 32, 120, 32, 43, 32, 121, 32, 42, 32, 50]⟩ = pl at *
 go_wp2_with fail
 refine (HD.out w4 _ X4.out).mono ?_
 rintro e w5 ⟨rfl, hb⟩
 have V5 := hidden (V4.out.below hb (Nat.le_refl _))
 have X5 := hidden (X4.out.keep (fun g _ hlt => hb.block g hlt))
 have B5 := hidden (B4.out.trans (hb.mono B4.out.size))
 clear hb V4 X4 B4 v0 v1 v2 v3 v4 vf
 obtain ⟨v0, v1, v2, v3, v4, vf⟩ := V5.out.cells
 have hX := X5.out
 obtain ⟨aos, cps, hh, hr⟩ := hX
 obtain ⟨g, rfl, _, s0, _⟩ := hh 0 awTr rfl
 have s0' : w5.cell? ⟨g, 0, none⟩ = some (.int .i64 205) := s0
 clear s0 hh hr
 go_wp2_with fail
 refine (HC.out w5 _ X5.out).mono ?_
 rintro e w6 ⟨rfl, hb⟩
 have B6 := hidden (B5.out.trans (hb.mono B5.out.size))
 clear hb
 go_wp2_with fail
 go_ret
 exact ⟨rfl, B6.out⟩
end Go.Proofs.YthjmakjhidjbaaaGreat
