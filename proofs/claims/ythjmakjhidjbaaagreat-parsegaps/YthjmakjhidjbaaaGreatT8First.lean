/-
 Layer 8: ParseFirst, walked: it returns true. No condition but the strings' sizes.
-/
import Derived.Test.YthjmakjhidjbaaaGreatX8First
namespace Go.Proofs.YthjmakjhidjbaaaGreat
open Go.ChangeShapes Go.WideShapes Go.ChangeAt Go.RowKit Go.Deep
set_option linter.unusedVariables false
set_option linter.unusedSimpArgs false
set_option maxHeartbeats 2000000
set_option maxRecDepth 20000

/-- What is wrong, and where: numbers. -/
def errE (r : Except (Int × Int) (List Tr)) : Int := match r with | .error (e, _) => e | .ok _ => 0
def errP (r : Except (Int × Int) (List Tr)) : Int := match r with | .error (_, p) => p | .ok _ => 0
theorem parse_some (s : ByteArray) (w : World) (hz : s.size ≤ maxLen) : Calls Tryz.prog 10 #[.string s] w fun e w' => ∃ (k : Int) (ao : Option Addr) (n cp : Nat), e = .returned (.tuple #[.agg #[.int .i64 k, .int .i64 0, .int .i64 0, .string ⟨#[]⟩, .slice ao n cp], .int .i64 (errE (parseR s)), .int .i64 (errP (parseR s))]) ∧ Below w.heap.size w w' := by
 cases h : parseR s with
 | ok L => exact (parse_ok w h hz).mono (fun e w' ⟨ao, cp, h1, _, hb⟩ => ⟨211, ao, _, cp, h1, hb⟩)
 | error ep => exact (parse_err w h hz).mono (fun e w' ⟨h1, hb⟩ => ⟨0, none, 0, 0, h1, hb⟩)
def lexE (s : ByteArray) : Int := match lexR s with | .error (e, _) => e | .ok _ => 0
theorem lex_some (s : ByteArray) (w : World) (hz : s.size ≤ maxLen) : Calls Tryz.prog 17 #[.string s] w fun e w' => ∃ ao n c k, e = .returned (.tuple #[.slice ao n c, .int .i64 (lexE s), .int .i64 k]) ∧ Below w.heap.size w w' := by
 unfold lexE
 cases h : lexR s with
 | ok ts => exact (lexP_ok w h).mono (fun e w' ⟨ao, c, h1, _, _, hb⟩ => ⟨ao, _, c, _, h1, hb⟩)
 | error ek => exact (lexP_err w h hz).mono (fun e w' ⟨h1, hb⟩ => ⟨none, 0, 0, _, h1, hb⟩)
theorem sp_data (a b : ByteArray) : (a ++ ⟨#[32]⟩ ++ b).data.toList = a.data.toList ++ 32 :: b.data.toList := by
 rw [ByteArray.data_append, ByteArray.data_append]
 simp
theorem sp_size (a b : ByteArray) : (a ++ ⟨#[32]⟩ ++ b).size = a.size + 1 + b.size := by
 rw [← len_data, sp_data, List.length_append, List.length_cons, len_data, len_data]; omega
theorem parseFirst_walk (a b : ByteArray) (w : World) (hza : a.size ≤ 140737488351232) (hzb : b.size ≤ 140737488351232) :
  Calls Tryz.prog 8 #[.string a, .string b] w fun e w' => e = .returned (.bool true) ∧ Below w.heap.size w w' := by
 have ha1 : Hid (a.size ≤ maxLen) := by show _ ≤ _; unfold maxLen; omega
 have hc1 : Hid ((a ++ ⟨#[32]⟩ ++ b).size ≤ maxLen) := by show _ ≤ _; rw [sp_size]; unfold maxLen; omega
 have HL := hidden (fun (h1 : errE (parseR a) = 21) (h2 : errP (parseR a) < (a.size : Int)) (h3 : lexE (a ++ ⟨#[32]⟩ ++ b) = 0) => show errE (parseR (a ++ ⟨#[32]⟩ ++ b)) = 21 ∧ errP (parseR (a ++ ⟨#[32]⟩ ++ b)) = errP (parseR a) by
  cases hp : parseR a with
  | ok L => rw [hp] at h1; cases h1
  | error ep =>
   obtain ⟨e, p⟩ := ep
   rw [hp] at h1 h2
   have h1' : e = 21 := h1
   subst h1'
   unfold lexE at h3
   cases hl : lexR (a ++ ⟨#[32]⟩ ++ b) with
   | error ek => rw [hl] at h3; exact absurd h3 (lexR_err hl)
   | ok vs => rw [first_law hp h2 hl (sp_data a b)]; exact ⟨rfl, rfl⟩)
 obtain ⟨e1, he1⟩ : ∃ e1, errE (parseR a) = e1 := ⟨_, rfl⟩
 obtain ⟨p1, hp1⟩ : ∃ p1, errP (parseR a) = p1 := ⟨_, rfl⟩
 have HP := hidden (fun w => parse_some a w ha1.out)
 rw [he1, hp1] at HP HL
 have HX := hidden (fun w => lex_some (a ++ ⟨#[32]⟩ ++ b) w hc1.out)
 have HO := hidden (fun w => parse_some (a ++ ⟨#[32]⟩ ++ b) w hc1.out)
 obtain ⟨f1, hf1⟩ : ∃ f1, lexE (a ++ ⟨#[32]⟩ ++ b) = f1 := ⟨_, rfl⟩
 rw [hf1] at HX HL
 obtain ⟨e3, he3⟩ : ∃ e3, errE (parseR (a ++ ⟨#[32]⟩ ++ b)) = e3 := ⟨_, rfl⟩
 obtain ⟨p3, hp3⟩ : ∃ p3, errP (parseR (a ++ ⟨#[32]⟩ ++ b)) = p3 := ⟨_, rfl⟩
 rw [he3, hp3] at HO HL
 clear he1 hp1 hf1 he3 hp3 ha1 hc1
 have key : ∀ (b1 b2 b3 : Bool), (e1 != 21) = b1 → decide ((a.size : Int) ≤ p1) = b2 → (f1 != 0) = b3 → Calls Tryz.prog 8 #[.string a, .string b] w fun e w' => e = .returned (.bool true) ∧ Below w.heap.size w w' := by
  intro b1 b2 b3 z1 z2 z3
  cases b1 <;> cases b2 <;> cases b3
  case false.false.false =>
   have h1 : e1 = 21 := by simpa using z1
   have h2 : p1 < (a.size : Int) := by simpa using z2
   have h3 : f1 = 0 := by simpa using z3
   obtain ⟨q1, q2⟩ := HL.out h1 h2 h3
   subst h1 h3 q1 q2
   have h2' : ¬ (a.size : Int) ≤ p3 := by omega
   clear HL z1 z2 z3 h2
   go_enter Tryz.func8, Tryz.ntmps8
   go_wp2_with fail
   refine (aw8_any w).mono ?_
   rintro e w1 ⟨rfl, hb⟩
   have B1 := hidden hb
   clear hb
   go_wp2_with fail
   refine (HP.out w1).mono ?_
   rintro e w2 ⟨k2, ao2, n2, cp2, rfl, hb⟩
   have hb2 := hb.alloc (by have := hb.size; omega) (.cells #[.int .i64 k2, .int .i64 0, .int .i64 0, .string ⟨#[]⟩, .slice ao2 n2 cp2] 25)
   have B2 := hidden (B1.out.trans (hb2.mono B1.out.size))
   clear hb hb2
   go_wp2_with fail
   generalize w2.alloc (.cells #[.int .i64 k2, .int .i64 0, .int .i64 0, .string ⟨#[]⟩, .slice ao2 n2 cp2] 25) = w3 at *
   refine (HX.out w3).mono ?_
   rintro e w4 ⟨ao4, n4, cp4, k4, rfl, hb⟩
   have B4 := hidden (B2.out.trans (hb.mono B2.out.size))
   clear hb
   go_wp2_with fail
   refine (HO.out w4).mono ?_
   rintro e w5 ⟨k5, ao5, n5, cp5, rfl, hb⟩
   have B5 := hidden (B4.out.trans (hb.mono B4.out.size))
   clear hb
   go_wp2_with fail
   go_ret
   exact ⟨rfl, B5.out.alloc (by have := B5.out.size; omega) _⟩
  all_goals
   clear HL
   go_enter Tryz.func8, Tryz.ntmps8
   go_wp2_with fail
   refine (aw8_any w).mono ?_
   rintro e w1 ⟨rfl, hb⟩
   have B1 := hidden hb
   clear hb
   go_wp2_with fail
   refine (HP.out w1).mono ?_
   rintro e w2 ⟨k2, ao2, n2, cp2, rfl, hb⟩
   have hb2 := hb.alloc (by have := hb.size; omega) (.cells #[.int .i64 k2, .int .i64 0, .int .i64 0, .string ⟨#[]⟩, .slice ao2 n2 cp2] 25)
   have B2 := hidden (B1.out.trans (hb2.mono B1.out.size))
   clear hb hb2
   go_wp2_with fail
   generalize w2.alloc (.cells #[.int .i64 k2, .int .i64 0, .int .i64 0, .string ⟨#[]⟩, .slice ao2 n2 cp2] 25) = w3 at *
   refine (HX.out w3).mono ?_
   rintro e w4 ⟨ao4, n4, cp4, k4, rfl, hb⟩
   have B4 := hidden (B2.out.trans (hb.mono B2.out.size))
   clear hb
   go_wp2_with fail
   go_ret
   exact ⟨rfl, B4.out⟩
 exact key _ _ _ rfl rfl rfl
end Go.Proofs.YthjmakjhidjbaaaGreat
