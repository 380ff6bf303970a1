/-
  Layer 7, the program's marks: which bytes are which, which texts are words, which are signs. No condition.
-/
import Derived.Test.YtapecobalkjdhaaDoorR7Num
namespace Go.Proofs.YtapecobalkjdhaaDoor
open Go.ChangeShapes Go.WideShapes Go.ChangeAt Go.RowKit Go.Deep
set_option linter.unusedVariables false
set_option maxHeartbeats 1000000

theorem blank_is (c : UInt8) : blankB c = (((c.toNat : Int) == 32) || ((c.toNat : Int) == 10) || ((c.toNat : Int) == 9) || ((c.toNat : Int) == 13)) := by
  unfold blankB
  have h1 := (u8_iff c 32 (by decide)).2.2
  have h2 := (u8_iff c 10 (by decide)).2.2
  have h3 := (u8_iff c 9 (by decide)).2.2
  have h4 := (u8_iff c 13 (by decide)).2.2
  exact congr (congrArg _ (congr (congrArg _ (congr (congrArg _ h1) h2)) h3)) h4
theorem isBlank_any {b : Bool} (c : UInt8) (w : World) (e : blankB c = b) : Calls Tryd.prog 33 #[.int .u8 (c.toNat : Int)] w fun e w' => e = .returned (.bool b) ∧ w' = w := by
  subst e
  rw [blank_is c]
  generalize (c.toNat : Int) = n
  go_enter Tryd.func33, Tryd.ntmps33
  go_wp2
  all_goals go_ret
  all_goals refine ⟨ret_bool ?_, rfl⟩
  all_goals rw [Bool.eq_iff_iff]
  all_goals simp
  all_goals omega
theorem isSmall_any {b : Bool} (c : UInt8) (w : World) (e : smallB c = b) : Calls Tryd.prog 36 #[.int .u8 (c.toNat : Int)] w fun e w' => e = .returned (.bool b) ∧ w' = w := by
  subst e
  rw [small_is c]
  generalize (c.toNat : Int) = n
  go_enter Tryd.func36, Tryd.ntmps36
  go_wp2
  all_goals go_ret
  all_goals refine ⟨ret_bool ?_, rfl⟩
  all_goals rw [Bool.eq_iff_iff]
  all_goals simp
  all_goals omega
theorem isGreat_any {b : Bool} (c : UInt8) (w : World) (e : greatB c = b) : Calls Tryd.prog 37 #[.int .u8 (c.toNat : Int)] w fun e w' => e = .returned (.bool b) ∧ w' = w := by
  subst e
  rw [great_is c]
  generalize (c.toNat : Int) = n
  go_enter Tryd.func37, Tryd.ntmps37
  go_wp2
  all_goals go_ret
  all_goals refine ⟨ret_bool ?_, rfl⟩
  all_goals rw [Bool.eq_iff_iff]
  all_goals simp
  all_goals omega
theorem isDigit_any {b : Bool} (c : UInt8) (w : World) (e : digitB c = b) : Calls Tryd.prog 40 #[.int .u8 (c.toNat : Int)] w fun e w' => e = .returned (.bool b) ∧ w' = w := by
  subst e
  rw [digit_is c]
  generalize (c.toNat : Int) = n
  go_enter Tryd.func40, Tryd.ntmps40
  go_wp2
  all_goals go_ret
  all_goals refine ⟨ret_bool ?_, rfl⟩
  all_goals rw [Bool.eq_iff_iff]
  all_goals simp
  all_goals omega
theorem isOfName_any {b : Bool} (c : UInt8) (w : World) (e : nameB c = b) : Calls Tryd.prog 54 #[.int .u8 (c.toNat : Int)] w fun e w' => e = .returned (.bool b) ∧ w' = w := by
  have h39 := (u8_iff c 39 (by decide)).2.2
  have H39 : Hid (((c.toNat : Int) == 39) = (c == 39)) := h39.symm
  have HN : Hid (nameB c = b) := e
  clear h39 e
  cases h1 : smallB c with
  | true =>
    have HE : Hid (true = b) := by show _ = _; rw [← HN.out]; unfold nameB; rw [h1]; rfl
    have H1 := hidden h1
    clear h1 HN
    go_enter Tryd.func54, Tryd.ntmps54
    go_wp2_with (go_at_call 36; refine (isSmall_any c _ H1.out).mono ?_; rintro e w' ⟨rfl, hw'⟩; rw [hw']; clear hw' w')
    all_goals go_ret
    all_goals exact ⟨ret_bool HE.out, rfl⟩
  | false =>
    cases h2 : greatB c with
    | true =>
      have HE : Hid (true = b) := by show _ = _; rw [← HN.out]; unfold nameB; rw [h1, h2]; rfl
      have H1 := hidden h1
      have H2 := hidden h2
      clear h1 h2 HN
      go_enter Tryd.func54, Tryd.ntmps54
      go_wp2_with (first
        | (go_at_call 36; refine (isSmall_any c _ H1.out).mono ?_; rintro e w' ⟨rfl, hw'⟩; rw [hw']; clear hw' w')
        | (go_at_call 37; refine (isGreat_any c _ H2.out).mono ?_; rintro e w' ⟨rfl, hw'⟩; rw [hw']; clear hw' w'))
      all_goals go_ret
      all_goals exact ⟨ret_bool HE.out, rfl⟩
    | false =>
      cases h3 : digitB c with
      | true =>
        have HE : Hid (true = b) := by show _ = _; rw [← HN.out]; unfold nameB; rw [h1, h2, h3]; rfl
        have H1 := hidden h1
        have H2 := hidden h2
        have H3 := hidden h3
        clear h1 h2 h3 HN
        go_enter Tryd.func54, Tryd.ntmps54
        go_wp2_with (first
          | (go_at_call 36; refine (isSmall_any c _ H1.out).mono ?_; rintro e w' ⟨rfl, hw'⟩; rw [hw']; clear hw' w')
          | (go_at_call 37; refine (isGreat_any c _ H2.out).mono ?_; rintro e w' ⟨rfl, hw'⟩; rw [hw']; clear hw' w')
          | (go_at_call 40; refine (isDigit_any c _ H3.out).mono ?_; rintro e w' ⟨rfl, hw'⟩; rw [hw']; clear hw' w'))
        all_goals go_ret
        all_goals exact ⟨ret_bool HE.out, rfl⟩
      | false =>
        have HE : Hid (((c.toNat : Int) == 39) = b) := by show _ = _; rw [H39.out, ← HN.out]; unfold nameB; rw [h1, h2, h3]; rfl
        have H1 := hidden h1
        have H2 := hidden h2
        have H3 := hidden h3
        clear h1 h2 h3 HN
        go_enter Tryd.func54, Tryd.ntmps54
        go_wp2_with (first
          | (go_at_call 36; refine (isSmall_any c _ H1.out).mono ?_; rintro e w' ⟨rfl, hw'⟩; rw [hw']; clear hw' w')
          | (go_at_call 37; refine (isGreat_any c _ H2.out).mono ?_; rintro e w' ⟨rfl, hw'⟩; rw [hw']; clear hw' w')
          | (go_at_call 40; refine (isDigit_any c _ H3.out).mono ?_; rintro e w' ⟨rfl, hw'⟩; rw [hw']; clear hw' w'))
        all_goals go_ret
        all_goals exact ⟨ret_bool HE.out, rfl⟩
end Go.Proofs.YtapecobalkjdhaaDoor
