/-
  What the document's own Parse returns; nothing in memory changes. Condition: the text lies in memory.
-/
import Derived.Test.YtapecobalkjdhaaDoorRefs
import Derived.Test.YtapecobalkjdhaaDoorPlainParse
import Derived.WalkLawsBesides
namespace Go.Proofs.YtapecobalkjdhaaDoor
open Go.ChangeShapes Go.WideShapes Go.ChangeAt Go.RowKit
set_option linter.unusedVariables false
set_option maxHeartbeats 400000

theorem rparse_s1 (s : ByteArray) (w : World) (hs : s.size ≤ maxLen) (h1 : s.size = 0) (HF : Hid (formAt s 0 = false)) :
    Calls Tryd.prog 27 #[.string s] w fun e w' => e = .returned (.tuple #[.int .u64 (parVAt s 0), .int .i64 (parEAt s 0)]) ∧ w' = w := by
  unfold maxLen at hs
  obtain ⟨HV, HE⟩ : Hid (parVAt s 0 = 0) ∧ Hid (parEAt s 0 = 5) := par_form s 0 HF.out
  have hb := get_bt s
  go_enter Tryd.func27, Tryd.ntmps27
  go_wp2
  all_goals go_ret2
  all_goals exact ⟨ret_two HV.out.symm HE.out.symm, rfl⟩
theorem rparse_s2 (s : ByteArray) (w : World) (hs : s.size ≤ maxLen) (h1 : s.size = 1) (h2 : (bt s 0 == 45) = true) (HF : Hid (formAt s 1 = false)) :
    Calls Tryd.prog 27 #[.string s] w fun e w' => e = .returned (.tuple #[.int .u64 (parVAt s 1), .int .i64 (parEAt s 1)]) ∧ w' = w := by
  unfold maxLen at hs
  obtain ⟨HV, HE⟩ : Hid (parVAt s 1 = 0) ∧ Hid (parEAt s 1 = 5) := par_form s 1 HF.out
  have hb := get_bt s
  have b1 := bt_lo s 0
  have b2 := bt_hi s 0
  go_enter Tryd.func27, Tryd.ntmps27
  go_wp2
  all_goals go_ret2
  all_goals exact ⟨ret_two HV.out.symm HE.out.symm, rfl⟩
theorem rparse_s3 (s : ByteArray) (w : World) (hs : s.size ≤ maxLen) (h1 : 2 ≤ s.size) (h2 : (bt s 0 == 45) = true) (h3 : (bt s 1 == 48) = true) (HF : Hid (formAt s 1 = false)) :
    Calls Tryd.prog 27 #[.string s] w fun e w' => e = .returned (.tuple #[.int .u64 (parVAt s 1), .int .i64 (parEAt s 1)]) ∧ w' = w := by
  unfold maxLen at hs
  obtain ⟨HV, HE⟩ : Hid (parVAt s 1 = 0) ∧ Hid (parEAt s 1 = 5) := par_form s 1 HF.out
  have hb := get_bt s
  have b1 := bt_lo s 0
  have b2 := bt_hi s 0
  have d1 := bt_lo s 1
  have d2 := bt_hi s 1
  have z0 : ((s.size : Int) == 1) = false := by rw [beq_eq_false_iff_ne]; omega
  go_enter Tryd.func27, Tryd.ntmps27
  go_wp2
  all_goals go_ret2
  all_goals exact ⟨ret_two HV.out.symm HE.out.symm, rfl⟩
theorem rparse_s4 (s : ByteArray) (w : World) (hs : s.size ≤ maxLen) (h1 : 2 ≤ s.size) (h2 : (bt s 0 == 45) = false) (h3 : (bt s 0 == 48) = true) (HF : Hid (formAt s 0 = false)) :
    Calls Tryd.prog 27 #[.string s] w fun e w' => e = .returned (.tuple #[.int .u64 (parVAt s 0), .int .i64 (parEAt s 0)]) ∧ w' = w := by
  unfold maxLen at hs
  obtain ⟨HV, HE⟩ : Hid (parVAt s 0 = 0) ∧ Hid (parEAt s 0 = 5) := par_form s 0 HF.out
  have hb := get_bt s
  have b1 := bt_lo s 0
  have b2 := bt_hi s 0
  have z0 : ((s.size : Int) == 0) = false := by rw [beq_eq_false_iff_ne]; omega
  go_enter Tryd.func27, Tryd.ntmps27
  go_wp2
  all_goals go_ret2
  all_goals exact ⟨ret_two HV.out.symm HE.out.symm, rfl⟩
theorem rparse_e1 (s : ByteArray) (w : World) (hs : s.size ≤ maxLen) (h1 : 2 ≤ s.size) (h2 : (bt s 0 == 45) = true) (h3 : (bt s 1 == 48) = false) :
    Calls Tryd.prog 27 #[.string s] w fun e w' => e = .returned (.tuple #[.int .u64 (parVAt s 1), .int .i64 (parEAt s 1)]) ∧ w' = w := by
  unfold maxLen at hs
  have hb := get_bt s
  have b1 := bt_lo s 0
  have b2 := bt_hi s 0
  have d1 := bt_lo s 1
  have d2 := bt_hi s 1
  have z0 : ((s.size : Int) == 1) = false := by rw [beq_eq_false_iff_ne]; omega
  go_enter Tryd.func27, Tryd.ntmps27
  go_wp2
  go_loop [6] (fun i => ∃ j : Nat, 1 ≤ j ∧ j ≤ s.size ∧ i = .int .i64 j ∧ allJ s 1 j = true) (fun i => (s.size - intOf i).toNat)
  case atStart => exact ⟨1, by omega, by omega, rfl, allJ_start s 1⟩
  case round =>
    obtain ⟨j, ja, hj, rfl, ha⟩ := hrel
    have HA : Hid (allJ s 1 j = true) := ha
    clear ha
    have b3 := bt_lo s j
    have b4 := bt_hi s j
    by_cases hlt : j < s.size
    · by_cases c1 : bt s j < 48
      · obtain ⟨HV, HE⟩ : Hid (parVAt s 1 = 0) ∧ Hid (parEAt s 1 = 5) := par_form s 1 (form_bad s 1 j ja hlt (by omega))
        go_wp2
        all_goals go_ret2
        all_goals exact ⟨ret_two HV.out.symm HE.out.symm, rfl⟩
      · by_cases c2 : 57 < bt s j
        · obtain ⟨HV, HE⟩ : Hid (parVAt s 1 = 0) ∧ Hid (parEAt s 1 = 5) := par_form s 1 (form_bad s 1 j ja hlt (by omega))
          go_wp2
          all_goals go_ret2
          all_goals exact ⟨ret_two HV.out.symm HE.out.symm, rfl⟩
        · have HS : Hid (allJ s 1 (j + 1) = true) := allJ_step s 1 j ja HA.out (by omega) (by omega)
          go_wp2
          all_goals
            go_round
            case rel => exact ⟨j + 1, by omega, by omega, by go_num, HS.out⟩
            case measure => simp [intOf]; omega
    · have hjm : j = s.size := by omega
      subst hjm
      clear hlt hj b3 b4
      have HF : Hid (formAt s 1 = true) := form_ok s 1 (by omega) HA.out (Or.inl (beq_eq_false_iff_ne.1 h3))
      go_wp2
      go_loop [7, 8] (fun n i => ∃ j : Nat, 1 ≤ j ∧ j ≤ s.size ∧ i = .int .i64 j ∧ n = .int .i64 (-(valJ s 1 j)) ∧ valJ s 1 j ≤ 4611686018427387904) (fun _ i => (s.size - intOf i).toNat)
      case atStart => exact ⟨1, by omega, by omega, rfl, by rw [valJ_start]; rfl, by rw [valJ_start]; omega⟩
      case round =>
        obtain ⟨j, ja, hj, rfl, rfl, hv⟩ := hrel
        by_cases hlt : j < s.size
        · obtain ⟨c1, c2⟩ := allJ_at s 1 _ HA.out j ja hlt
          have v0 := valJ_nonneg s 1 j _ HA.out hj
          by_cases far : 4611686018427387904 < valJ s 1 j * 10 + (bt s j - 48)
          · have t := far_yes _ _ (by omega) far
            obtain ⟨HV, HE⟩ : Hid (parVAt s 1 = 0) ∧ Hid (parEAt s 1 = 2) := par_big s 1 HF.out ((big_iff s 1).2 (Or.inl (by
              have e := valJ_step s 1 j ja
              have u := valJ_up s 1 (j + 1) s.size HA.out (by omega)
              show 4611686018427387904 < valJ s 1 s.size
              omega)))
            go_wp2
            all_goals go_ret2
            all_goals exact ⟨ret_two HV.out.symm HE.out.symm, rfl⟩
          · have t := far_no _ _ (by omega) far
            have v1 : valJ s 1 j ≤ 461168601842738790 := by omega
            have HS : Hid (valJ s 1 (j + 1) = valJ s 1 j * 10 + (bt s j - 48)) := valJ_step s 1 j ja
            go_wp2
            all_goals
              go_round
              case rel => exact ⟨j + 1, by omega, by omega, by go_num, by rw [HS.out]; go_num, by rw [HS.out]; omega⟩
              case measure => simp [intOf]; omega
        · have hjm : j = s.size := by omega
          subst hjm
          have v0 := valJ_nonneg s 1 _ _ HA.out (Nat.le_refl _)
          clear hlt hj
          obtain ⟨HV, HE⟩ : Hid (parVAt s 1 = intW (-valJ s 1 s.size)) ∧ Hid (parEAt s 1 = 0) := par_ok s 1 HF.out ((big_not s 1).2 (by
            show ¬ (4611686018427387904 < valJ s 1 s.size ∨ (valJ s 1 s.size = 4611686018427387904 ∧ 1 = 0))
            omega))
          go_wp2_with (go_at_call 45; refine (rint_any _ _ (by omega) (by omega)).mono ?_; rintro e w' ⟨rfl, rfl⟩)
          all_goals go_ret2
          all_goals exact ⟨ret_two HV.out.symm HE.out.symm, rfl⟩
theorem rparse_e2 (s : ByteArray) (w : World) (hs : s.size ≤ maxLen) (h1 : 1 ≤ s.size) (h0 : s.size ≤ 1) (h2 : (bt s 0 == 45) = false) (h3 : (bt s 0 == 48) = true) :
    Calls Tryd.prog 27 #[.string s] w fun e w' => e = .returned (.tuple #[.int .u64 (parVAt s 0), .int .i64 (parEAt s 0)]) ∧ w' = w := by
  unfold maxLen at hs
  have hb := get_bt s
  have b1 := bt_lo s 0
  have b2 := bt_hi s 0
  have z0 : ((s.size : Int) == 0) = false := by rw [beq_eq_false_iff_ne]; omega
  go_enter Tryd.func27, Tryd.ntmps27
  go_wp2
  go_loop [6] (fun i => ∃ j : Nat, 0 ≤ j ∧ j ≤ s.size ∧ i = .int .i64 j ∧ allJ s 0 j = true) (fun i => (s.size - intOf i).toNat)
  case atStart => exact ⟨0, by omega, by omega, rfl, allJ_start s 0⟩
  case round =>
    obtain ⟨j, ja, hj, rfl, ha⟩ := hrel
    have HA : Hid (allJ s 0 j = true) := ha
    clear ha
    have b3 := bt_lo s j
    have b4 := bt_hi s j
    by_cases hlt : j < s.size
    · by_cases c1 : bt s j < 48
      · obtain ⟨HV, HE⟩ : Hid (parVAt s 0 = 0) ∧ Hid (parEAt s 0 = 5) := par_form s 0 (form_bad s 0 j ja hlt (by omega))
        go_wp2
        all_goals go_ret2
        all_goals exact ⟨ret_two HV.out.symm HE.out.symm, rfl⟩
      · by_cases c2 : 57 < bt s j
        · obtain ⟨HV, HE⟩ : Hid (parVAt s 0 = 0) ∧ Hid (parEAt s 0 = 5) := par_form s 0 (form_bad s 0 j ja hlt (by omega))
          go_wp2
          all_goals go_ret2
          all_goals exact ⟨ret_two HV.out.symm HE.out.symm, rfl⟩
        · have HS : Hid (allJ s 0 (j + 1) = true) := allJ_step s 0 j ja HA.out (by omega) (by omega)
          go_wp2
          all_goals
            go_round
            case rel => exact ⟨j + 1, by omega, by omega, by go_num, HS.out⟩
            case measure => simp [intOf]; omega
    · have hjm : j = s.size := by omega
      subst hjm
      clear hlt hj b3 b4
      have HF : Hid (formAt s 0 = true) := form_ok s 0 (by omega) HA.out (Or.inr (by omega))
      go_wp2
      go_loop [7, 8] (fun n i => ∃ j : Nat, 0 ≤ j ∧ j ≤ s.size ∧ i = .int .i64 j ∧ n = .int .i64 (-(valJ s 0 j)) ∧ valJ s 0 j ≤ 4611686018427387904) (fun _ i => (s.size - intOf i).toNat)
      case atStart => exact ⟨0, by omega, by omega, rfl, by rw [valJ_start]; rfl, by rw [valJ_start]; omega⟩
      case round =>
        obtain ⟨j, ja, hj, rfl, rfl, hv⟩ := hrel
        by_cases hlt : j < s.size
        · obtain ⟨c1, c2⟩ := allJ_at s 0 _ HA.out j ja hlt
          have v0 := valJ_nonneg s 0 j _ HA.out hj
          by_cases far : 4611686018427387904 < valJ s 0 j * 10 + (bt s j - 48)
          · have t := far_yes _ _ (by omega) far
            obtain ⟨HV, HE⟩ : Hid (parVAt s 0 = 0) ∧ Hid (parEAt s 0 = 2) := par_big s 0 HF.out ((big_iff s 0).2 (Or.inl (by
              have e := valJ_step s 0 j ja
              have u := valJ_up s 0 (j + 1) s.size HA.out (by omega)
              show 4611686018427387904 < valJ s 0 s.size
              omega)))
            go_wp2
            all_goals go_ret2
            all_goals exact ⟨ret_two HV.out.symm HE.out.symm, rfl⟩
          · have t := far_no _ _ (by omega) far
            have v1 : valJ s 0 j ≤ 461168601842738790 := by omega
            have HS : Hid (valJ s 0 (j + 1) = valJ s 0 j * 10 + (bt s j - 48)) := valJ_step s 0 j ja
            go_wp2
            all_goals
              go_round
              case rel => exact ⟨j + 1, by omega, by omega, by go_num, by rw [HS.out]; go_num, by rw [HS.out]; omega⟩
              case measure => simp [intOf]; omega
        · have hjm : j = s.size := by omega
          subst hjm
          have v0 := valJ_nonneg s 0 _ _ HA.out (Nat.le_refl _)
          clear hlt hj
          by_cases eq : valJ s 0 s.size = 4611686018427387904
          · obtain ⟨HV, HE⟩ : Hid (parVAt s 0 = 0) ∧ Hid (parEAt s 0 = 2) := par_big s 0 HF.out ((big_iff s 0).2 (Or.inr ⟨eq, rfl⟩))
            have eq1 : (-valJ s 0 s.size == -4611686018427387904) = true := by rw [beq_iff_eq]; omega
            clear eq
            go_wp2_with (go_at_call 45; refine (rint_any _ _ (by omega) (by omega)).mono ?_; rintro e w' ⟨rfl, rfl⟩)
            all_goals go_ret2
            all_goals exact ⟨ret_two HV.out.symm HE.out.symm, rfl⟩
          · obtain ⟨HV, HE⟩ : Hid (parVAt s 0 = intW (valJ s 0 s.size)) ∧ Hid (parEAt s 0 = 0) := par_ok s 0 HF.out ((big_not s 0).2 (by
              show ¬ (4611686018427387904 < valJ s 0 s.size ∨ (valJ s 0 s.size = 4611686018427387904 ∧ 0 = 0))
              omega))
            have eq1 : (-valJ s 0 s.size == -4611686018427387904) = false := by rw [beq_eq_false_iff_ne]; omega
            clear eq
            go_wp2_with (go_at_call 45; refine (rint_any _ _ (by omega) (by omega)).mono ?_; rintro e w' ⟨rfl, rfl⟩)
            all_goals go_ret2
            all_goals exact ⟨ret_two (by rw [HV.out]) HE.out.symm, rfl⟩
theorem rparse_e3 (s : ByteArray) (w : World) (hs : s.size ≤ maxLen) (h1 : 1 ≤ s.size) (h2 : (bt s 0 == 45) = false) (h3 : (bt s 0 == 48) = false) :
    Calls Tryd.prog 27 #[.string s] w fun e w' => e = .returned (.tuple #[.int .u64 (parVAt s 0), .int .i64 (parEAt s 0)]) ∧ w' = w := by
  unfold maxLen at hs
  have hb := get_bt s
  have b1 := bt_lo s 0
  have b2 := bt_hi s 0
  have z0 : ((s.size : Int) == 0) = false := by rw [beq_eq_false_iff_ne]; omega
  go_enter Tryd.func27, Tryd.ntmps27
  go_wp2
  go_loop [6] (fun i => ∃ j : Nat, 0 ≤ j ∧ j ≤ s.size ∧ i = .int .i64 j ∧ allJ s 0 j = true) (fun i => (s.size - intOf i).toNat)
  case atStart => exact ⟨0, by omega, by omega, rfl, allJ_start s 0⟩
  case round =>
    obtain ⟨j, ja, hj, rfl, ha⟩ := hrel
    have HA : Hid (allJ s 0 j = true) := ha
    clear ha
    have b3 := bt_lo s j
    have b4 := bt_hi s j
    by_cases hlt : j < s.size
    · by_cases c1 : bt s j < 48
      · obtain ⟨HV, HE⟩ : Hid (parVAt s 0 = 0) ∧ Hid (parEAt s 0 = 5) := par_form s 0 (form_bad s 0 j ja hlt (by omega))
        go_wp2
        all_goals go_ret2
        all_goals exact ⟨ret_two HV.out.symm HE.out.symm, rfl⟩
      · by_cases c2 : 57 < bt s j
        · obtain ⟨HV, HE⟩ : Hid (parVAt s 0 = 0) ∧ Hid (parEAt s 0 = 5) := par_form s 0 (form_bad s 0 j ja hlt (by omega))
          go_wp2
          all_goals go_ret2
          all_goals exact ⟨ret_two HV.out.symm HE.out.symm, rfl⟩
        · have HS : Hid (allJ s 0 (j + 1) = true) := allJ_step s 0 j ja HA.out (by omega) (by omega)
          go_wp2
          all_goals
            go_round
            case rel => exact ⟨j + 1, by omega, by omega, by go_num, HS.out⟩
            case measure => simp [intOf]; omega
    · have hjm : j = s.size := by omega
      subst hjm
      clear hlt hj b3 b4
      have HF : Hid (formAt s 0 = true) := form_ok s 0 (by omega) HA.out (Or.inl (beq_eq_false_iff_ne.1 h3))
      go_wp2
      go_loop [7, 8] (fun n i => ∃ j : Nat, 0 ≤ j ∧ j ≤ s.size ∧ i = .int .i64 j ∧ n = .int .i64 (-(valJ s 0 j)) ∧ valJ s 0 j ≤ 4611686018427387904) (fun _ i => (s.size - intOf i).toNat)
      case atStart => exact ⟨0, by omega, by omega, rfl, by rw [valJ_start]; rfl, by rw [valJ_start]; omega⟩
      case round =>
        obtain ⟨j, ja, hj, rfl, rfl, hv⟩ := hrel
        by_cases hlt : j < s.size
        · obtain ⟨c1, c2⟩ := allJ_at s 0 _ HA.out j ja hlt
          have v0 := valJ_nonneg s 0 j _ HA.out hj
          by_cases far : 4611686018427387904 < valJ s 0 j * 10 + (bt s j - 48)
          · have t := far_yes _ _ (by omega) far
            obtain ⟨HV, HE⟩ : Hid (parVAt s 0 = 0) ∧ Hid (parEAt s 0 = 2) := par_big s 0 HF.out ((big_iff s 0).2 (Or.inl (by
              have e := valJ_step s 0 j ja
              have u := valJ_up s 0 (j + 1) s.size HA.out (by omega)
              show 4611686018427387904 < valJ s 0 s.size
              omega)))
            go_wp2
            all_goals go_ret2
            all_goals exact ⟨ret_two HV.out.symm HE.out.symm, rfl⟩
          · have t := far_no _ _ (by omega) far
            have v1 : valJ s 0 j ≤ 461168601842738790 := by omega
            have HS : Hid (valJ s 0 (j + 1) = valJ s 0 j * 10 + (bt s j - 48)) := valJ_step s 0 j ja
            go_wp2
            all_goals
              go_round
              case rel => exact ⟨j + 1, by omega, by omega, by go_num, by rw [HS.out]; go_num, by rw [HS.out]; omega⟩
              case measure => simp [intOf]; omega
        · have hjm : j = s.size := by omega
          subst hjm
          have v0 := valJ_nonneg s 0 _ _ HA.out (Nat.le_refl _)
          clear hlt hj
          by_cases eq : valJ s 0 s.size = 4611686018427387904
          · obtain ⟨HV, HE⟩ : Hid (parVAt s 0 = 0) ∧ Hid (parEAt s 0 = 2) := par_big s 0 HF.out ((big_iff s 0).2 (Or.inr ⟨eq, rfl⟩))
            have eq1 : (-valJ s 0 s.size == -4611686018427387904) = true := by rw [beq_iff_eq]; omega
            clear eq
            go_wp2_with (go_at_call 45; refine (rint_any _ _ (by omega) (by omega)).mono ?_; rintro e w' ⟨rfl, rfl⟩)
            all_goals go_ret2
            all_goals exact ⟨ret_two HV.out.symm HE.out.symm, rfl⟩
          · obtain ⟨HV, HE⟩ : Hid (parVAt s 0 = intW (valJ s 0 s.size)) ∧ Hid (parEAt s 0 = 0) := par_ok s 0 HF.out ((big_not s 0).2 (by
              show ¬ (4611686018427387904 < valJ s 0 s.size ∨ (valJ s 0 s.size = 4611686018427387904 ∧ 0 = 0))
              omega))
            have eq1 : (-valJ s 0 s.size == -4611686018427387904) = false := by rw [beq_eq_false_iff_ne]; omega
            clear eq
            go_wp2_with (go_at_call 45; refine (rint_any _ _ (by omega) (by omega)).mono ?_; rintro e w' ⟨rfl, rfl⟩)
            all_goals go_ret2
            all_goals exact ⟨ret_two (by rw [HV.out]) HE.out.symm, rfl⟩
theorem rparse_any (s : ByteArray) (w : World) (hs : s.size ≤ maxLen) :
    Calls Tryd.prog 27 #[.string s] w fun e w' => e = .returned (.tuple #[.int .u64 (parV s), .int .i64 (parE s)]) ∧ w' = w := by
  cases hm : minusB s
  · have e1 : parV s = parVAt s 0 := if_neg (by rw [hm]; simp)
    have e2 : parE s = parEAt s 0 := if_neg (by rw [hm]; simp)
    rw [e1, e2]
    by_cases z : s.size = 0
    · exact rparse_s1 s w hs z (by show formAt s 0 = false; unfold formAt; rw [decide_eq_false (by omega : ¬ 0 < s.size)]; rfl)
    · have n45 : (bt s 0 == 45) = false := by
        rw [beq_eq_false_iff_ne]; intro e
        have : minusB s = true := decide_eq_true ⟨by omega, e⟩
        rw [hm] at this; exact absurd this (by simp)
      by_cases q : bt s 0 = 48
      · by_cases o : s.size ≤ 1
        · exact rparse_e2 s w hs (by omega) o n45 (by rw [beq_iff_eq]; exact q)
        · exact rparse_s4 s w hs (by omega) n45 (by rw [beq_iff_eq]; exact q) (by
            show formAt s 0 = false
            unfold formAt; rw [decide_eq_false (by omega : ¬ bt s 0 ≠ 48), decide_eq_false (by omega : ¬ s.size = 1)]; simp)
      · exact rparse_e3 s w hs (by omega) n45 (by rw [beq_eq_false_iff_ne]; exact q)
  · have e1 : parV s = parVAt s 1 := if_pos hm
    have e2 : parE s = parEAt s 1 := if_pos hm
    rw [e1, e2]
    obtain ⟨z, m⟩ := of_decide_eq_true hm
    have y45 : (bt s 0 == 45) = true := by rw [beq_iff_eq]; exact m
    by_cases o : s.size = 1
    · exact rparse_s2 s w hs o y45 (by show formAt s 1 = false; unfold formAt; rw [decide_eq_false (by omega : ¬ 1 < s.size)]; rfl)
    · by_cases q : bt s 1 = 48
      · exact rparse_s3 s w hs (by omega) y45 (by rw [beq_iff_eq]; exact q) (by
          show formAt s 1 = false
          unfold formAt; rw [decide_eq_false (by omega : ¬ bt s 1 ≠ 48), decide_eq_false (by omega : ¬ s.size = 1)]; simp)
      · exact rparse_e1 s w hs (by omega) y45 (by rw [beq_eq_false_iff_ne]; exact q)
end Go.Proofs.YtapecobalkjdhaaDoor
