/-
  What package word's Parse returns, and what it leans on; nothing in memory changes. Condition: the text lies in memory.
-/
import Derived.Test.YtapecobalkjdhaaDoorWords
import Derived.Test.YtapecobalkjdhaaDoorPlainParse
import Derived.WalkLawsBesides
namespace Go.Proofs.YtapecobalkjdhaaDoor
open Go.ChangeShapes Go.WideShapes Go.ChangeAt Go.RowKit
set_option linter.unusedVariables false
set_option maxHeartbeats 400000

theorem has_any (s : ByteArray) (w : World) (hs : s.size ≤ maxLen) :
    Calls Tryd.prog 67 #[.string s, .string ⟨#[45]⟩] w fun e w' => e = .returned (.bool (minusB s)) ∧ w' = w := by
  unfold maxLen at hs
  by_cases hz : s.size = 0
  · have HV : Hid (minusB s = false) := decide_eq_false (by omega)
    go_enter Tryd.func67, Tryd.ntmps67
    go_wp2
    all_goals go_ret
    all_goals exact ⟨ret_bool HV.out.symm, rfl⟩
  · have hz' : 1 ≤ s.size := by omega
    go_enter Tryd.func67, Tryd.ntmps67
    go_wp2
    all_goals go_ret
    all_goals exact ⟨ret_bool (first_is s hz'), rfl⟩
theorem trim_yes (s : ByteArray) (w : World) (hs : s.size ≤ maxLen) (hm : minusB s = true) :
    Calls Tryd.prog 69 #[.string s, .string ⟨#[45]⟩] w fun e w' => e = .returned (.string (s.extract 1 s.size)) ∧ w' = w := by
  have hs' := hs
  unfold maxLen at hs'
  have hz : 1 ≤ s.size := (of_decide_eq_true hm).1
  go_enter Tryd.func69, Tryd.ntmps69
  go_wp2_with (first | (go_at_call 67; refine (has_any _ _ hs).mono ?_; rintro e w' ⟨rfl, rfl⟩) | go_in)
  all_goals go_ret
  all_goals exact ⟨rfl, rfl⟩
theorem trim_no (s : ByteArray) (w : World) (hs : s.size ≤ maxLen) (hm : minusB s = false) :
    Calls Tryd.prog 69 #[.string s, .string ⟨#[45]⟩] w fun e w' => e = .returned (.string s) ∧ w' = w := by
  have hs' := hs
  unfold maxLen at hs'
  go_enter Tryd.func69, Tryd.ntmps69
  go_wp2_with (first | (go_at_call 67; refine (has_any _ _ hs).mono ?_; rintro e w' ⟨rfl, rfl⟩) | go_in)
  all_goals go_ret
  all_goals exact ⟨rfl, rfl⟩
theorem isCount_any (d : ByteArray) (w : World) (hs : d.size ≤ maxLen) :
    Calls Tryd.prog 70 #[.string d] w fun e w' => e = .returned (.bool (cntB d)) ∧ w' = w := by
  unfold maxLen at hs
  have hb := get_bt d
  go_enter Tryd.func70, Tryd.ntmps70
  go_wp2
  go_loop [3] (fun i => ∃ k : Nat, k ≤ d.size ∧ i = .int .i64 k ∧ allB d 0 k = true) (fun i => (d.size - intOf i).toNat)
  case atStart => exact ⟨0, by omega, rfl, rfl⟩
  case round =>
    obtain ⟨k, hk, rfl, ha⟩ := hrel
    have b1 := bt_lo d k
    have b2 := bt_hi d k
    have HA : Hid (allB d 0 k = true) := ha
    clear ha
    by_cases hlt : k < d.size
    · by_cases c1 : bt d k < 48
      · have HV : Hid (cntB d = false) := by
          show cntB d = false
          unfold cntB; rw [allB_bad d 0 k d.size hlt (by rw [Nat.zero_add]; omega)]; rfl
        go_wp2
        all_goals go_ret
        all_goals exact ⟨ret_bool HV.out.symm, rfl⟩
      · by_cases c2 : 57 < bt d k
        · have HV : Hid (cntB d = false) := by
            show cntB d = false
            unfold cntB; rw [allB_bad d 0 k d.size hlt (by rw [Nat.zero_add]; omega)]; rfl
          go_wp2
          all_goals go_ret
          all_goals exact ⟨ret_bool HV.out.symm, rfl⟩
        · have HS : Hid (allB d 0 (k + 1) = true) := allB_step d 0 k HA.out (by rw [Nat.zero_add]; omega) (by rw [Nat.zero_add]; omega)
          go_wp2
          all_goals
            go_round
            case rel => exact ⟨k + 1, by omega, by go_num, HS.out⟩
            case measure => simp [intOf]; omega
    · have hkm : k = d.size := by omega
      subst hkm
      clear hlt hk b1 b2
      by_cases hz : d.size = 0
      · have hn := toList_none d hz
        have HV : Hid (cntB d = false) := by
          show cntB d = false
          unfold cntB; rw [decide_eq_false (by omega : ¬ 0 < d.size)]; simp
        go_wp2
        all_goals go_ret
        all_goals exact ⟨ret_bool HV.out.symm, rfl⟩
      · have hn := toList_some d hz
        have he : d.toList.isEmpty = false := by simp [hn]
        have HV : Hid (cntB d = (bt d 0 != 48)) := by
          show cntB d = (bt d 0 != 48)
          unfold cntB; rw [decide_eq_true (by omega : 0 < d.size), HA.out]
          by_cases q : bt d 0 = 48
          · simp [q]
          · simp [q]
        go_wp2
        all_goals go_ret
        all_goals exact ⟨ret_bool HV.out.symm, rfl⟩
theorem count_far (d : ByteArray) (w : World) (hs : d.size ≤ maxLen) (hz : 19 < d.size) :
    Calls Tryd.prog 71 #[.string d] w fun e w' => e = .returned (.tuple #[.int .u64 0, .bool false]) ∧ w' = w := by
  unfold maxLen at hs
  go_enter Tryd.func71, Tryd.ntmps71
  go_wp2
  all_goals go_ret2
  all_goals exact ⟨rfl, rfl⟩
theorem count_near (d : ByteArray) (w : World) (hz : d.size ≤ 19) (ha : allB d 0 d.size = true) :
    Calls Tryd.prog 71 #[.string d] w fun e w' => e = .returned (.tuple #[.int .u64 (val d 0 d.size), .bool (decide (val d 0 d.size ≤ 4611686018427387904))]) ∧ w' = w := by
  have hb := get_bt d
  have HA : Hid (allB d 0 d.size = true) := ha
  clear ha
  go_enter Tryd.func71, Tryd.ntmps71
  go_wp2
  go_loop [4, 5] (fun n i => ∃ k : Nat, k ≤ d.size ∧ i = .int .i64 k ∧ n = .int .u64 (val d 0 k)) (fun _ i => (d.size - intOf i).toNat)
  case atStart => exact ⟨0, by omega, rfl, rfl⟩
  case round =>
    obtain ⟨k, hk, rfl, rfl⟩ := hrel
    have v1 := val_nonneg d 0 k (allB_le d 0 _ HA.out k hk)
    by_cases hlt : k < d.size
    · have b0 := allB_at d 0 _ HA.out k hlt
      rw [Nat.zero_add] at b0
      obtain ⟨b1, b2⟩ := b0
      have v2 : val d 0 k ≤ 999999999999999999 := val_small d 0 k (by omega) (allB_le d 0 _ HA.out k hk)
      have HS : Hid (val d 0 (k + 1) = val d 0 k * 10 + (bt d k - 48)) := by
        show val d 0 (k + 1) = val d 0 k * 10 + (bt d k - 48)
        rw [val, Nat.zero_add]
      go_wp2
      all_goals
        go_round
        case rel => exact ⟨k + 1, by omega, by go_num, by rw [HS.out]⟩
        case measure => simp [intOf]; omega
    · have hkm : k = d.size := by omega
      subst hkm
      go_wp2
      all_goals go_ret2
      all_goals exact ⟨rfl, rfl⟩
theorem trim_at (s d : ByteArray) (w : World) (hs : s.size ≤ maxLen) (hm : minusB s = true) (hd : d = s.extract 1 s.size) :
    Calls Tryd.prog 69 #[.string s, .string ⟨#[45]⟩] w fun e w' => e = .returned (.string d) ∧ w' = w := by
  rw [hd]; exact trim_yes s w hs hm
theorem parse_minus (s d : ByteArray) (w : World) (hs : s.size ≤ maxLen) (hm : minusB s = true) (HD : Hid (d = s.extract 1 s.size)) :
    Calls Tryd.prog 55 #[.string s] w fun e w' => e = .returned (.tuple #[.int .u64 (outV d true), .int .i64 (outE d true)]) ∧ w' = w := by
  have hl : d.size < s.size := by
    have h1 := (of_decide_eq_true hm).1
    have h2 := size_tail s
    rw [← HD.out] at h2
    omega
  have hds : d.size ≤ maxLen := by omega
  have hz : (s.toList == [48]) = false := by
    rw [nought_is, decide_eq_false_iff_not]
    have h1 := (of_decide_eq_true hm).2
    omega
  have hs2 := hs
  unfold maxLen at hs2
  cases hc : cntB d
  · have HV : Hid (outV d true = 0) := if_neg (fun q => by rw [hc] at q; exact absurd q.1 (by simp))
    have HE : Hid (outE d true = 5) := if_neg (by rw [hc]; simp)
    go_enter Tryd.func55, Tryd.ntmps55
    go_wp2_with (first | (go_at_call 69; refine (trim_at s d _ hs hm HD.out).mono ?_; rintro e w' ⟨rfl, rfl⟩) | (go_at_call 70; refine (isCount_any d _ hds).mono ?_; rintro e w' ⟨rfl, rfl⟩))
    all_goals go_ret2
    all_goals exact ⟨ret_two HV.out.symm HE.out.symm, rfl⟩
  · have HA : Hid (allB d 0 d.size = true) := (cnt_all d hc).1
    have v0 := val_nonneg d 0 _ HA.out
    by_cases hfar : 19 < d.size
    · have big := val_far d 0 _ HA.out (cnt_all d hc).2 (by omega)
      have HV : Hid (outV d true = 0) := if_neg (fun q => q.2 (Or.inl big))
      have HE : Hid (outE d true = 2) := by
        show outE d true = 2
        unfold outE; rw [if_pos hc, if_pos (Or.inl big)]
      clear big v0
      go_enter Tryd.func55, Tryd.ntmps55
      go_wp2_with (first | (go_at_call 69; refine (trim_at s d _ hs hm HD.out).mono ?_; rintro e w' ⟨rfl, rfl⟩) | (go_at_call 70; refine (isCount_any d _ hds).mono ?_; rintro e w' ⟨rfl, rfl⟩) | (go_at_call 71; refine (count_far d _ hds hfar).mono ?_; rintro e w' ⟨rfl, rfl⟩))
      all_goals go_ret2
      all_goals exact ⟨ret_two HV.out.symm HE.out.symm, rfl⟩
    · have hnear : d.size ≤ 19 := by omega
      clear hfar
      by_cases big : 4611686018427387904 < val d 0 d.size
      · have HV : Hid (outV d true = 0) := if_neg (fun q => q.2 (Or.inl big))
        have HE : Hid (outE d true = 2) := by
          show outE d true = 2
          unfold outE; rw [if_pos hc, if_pos (Or.inl big)]
        go_enter Tryd.func55, Tryd.ntmps55
        go_wp2_with (first | (go_at_call 69; refine (trim_at s d _ hs hm HD.out).mono ?_; rintro e w' ⟨rfl, rfl⟩) | (go_at_call 70; refine (isCount_any d _ hds).mono ?_; rintro e w' ⟨rfl, rfl⟩) | (go_at_call 71; refine (count_near d _ hnear HA.out).mono ?_; rintro e w' ⟨rfl, rfl⟩))
        all_goals go_ret2
        all_goals exact ⟨ret_two HV.out.symm HE.out.symm, rfl⟩
      · by_cases eq : val d 0 d.size = 4611686018427387904
        · have eq1 : (val d 0 d.size == 4611686018427387904) = true := by rw [beq_iff_eq]; exact eq
          have HV : Hid (outV d true = intW (-val d 0 d.size)) := by
            show outV d true = intW (-val d 0 d.size)
            unfold outV; rw [if_pos ⟨hc, by simp; omega⟩]; rfl
          have HE : Hid (outE d true = 0) := by
            show outE d true = 0
            unfold outE; rw [if_pos hc, if_neg (by simp; omega)]
          clear eq
          go_enter Tryd.func55, Tryd.ntmps55
          go_wp2_with (first | (go_at_call 69; refine (trim_at s d _ hs hm HD.out).mono ?_; rintro e w' ⟨rfl, rfl⟩) | (go_at_call 70; refine (isCount_any d _ hds).mono ?_; rintro e w' ⟨rfl, rfl⟩) | (go_at_call 71; refine (count_near d _ hnear HA.out).mono ?_; rintro e w' ⟨rfl, rfl⟩) | (go_at_call 68; refine (int_free _ _).mono ?_; rintro e w' ⟨rfl, rfl⟩))
          all_goals go_ret2
          all_goals exact ⟨ret_two HV.out.symm HE.out.symm, rfl⟩
        · have eq1 : (val d 0 d.size == 4611686018427387904) = false := by rw [beq_eq_false_iff_ne]; exact eq
          have HV : Hid (outV d true = intW (-val d 0 d.size)) := by
            show outV d true = intW (-val d 0 d.size)
            unfold outV; rw [if_pos ⟨hc, by simp; omega⟩]; rfl
          have HE : Hid (outE d true = 0) := by
            show outE d true = 0
            unfold outE; rw [if_pos hc, if_neg (by simp; omega)]
          clear eq
          go_enter Tryd.func55, Tryd.ntmps55
          go_wp2_with (first | (go_at_call 69; refine (trim_at s d _ hs hm HD.out).mono ?_; rintro e w' ⟨rfl, rfl⟩) | (go_at_call 70; refine (isCount_any d _ hds).mono ?_; rintro e w' ⟨rfl, rfl⟩) | (go_at_call 71; refine (count_near d _ hnear HA.out).mono ?_; rintro e w' ⟨rfl, rfl⟩) | (go_at_call 68; refine (int_free _ _).mono ?_; rintro e w' ⟨rfl, rfl⟩))
          all_goals go_ret2
          all_goals exact ⟨ret_two HV.out.symm HE.out.symm, rfl⟩
theorem parse_plain (s : ByteArray) (w : World) (hs : s.size ≤ maxLen) (hm : minusB s = false) (hz : (s.toList == [48]) = false) :
    Calls Tryd.prog 55 #[.string s] w fun e w' => e = .returned (.tuple #[.int .u64 (outV s false), .int .i64 (outE s false)]) ∧ w' = w := by
  have hs2 := hs
  unfold maxLen at hs2
  cases hc : cntB s
  · have HV : Hid (outV s false = 0) := if_neg (fun q => by rw [hc] at q; exact absurd q.1 (by simp))
    have HE : Hid (outE s false = 5) := if_neg (by rw [hc]; simp)
    go_enter Tryd.func55, Tryd.ntmps55
    go_wp2_with (first | (go_at_call 69; refine (trim_no s _ hs hm).mono ?_; rintro e w' ⟨rfl, rfl⟩) | (go_at_call 70; refine (isCount_any s _ hs).mono ?_; rintro e w' ⟨rfl, rfl⟩))
    all_goals go_ret2
    all_goals exact ⟨ret_two HV.out.symm HE.out.symm, rfl⟩
  · have HA : Hid (allB s 0 s.size = true) := (cnt_all s hc).1
    have v0 := val_nonneg s 0 _ HA.out
    by_cases hfar : 19 < s.size
    · have big := val_far s 0 _ HA.out (cnt_all s hc).2 (by omega)
      have HV : Hid (outV s false = 0) := if_neg (fun q => q.2 (Or.inl big))
      have HE : Hid (outE s false = 2) := by
        show outE s false = 2
        unfold outE; rw [if_pos hc, if_pos (Or.inl big)]
      clear big v0
      go_enter Tryd.func55, Tryd.ntmps55
      go_wp2_with (first | (go_at_call 69; refine (trim_no s _ hs hm).mono ?_; rintro e w' ⟨rfl, rfl⟩) | (go_at_call 70; refine (isCount_any s _ hs).mono ?_; rintro e w' ⟨rfl, rfl⟩) | (go_at_call 71; refine (count_far s _ hs hfar).mono ?_; rintro e w' ⟨rfl, rfl⟩))
      all_goals go_ret2
      all_goals exact ⟨ret_two HV.out.symm HE.out.symm, rfl⟩
    · have hnear : s.size ≤ 19 := by omega
      clear hfar
      by_cases big : 4611686018427387904 < val s 0 s.size
      · have HV : Hid (outV s false = 0) := if_neg (fun q => q.2 (Or.inl big))
        have HE : Hid (outE s false = 2) := by
          show outE s false = 2
          unfold outE; rw [if_pos hc, if_pos (Or.inl big)]
        go_enter Tryd.func55, Tryd.ntmps55
        go_wp2_with (first | (go_at_call 69; refine (trim_no s _ hs hm).mono ?_; rintro e w' ⟨rfl, rfl⟩) | (go_at_call 70; refine (isCount_any s _ hs).mono ?_; rintro e w' ⟨rfl, rfl⟩) | (go_at_call 71; refine (count_near s _ hnear HA.out).mono ?_; rintro e w' ⟨rfl, rfl⟩))
        all_goals go_ret2
        all_goals exact ⟨ret_two HV.out.symm HE.out.symm, rfl⟩
      · by_cases eq : val s 0 s.size = 4611686018427387904
        · have eq1 : (val s 0 s.size == 4611686018427387904) = true := by rw [beq_iff_eq]; exact eq
          have HV : Hid (outV s false = 0) := if_neg (fun q => q.2 (Or.inr ⟨eq, rfl⟩))
          have HE : Hid (outE s false = 2) := by
            show outE s false = 2
            unfold outE; rw [if_pos hc, if_pos (Or.inr ⟨eq, rfl⟩)]
          clear eq
          go_enter Tryd.func55, Tryd.ntmps55
          go_wp2_with (first | (go_at_call 69; refine (trim_no s _ hs hm).mono ?_; rintro e w' ⟨rfl, rfl⟩) | (go_at_call 70; refine (isCount_any s _ hs).mono ?_; rintro e w' ⟨rfl, rfl⟩) | (go_at_call 71; refine (count_near s _ hnear HA.out).mono ?_; rintro e w' ⟨rfl, rfl⟩))
          all_goals go_ret2
          all_goals exact ⟨ret_two HV.out.symm HE.out.symm, rfl⟩
        · have eq1 : (val s 0 s.size == 4611686018427387904) = false := by rw [beq_eq_false_iff_ne]; exact eq
          have HV : Hid (outV s false = intW (val s 0 s.size)) := by
            show outV s false = intW (val s 0 s.size)
            unfold outV; rw [if_pos ⟨hc, by simp; omega⟩]; rfl
          have HE : Hid (outE s false = 0) := by
            show outE s false = 0
            unfold outE; rw [if_pos hc, if_neg (by simp; omega)]
          clear eq
          go_enter Tryd.func55, Tryd.ntmps55
          go_wp2_with (first | (go_at_call 69; refine (trim_no s _ hs hm).mono ?_; rintro e w' ⟨rfl, rfl⟩) | (go_at_call 70; refine (isCount_any s _ hs).mono ?_; rintro e w' ⟨rfl, rfl⟩) | (go_at_call 71; refine (count_near s _ hnear HA.out).mono ?_; rintro e w' ⟨rfl, rfl⟩) | (go_at_call 68; refine (int_free _ _).mono ?_; rintro e w' ⟨rfl, rfl⟩))
          all_goals go_ret2
          all_goals exact ⟨ret_two HV.out.symm HE.out.symm, rfl⟩
theorem parse_nought (s : ByteArray) (w : World) (hs : s.size ≤ maxLen) (hz : (s.toList == [48]) = true) :
    Calls Tryd.prog 55 #[.string s] w fun e w' => e = .returned (.tuple #[.int .u64 (intW 0), .int .i64 0]) ∧ w' = w := by
  have hs2 := hs
  unfold maxLen at hs2
  go_enter Tryd.func55, Tryd.ntmps55
  go_wp2_with (go_at_call 68; refine (int_free _ _).mono ?_; rintro e w' ⟨rfl, rfl⟩)
  all_goals go_ret2
  all_goals exact ⟨rfl, rfl⟩
theorem parse_any (s : ByteArray) (w : World) (hs : s.size ≤ maxLen) :
    Calls Tryd.prog 55 #[.string s] w fun e w' => e = .returned (.tuple #[.int .u64 (parV s), .int .i64 (parE s)]) ∧ w' = w := by
  by_cases z : s.size = 1 ∧ bt s 0 = 48
  · obtain ⟨e1, e2⟩ := out_nought s z.1 z.2
    rw [e1, e2]
    exact parse_nought s w hs (by rw [nought_is]; exact decide_eq_true z)
  · cases hm : minusB s
    · obtain ⟨e1, e2⟩ := out_whole s hm z
      rw [e1, e2]
      exact parse_plain s w hs hm (by rw [nought_is]; exact decide_eq_false z)
    · obtain ⟨e1, e2⟩ := out_tail s hm
      rw [e1, e2]
      exact parse_minus s _ w hs hm rfl
end Go.Proofs.YtapecobalkjdhaaDoor
