/-
  Proved: whatever number and whatever distance are handed to WordShifts, it returns true. No condition.
-/
import Derived.Test.YtafanhhpfnjheabRows
import Derived.WalkKit
import Derived.ProofKit
import Derived.OpenShut
import Derived.Test.YtafanhhpfnjheabDos
import Derived.Test.YtafanhhpfnjheabPlainRing
import Derived.ShutString
namespace Go.Proofs.Ytafanhhpfnjheab.wordShifts
open Go.ChangeShapes Go.WideShapes Go.ChangeAt Go.RowKit
open Go.ChangeMaps (open_string shut_string)
set_option linter.unusedVariables false      -- a walk need not use every 'w<i>' (that an integer argument fits its kind)

theorem own : ownKnob Try.prog.godebug = none := by kernel_rfl

set_option maxHeartbeats 2000000 in
theorem walk (a0 : Int) (a1 : Int) (w0 : (Lit.int .i64 a0).wf = true) (w1 : (Lit.int .u8 a1).wf = true) (w : World) :
    Calls Try.prog 7 #[.int .i64 a0, .int .u8 a1] w fun e w' => e = .returned (.bool true) ∧ Grown w w' := by
  obtain ⟨l0, m0⟩ := bounds_i64 w0
  obtain ⟨l1, m1⟩ := bounds_u8 w1
  obtain ⟨n, hn⟩ : ∃ n : Nat, a1 % 64 = (n : Int) := Int.eq_ofNat_of_zero_le (by omega)
  have hn63 : n ≤ 63 := by omega
  have hL := shl_is a0 n hn63
  have g9 : ∀ b, doE 9 b = 0 := fun b => doE_ok 9 b (by omega) (by omega) (by omega) (by omega)
  have g10 : ∀ b, doE 10 b = 0 := fun b => doE_ok 10 b (by omega) (by omega) (by omega) (by omega)
  have g1 : ∀ b, doE 1 b = 0 := fun b => doE_ok 1 b (by omega) (by omega) (by omega) (by omega)
  have HX : Hid (powW a0 0 = intW a0) := powW_start a0
  go_enter Try.func7, Try.ntmps7
  go_wp2_with (first | (go_at_call 8; refine (int_free _ _).mono ?_; rintro e w' ⟨rfl, rfl⟩) | (go_at_call 11; refine (num_any _ _ (by first | with_reducible exact powW_lo _ _ | with_reducible exact intW_lo _ | with_reducible exact doV_lo _ _ _) (by first | with_reducible exact powW_hi _ _ | with_reducible exact intW_hi _ | with_reducible exact doV_hi _ _ _)).mono ?_; rintro e w' ⟨rfl, rfl⟩) | (go_at_call 10; refine (do_any _ _ _ _ (by first | with_reducible exact powW_lo _ _ | with_reducible exact intW_lo _ | with_reducible exact doV_lo _ _ _) (by first | with_reducible exact powW_hi _ _ | with_reducible exact intW_hi _ | with_reducible exact doV_hi _ _ _) (by first | with_reducible exact powW_lo _ _ | with_reducible exact intW_lo _ | with_reducible exact doV_lo _ _ _) (by first | with_reducible exact powW_hi _ _ | with_reducible exact intW_hi _ | with_reducible exact doV_hi _ _ _) (by decide) (by decide)).mono ?_; rintro e w' ⟨rfl, rfl⟩))
  go_loop [8, 9] (fun p i => ∃ k : Nat, k ≤ n ∧ i = .int .i64 k ∧ p = .int .u64 (powW a0 k)) (fun _ i => (n - intOf i).toNat)
  case atStart => exact ⟨0, by omega, rfl, by rw [HX.out]⟩
  case round =>
    obtain ⟨k, hk, rfl, rfl⟩ := hrel
    by_cases hlt : k < n
    · have HS : Hid (doV 1 (powW a0 k) (powW a0 k) = powW a0 (k + 1)) := powW_step a0 k
      go_wp2_with (first | (go_at_call 8; refine (int_free _ _).mono ?_; rintro e w' ⟨rfl, rfl⟩) | (go_at_call 11; refine (num_any _ _ (by first | with_reducible exact powW_lo _ _ | with_reducible exact intW_lo _ | with_reducible exact doV_lo _ _ _) (by first | with_reducible exact powW_hi _ _ | with_reducible exact intW_hi _ | with_reducible exact doV_hi _ _ _)).mono ?_; rintro e w' ⟨rfl, rfl⟩) | (go_at_call 10; refine (do_any _ _ _ _ (by first | with_reducible exact powW_lo _ _ | with_reducible exact intW_lo _ | with_reducible exact doV_lo _ _ _) (by first | with_reducible exact powW_hi _ _ | with_reducible exact intW_hi _ | with_reducible exact doV_hi _ _ _) (by first | with_reducible exact powW_lo _ _ | with_reducible exact intW_lo _ | with_reducible exact doV_lo _ _ _) (by first | with_reducible exact powW_hi _ _ | with_reducible exact intW_hi _ | with_reducible exact doV_hi _ _ _) (by decide) (by decide)).mono ?_; rintro e w' ⟨rfl, rfl⟩))
      all_goals
        go_round
        case rel => exact ⟨k + 1, by omega, by go_num, by rw [HS.out]⟩
        case measure => simp [intOf]; omega
    · have hkm : k = n := by omega
      subst hkm
      clear hlt hk hL HX
      by_cases far : 62 < k
      · have f1 : True → (numW (powW a0 k) == 0) = true := fun _ => by
          rw [show k = 63 from by omega]; exact far_l a0
        have f2 : True → (numW (doV 10 (powW a0 k) (intW k)) == 0) = true := fun _ => by
          rw [show k = 63 from by omega]; exact far_r a0
        go_wp2_with (first | (go_at_call 8; refine (int_free _ _).mono ?_; rintro e w' ⟨rfl, rfl⟩) | (go_at_call 11; refine (num_any _ _ (by first | with_reducible exact powW_lo _ _ | with_reducible exact intW_lo _ | with_reducible exact doV_lo _ _ _) (by first | with_reducible exact powW_hi _ _ | with_reducible exact intW_hi _ | with_reducible exact doV_hi _ _ _)).mono ?_; rintro e w' ⟨rfl, rfl⟩) | (go_at_call 10; refine (do_any _ _ _ _ (by first | with_reducible exact powW_lo _ _ | with_reducible exact intW_lo _ | with_reducible exact doV_lo _ _ _) (by first | with_reducible exact powW_hi _ _ | with_reducible exact intW_hi _ | with_reducible exact doV_hi _ _ _) (by first | with_reducible exact powW_lo _ _ | with_reducible exact intW_lo _ | with_reducible exact doV_lo _ _ _) (by first | with_reducible exact powW_hi _ _ | with_reducible exact intW_hi _ | with_reducible exact doV_hi _ _ _) (by decide) (by decide)).mono ?_; rintro e w' ⟨rfl, rfl⟩))
        all_goals go_ret
        all_goals exact ⟨rfl, by repeat (first | exact Grown.refl _ | apply Grown.drew | apply Grown.alloc)⟩
      · by_cases s1 : wrap64 (-(4611686018427387904 / 2 ^ k)) ≤ a0
        · by_cases s2 : a0 < 4611686018427387904 / 2 ^ k
          · have f : True → (numW (doV 10 (powW a0 k) (intW k)) == a0) = true := fun _ => near_r a0 k (by omega) (by rw [← wrap_half]; exact s1) s2
            go_wp2_with (first | (go_at_call 8; refine (int_free _ _).mono ?_; rintro e w' ⟨rfl, rfl⟩) | (go_at_call 11; refine (num_any _ _ (by first | with_reducible exact powW_lo _ _ | with_reducible exact intW_lo _ | with_reducible exact doV_lo _ _ _) (by first | with_reducible exact powW_hi _ _ | with_reducible exact intW_hi _ | with_reducible exact doV_hi _ _ _)).mono ?_; rintro e w' ⟨rfl, rfl⟩) | (go_at_call 10; refine (do_any _ _ _ _ (by first | with_reducible exact powW_lo _ _ | with_reducible exact intW_lo _ | with_reducible exact doV_lo _ _ _) (by first | with_reducible exact powW_hi _ _ | with_reducible exact intW_hi _ | with_reducible exact doV_hi _ _ _) (by first | with_reducible exact powW_lo _ _ | with_reducible exact intW_lo _ | with_reducible exact doV_lo _ _ _) (by first | with_reducible exact powW_hi _ _ | with_reducible exact intW_hi _ | with_reducible exact doV_hi _ _ _) (by decide) (by decide)).mono ?_; rintro e w' ⟨rfl, rfl⟩))
            all_goals go_ret
            all_goals exact ⟨rfl, by repeat (first | exact Grown.refl _ | apply Grown.drew | apply Grown.alloc)⟩
          · go_wp2_with (first | (go_at_call 8; refine (int_free _ _).mono ?_; rintro e w' ⟨rfl, rfl⟩) | (go_at_call 11; refine (num_any _ _ (by first | with_reducible exact powW_lo _ _ | with_reducible exact intW_lo _ | with_reducible exact doV_lo _ _ _) (by first | with_reducible exact powW_hi _ _ | with_reducible exact intW_hi _ | with_reducible exact doV_hi _ _ _)).mono ?_; rintro e w' ⟨rfl, rfl⟩) | (go_at_call 10; refine (do_any _ _ _ _ (by first | with_reducible exact powW_lo _ _ | with_reducible exact intW_lo _ | with_reducible exact doV_lo _ _ _) (by first | with_reducible exact powW_hi _ _ | with_reducible exact intW_hi _ | with_reducible exact doV_hi _ _ _) (by first | with_reducible exact powW_lo _ _ | with_reducible exact intW_lo _ | with_reducible exact doV_lo _ _ _) (by first | with_reducible exact powW_hi _ _ | with_reducible exact intW_hi _ | with_reducible exact doV_hi _ _ _) (by decide) (by decide)).mono ?_; rintro e w' ⟨rfl, rfl⟩))
            all_goals go_ret
            all_goals exact ⟨rfl, by repeat (first | exact Grown.refl _ | apply Grown.drew | apply Grown.alloc)⟩
        · go_wp2_with (first | (go_at_call 8; refine (int_free _ _).mono ?_; rintro e w' ⟨rfl, rfl⟩) | (go_at_call 11; refine (num_any _ _ (by first | with_reducible exact powW_lo _ _ | with_reducible exact intW_lo _ | with_reducible exact doV_lo _ _ _) (by first | with_reducible exact powW_hi _ _ | with_reducible exact intW_hi _ | with_reducible exact doV_hi _ _ _)).mono ?_; rintro e w' ⟨rfl, rfl⟩) | (go_at_call 10; refine (do_any _ _ _ _ (by first | with_reducible exact powW_lo _ _ | with_reducible exact intW_lo _ | with_reducible exact doV_lo _ _ _) (by first | with_reducible exact powW_hi _ _ | with_reducible exact intW_hi _ | with_reducible exact doV_hi _ _ _) (by first | with_reducible exact powW_lo _ _ | with_reducible exact intW_lo _ | with_reducible exact doV_lo _ _ _) (by first | with_reducible exact powW_hi _ _ | with_reducible exact intW_hi _ | with_reducible exact doV_hi _ _ _) (by decide) (by decide)).mono ?_; rintro e w' ⟨rfl, rfl⟩))
          all_goals go_ret
          all_goals exact ⟨rfl, by repeat (first | exact Grown.refl _ | apply Grown.drew | apply Grown.alloc)⟩

set_option maxRecDepth 100000 in
theorem lifted (os : Os) (started : os.Started) (H : Type) (enc : TypeId × Value → H) :
    ReturnsInHanded {} Try.checked os 7 .any (Rows.wordShiftsSpec.pre6 enc Try.prog Try.f7 Rows.wordShiftsRow.domain false) (Rows.wordShiftsSpec.post enc Try.prog Try.f7 false true false false) := by
  refine returnsInHanded_of_change (C := Try.checked) own started (by kernel_rfl) Try.func7
    (ChangeSpec.witness6 (enc := enc) (C := Try.checked) false ⟨#[], #[.int .i64 0, .int .u8 0], []⟩ 8 (by kernel_rfl) (by kernel_rfl) (by kernel_rfl) (by kernel_rfl)) ?_
  intro W base args ds gs before hval0 hW hcnd _
  have hval : ∀ (j : Nat) t v, Try.f7.params[j]? = some t → args[j]? = some v → Value.okWide Try.prog W .any base t v := hval0
  have hW' := hW
  obtain ⟨p, q, hA0, hV, rfl, hfz, hnd⟩ := hW
  have hA : DataW.TrodAll enc Try.prog W 0 (fun _ => true) true Try.f7.params.toList args.toList ds p := hA0
  rw [Try.params7] at hA hval
  obtain ⟨v0, vs0, d0, ds0, p0, q0, hargs, rfl, rfl, h0, r0⟩ := trodAll_cons hA
  obtain ⟨v1, vs1, d1, ds1, p1, q1, rfl, rfl, rfl, h1, r1⟩ := trodAll_cons r0
  obtain ⟨rfl, rfl, rfl⟩ := trodAll_nil r1
  obtain rfl : args = #[v0, v1] := by cases args; simp_all
  obtain ⟨rfl, rfl⟩ := trodVars_none hV
  obtain ⟨a0, rfl, rfl, rfl, w0⟩ := open_int Try.underlying2 (hval 0 2 v0 rfl rfl) h0
  obtain ⟨a1, rfl, rfl, rfl, w1⟩ := open_int Try.underlying5 (hval 1 5 v1 rfl rfl) h1
  clear hA0 hval0
  simp only [List.append_nil] at hW'
  refine (walk a0 a1 w0 w1 W).mono fun e W' ⟨he, hg⟩ => ?_
  subst he
  exact ⟨_, rfl, post_of_same (pa := []) (pv := []) hW' (fun _ _ _ => (trodAll_cons_mk (shut_bool Try.underlying4 _) trodAll_mk0)) (fun sp _ => (trodAll_cons_mk (shut_int Try.underlying2 w0) (trodAll_cons_mk (shut_int Try.underlying5 w1) trodAll_mk0))) (fun _ _ => rfl) rfl
    (hg.frame _) hg.2.1 (ok_one (by kernel_rfl) rfl (okWide_bool_mk Try.underlying4 _))⟩

theorem over : Rows.wordShiftsRow.holds Try.pinned (OpenSpec.ofChange Rows.wordShiftsSpec) :=
  OpenClaim.holds_of_wide 7 Try.f7 rfl rfl rfl rfl rfl rfl rfl ⟨rfl, rfl, rfl, rfl, rfl⟩ rfl rfl rfl rfl rfl (by kernel_rfl) Try.func7 (by kernel_rfl)
    (of_decide_eq_true (by kernel_rfl)) (by unfold Func.isWrapper; first | (rw [if_pos (by decide +kernel)]; kernel_rfl) | (rw [if_neg (by decide +kernel)]; exact ⟨rfl, rfl⟩))
    (fun os started H enc _ => lifted os started H enc)

theorem proved : Rows.WordShiftsSaid :=
  over
end Go.Proofs.Ytafanhhpfnjheab.wordShifts

namespace Go.Proofs.Ytafanhhpfnjheab
/-- The statement. -/
theorem wordShifts_holds : Rows.WordShiftsSaid := wordShifts.proved
#print axioms wordShifts_holds
end Go.Proofs.Ytafanhhpfnjheab
