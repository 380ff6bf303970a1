/-
  Proved: whatever three numbers are handed to WordLess, it returns true. No condition.
-/
import Derived.Test.YtafanhhpfnjheabRows
import Derived.WalkKit
import Derived.ProofKit
import Derived.OpenShut
import Derived.Test.YtafanhhpfnjheabDos
import Derived.Test.YtafanhhpfnjheabPlainRing
import Derived.ShutString
namespace Go.Proofs.Ytafanhhpfnjheab.wordLess
open Go.ChangeShapes Go.WideShapes Go.ChangeAt Go.RowKit
open Go.ChangeMaps (open_string shut_string)
set_option linter.unusedVariables false      -- a walk need not use every 'w<i>' (that an integer argument fits its kind)

theorem own : ownKnob Try.prog.godebug = none := by kernel_rfl

theorem less_call (p q : Int) (w : World) :
    Calls Try.prog 13 #[.int .i64 p, .int .i64 q] w fun e w' => e = .returned (.bool (lessB p q)) ∧ w' = w := by
  have lx := intW_lo p
  have mx := intW_hi p
  have ly := intW_lo q
  have my := intW_hi q
  have z : doE 11 (intW q) = 0 := doE_ok 11 _ (by omega) (by omega) (by omega) (by omega)
  have e := less_is p q
  go_enter Try.func13, Try.ntmps13
  go_wp2_with (first | (go_at_call 8; refine (int_free _ _).mono ?_; rintro e w' ⟨rfl, rfl⟩) | (go_at_call 10; refine (do_any _ _ _ _ (by omega) (by omega) (by omega) (by omega) (by omega) (by omega)).mono ?_; rintro e w' ⟨rfl, rfl⟩))
  all_goals go_ret
  all_goals exact ⟨rfl, rfl⟩

set_option maxHeartbeats 2000000 in
theorem walk (a0 : Int) (a1 : Int) (a2 : Int) (w0 : (Lit.int .i64 a0).wf = true) (w1 : (Lit.int .i64 a1).wf = true) (w2 : (Lit.int .i64 a2).wf = true) (w : World) :
    Calls Try.prog 6 #[.int .i64 a0, .int .i64 a1, .int .i64 a2] w fun e w' => e = .returned (.bool true) ∧ Grown w w' := by
  have e12 : lessB 1 2 = true := by decide
  have e21 : lessB 2 1 = false := by decide
  have eaa : lessB a0 a0 = false := by unfold lessB; exact decide_eq_false (by omega)
  have same := int_same a0 a1
  by_cases c : cutN a0 = cutN a1
  · rw [decide_eq_true c] at same
    have f1 : lessB a0 a1 = false := by unfold lessB; exact decide_eq_false (by omega)
    have f2 : lessB a1 a0 = false := by unfold lessB; exact decide_eq_false (by omega)
    by_cases d : cutN a0 < cutN a2
    · have f3 : lessB a0 a2 = true := by unfold lessB; exact decide_eq_true (by omega)
      have f4 : lessB a1 a2 = true := by unfold lessB; exact decide_eq_true (by omega)
      clear c d
      go_enter Try.func6, Try.ntmps6
      go_wp2_with (first | (go_at_call 8; refine (int_free _ _).mono ?_; rintro e w' ⟨rfl, rfl⟩) | (go_at_call 13; refine (less_call _ _ _).mono ?_; rintro e w' ⟨rfl, rfl⟩))
      all_goals go_ret
      all_goals exact ⟨rfl, by repeat (first | exact Grown.refl _ | apply Grown.drew | apply Grown.alloc)⟩
    · have f3 : lessB a0 a2 = false := by unfold lessB; exact decide_eq_false (by omega)
      have f4 : lessB a1 a2 = false := by unfold lessB; exact decide_eq_false (by omega)
      clear c d
      go_enter Try.func6, Try.ntmps6
      go_wp2_with (first | (go_at_call 8; refine (int_free _ _).mono ?_; rintro e w' ⟨rfl, rfl⟩) | (go_at_call 13; refine (less_call _ _ _).mono ?_; rintro e w' ⟨rfl, rfl⟩))
      all_goals go_ret
      all_goals exact ⟨rfl, by repeat (first | exact Grown.refl _ | apply Grown.drew | apply Grown.alloc)⟩
  · rw [decide_eq_false c] at same
    by_cases d : cutN a0 < cutN a1
    · have f1 : lessB a0 a1 = true := by unfold lessB; exact decide_eq_true (by omega)
      have f2 : lessB a1 a0 = false := by unfold lessB; exact decide_eq_false (by omega)
      by_cases k : cutN a1 < cutN a2
      · have f3 : lessB a1 a2 = true := by unfold lessB; exact decide_eq_true (by omega)
        have f4 : lessB a0 a2 = true := by unfold lessB; exact decide_eq_true (by omega)
        clear c d k
        go_enter Try.func6, Try.ntmps6
        go_wp2_with (first | (go_at_call 8; refine (int_free _ _).mono ?_; rintro e w' ⟨rfl, rfl⟩) | (go_at_call 13; refine (less_call _ _ _).mono ?_; rintro e w' ⟨rfl, rfl⟩))
        all_goals go_ret
        all_goals exact ⟨rfl, by repeat (first | exact Grown.refl _ | apply Grown.drew | apply Grown.alloc)⟩
      · have f3 : lessB a1 a2 = false := by unfold lessB; exact decide_eq_false (by omega)
        clear c d k
        go_enter Try.func6, Try.ntmps6
        go_wp2_with (first | (go_at_call 8; refine (int_free _ _).mono ?_; rintro e w' ⟨rfl, rfl⟩) | (go_at_call 13; refine (less_call _ _ _).mono ?_; rintro e w' ⟨rfl, rfl⟩))
        all_goals go_ret
        all_goals exact ⟨rfl, by repeat (first | exact Grown.refl _ | apply Grown.drew | apply Grown.alloc)⟩
    · have f1 : lessB a0 a1 = false := by unfold lessB; exact decide_eq_false (by omega)
      have f2 : lessB a1 a0 = true := by unfold lessB; exact decide_eq_true (by omega)
      clear c d
      go_enter Try.func6, Try.ntmps6
      go_wp2_with (first | (go_at_call 8; refine (int_free _ _).mono ?_; rintro e w' ⟨rfl, rfl⟩) | (go_at_call 13; refine (less_call _ _ _).mono ?_; rintro e w' ⟨rfl, rfl⟩))
      all_goals go_ret
      all_goals exact ⟨rfl, by repeat (first | exact Grown.refl _ | apply Grown.drew | apply Grown.alloc)⟩

set_option maxRecDepth 100000 in
theorem lifted (os : Os) (started : os.Started) (H : Type) (enc : TypeId × Value → H) :
    ReturnsInHanded {} Try.checked os 6 .any (Rows.wordLessSpec.pre6 enc Try.prog Try.f6 Rows.wordLessRow.domain false) (Rows.wordLessSpec.post enc Try.prog Try.f6 false true false false) := by
  refine returnsInHanded_of_change (C := Try.checked) own started (by kernel_rfl) Try.func6
    (ChangeSpec.witness6 (enc := enc) (C := Try.checked) false ⟨#[], #[.int .i64 0, .int .i64 0, .int .i64 0], []⟩ 8 (by kernel_rfl) (by kernel_rfl) (by kernel_rfl) (by kernel_rfl)) ?_
  intro W base args ds gs before hval0 hW hcnd _
  have hval : ∀ (j : Nat) t v, Try.f6.params[j]? = some t → args[j]? = some v → Value.okWide Try.prog W .any base t v := hval0
  have hW' := hW
  obtain ⟨p, q, hA0, hV, rfl, hfz, hnd⟩ := hW
  have hA : DataW.TrodAll enc Try.prog W 0 (fun _ => true) true Try.f6.params.toList args.toList ds p := hA0
  rw [Try.params6] at hA hval
  obtain ⟨v0, vs0, d0, ds0, p0, q0, hargs, rfl, rfl, h0, r0⟩ := trodAll_cons hA
  obtain ⟨v1, vs1, d1, ds1, p1, q1, rfl, rfl, rfl, h1, r1⟩ := trodAll_cons r0
  obtain ⟨v2, vs2, d2, ds2, p2, q2, rfl, rfl, rfl, h2, r2⟩ := trodAll_cons r1
  obtain ⟨rfl, rfl, rfl⟩ := trodAll_nil r2
  obtain rfl : args = #[v0, v1, v2] := by cases args; simp_all
  obtain ⟨rfl, rfl⟩ := trodVars_none hV
  obtain ⟨a0, rfl, rfl, rfl, w0⟩ := open_int Try.underlying2 (hval 0 2 v0 rfl rfl) h0
  obtain ⟨a1, rfl, rfl, rfl, w1⟩ := open_int Try.underlying2 (hval 1 2 v1 rfl rfl) h1
  obtain ⟨a2, rfl, rfl, rfl, w2⟩ := open_int Try.underlying2 (hval 2 2 v2 rfl rfl) h2
  clear hA0 hval0
  simp only [List.append_nil] at hW'
  refine (walk a0 a1 a2 w0 w1 w2 W).mono fun e W' ⟨he, hg⟩ => ?_
  subst he
  exact ⟨_, rfl, post_of_same (pa := []) (pv := []) hW' (fun _ _ _ => (trodAll_cons_mk (shut_bool Try.underlying4 _) trodAll_mk0)) (fun sp _ => (trodAll_cons_mk (shut_int Try.underlying2 w0) (trodAll_cons_mk (shut_int Try.underlying2 w1) (trodAll_cons_mk (shut_int Try.underlying2 w2) trodAll_mk0)))) (fun _ _ => rfl) rfl
    (hg.frame _) hg.2.1 (ok_one (by kernel_rfl) rfl (okWide_bool_mk Try.underlying4 _))⟩

theorem over : Rows.wordLessRow.holds Try.pinned (OpenSpec.ofChange Rows.wordLessSpec) :=
  OpenClaim.holds_of_wide 6 Try.f6 rfl rfl rfl rfl rfl rfl rfl ⟨rfl, rfl, rfl, rfl, rfl⟩ rfl rfl rfl rfl rfl (by kernel_rfl) Try.func6 (by kernel_rfl)
    (of_decide_eq_true (by kernel_rfl)) (by unfold Func.isWrapper; first | (rw [if_pos (by decide +kernel)]; kernel_rfl) | (rw [if_neg (by decide +kernel)]; exact ⟨rfl, rfl⟩))
    (fun os started H enc _ => lifted os started H enc)

theorem proved : Rows.WordLessSaid :=
  over
end Go.Proofs.Ytafanhhpfnjheab.wordLess

namespace Go.Proofs.Ytafanhhpfnjheab
/-- The statement. -/
theorem wordLess_holds : Rows.WordLessSaid := wordLess.proved
#print axioms wordLess_holds
end Go.Proofs.Ytafanhhpfnjheab
