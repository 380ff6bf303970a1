/-
  Proved: whatever two numbers are handed to WordBits, it returns true. No condition.
-/
import Derived.Test.YtafanhhpfnjheabRows
import Derived.WalkKit
import Derived.ProofKit
import Derived.OpenShut
import Derived.Test.YtafanhhpfnjheabDos
import Derived.Test.YtafanhhpfnjheabPlainRing
import Derived.ShutString
namespace Go.Proofs.Ytafanhhpfnjheab.wordBits
open Go.ChangeShapes Go.WideShapes Go.ChangeAt Go.RowKit
open Go.ChangeMaps (open_string shut_string)
set_option linter.unusedVariables false      -- a walk need not use every 'w<i>' (that an integer argument fits its kind)

theorem own : ownKnob Try.prog.godebug = none := by kernel_rfl

set_option maxHeartbeats 2000000 in
theorem walk (a0 : Int) (a1 : Int) (w0 : (Lit.int .i64 a0).wf = true) (w1 : (Lit.int .i64 a1).wf = true) (w : World) :
    Calls Try.prog 5 #[.int .i64 a0, .int .i64 a1] w fun e w' => e = .returned (.bool true) ∧ Grown w w' := by
  obtain ⟨l0, m0⟩ := bounds_i64 w0
  obtain ⟨l1, m1⟩ := bounds_i64 w1
  have x1 := intW_lo a0
  have x2 := intW_hi a0
  have y1 := intW_lo a1
  have y2 := intW_hi a1
  have g6 : ∀ b, doE 6 b = 0 := fun b => doE_ok 6 b (by omega) (by omega) (by omega) (by omega)
  have g7 : ∀ b, doE 7 b = 0 := fun b => doE_ok 7 b (by omega) (by omega) (by omega) (by omega)
  have g8 : ∀ b, doE 8 b = 0 := fun b => doE_ok 8 b (by omega) (by omega) (by omega) (by omega)
  have g1 : ∀ b, doE 1 b = 0 := fun b => doE_ok 1 b (by omega) (by omega) (by omega) (by omega)
  have p6 := doV_lo 6 (intW a0) (intW a1)
  have q6 := doV_hi 6 (intW a0) (intW a1)
  have p7 := doV_lo 7 (intW a0) (intW a1)
  have q7 := doV_hi 7 (intW a0) (intW a1)
  have p8 := doV_lo 8 (intW a0) (intW a1)
  have q8 := doV_hi 8 (intW a0) (intW a1)
  have e1 := bits_sum a0 a1
  have e2 := bits_all a0 a1
  have e3 := bits_int a0 a1
  go_enter Try.func5, Try.ntmps5
  go_wp2_with (first | (go_at_call 8; refine (int_free _ _).mono ?_; rintro e w' ⟨rfl, rfl⟩) | (go_at_call 12; refine (isInt_any _ _ (by omega) (by omega)).mono ?_; rintro e w' ⟨rfl, rfl⟩) | (go_at_call 10; refine (do_any _ _ _ _ (by omega) (by omega) (by omega) (by omega) (by omega) (by omega)).mono ?_; rintro e w' ⟨rfl, rfl⟩))
  all_goals go_ret
  all_goals exact ⟨rfl, by repeat (first | exact Grown.refl _ | apply Grown.drew | apply Grown.alloc)⟩

set_option maxRecDepth 100000 in
theorem lifted (os : Os) (started : os.Started) (H : Type) (enc : TypeId × Value → H) :
    ReturnsInHanded {} Try.checked os 5 .any (Rows.wordBitsSpec.pre6 enc Try.prog Try.f5 Rows.wordBitsRow.domain false) (Rows.wordBitsSpec.post enc Try.prog Try.f5 false true false false) := by
  refine returnsInHanded_of_change (C := Try.checked) own started (by kernel_rfl) Try.func5
    (ChangeSpec.witness6 (enc := enc) (C := Try.checked) false ⟨#[], #[.int .i64 0, .int .i64 0], []⟩ 8 (by kernel_rfl) (by kernel_rfl) (by kernel_rfl) (by kernel_rfl)) ?_
  intro W base args ds gs before hval0 hW hcnd _
  have hval : ∀ (j : Nat) t v, Try.f5.params[j]? = some t → args[j]? = some v → Value.okWide Try.prog W .any base t v := hval0
  have hW' := hW
  obtain ⟨p, q, hA0, hV, rfl, hfz, hnd⟩ := hW
  have hA : DataW.TrodAll enc Try.prog W 0 (fun _ => true) true Try.f5.params.toList args.toList ds p := hA0
  rw [Try.params5] at hA hval
  obtain ⟨v0, vs0, d0, ds0, p0, q0, hargs, rfl, rfl, h0, r0⟩ := trodAll_cons hA
  obtain ⟨v1, vs1, d1, ds1, p1, q1, rfl, rfl, rfl, h1, r1⟩ := trodAll_cons r0
  obtain ⟨rfl, rfl, rfl⟩ := trodAll_nil r1
  obtain rfl : args = #[v0, v1] := by cases args; simp_all
  obtain ⟨rfl, rfl⟩ := trodVars_none hV
  obtain ⟨a0, rfl, rfl, rfl, w0⟩ := open_int Try.underlying2 (hval 0 2 v0 rfl rfl) h0
  obtain ⟨a1, rfl, rfl, rfl, w1⟩ := open_int Try.underlying2 (hval 1 2 v1 rfl rfl) h1
  clear hA0 hval0
  simp only [List.append_nil] at hW'
  refine (walk a0 a1 w0 w1 W).mono fun e W' ⟨he, hg⟩ => ?_
  subst he
  exact ⟨_, rfl, post_of_same (pa := []) (pv := []) hW' (fun _ _ _ => (trodAll_cons_mk (shut_bool Try.underlying4 _) trodAll_mk0)) (fun sp _ => (trodAll_cons_mk (shut_int Try.underlying2 w0) (trodAll_cons_mk (shut_int Try.underlying2 w1) trodAll_mk0))) (fun _ _ => rfl) rfl
    (hg.frame _) hg.2.1 (ok_one (by kernel_rfl) rfl (okWide_bool_mk Try.underlying4 _))⟩

theorem over : Rows.wordBitsRow.holds Try.pinned (OpenSpec.ofChange Rows.wordBitsSpec) :=
  OpenClaim.holds_of_wide 5 Try.f5 rfl rfl rfl rfl rfl rfl rfl ⟨rfl, rfl, rfl, rfl, rfl⟩ rfl rfl rfl rfl rfl (by kernel_rfl) Try.func5 (by kernel_rfl)
    (of_decide_eq_true (by kernel_rfl)) (by unfold Func.isWrapper; first | (rw [if_pos (by decide +kernel)]; kernel_rfl) | (rw [if_neg (by decide +kernel)]; exact ⟨rfl, rfl⟩))
    (fun os started H enc _ => lifted os started H enc)

theorem proved : Rows.WordBitsSaid :=
  over
end Go.Proofs.Ytafanhhpfnjheab.wordBits

namespace Go.Proofs.Ytafanhhpfnjheab
/-- The statement. -/
theorem wordBits_holds : Rows.WordBitsSaid := wordBits.proved
#print axioms wordBits_holds
end Go.Proofs.Ytafanhhpfnjheab
