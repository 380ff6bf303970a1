/-
  Proved: whatever number, tag and size are handed to WordBack, it returns true: the card, tied to the program's text. Condition, by the card: the three listed tables of the library read as their initialisers lay them.
-/
import Derived.Test.YtafanhhpfnjheabDoorDigsW
import Derived.Test.YtafanhhpfnjheabDoorWordsMore
import Derived.Test.YtafanhhpfnjheabDoorParses
import Derived.Test.YtafanhhpfnjheabDoorPlainBack
import Derived.Test.YtafanhhpfnjheabDoorTie
import Derived.Test.YtafanhhpfnjheabDoorCards
import Derived.LaidMore
import Derived.LaidHandle
import Derived.MakeChecks
import Derived.Stop.Joined
import Derived.Stop.LaidErr
import Derived.Lib.LaidTab
namespace Go.Proofs.YtafanhhpfnjheabDoor
open Go.ChangeShapes Go.WideShapes Go.ChangeAt Go.RowKit
set_option linter.unusedVariables false

theorem own : ownKnob Tryd.prog.godebug = none := by kernel_rfl
theorem gPow : Tryd.prog.globalNamed "internal/strconv.uint64pow10" = some 0 := by kernel_rfl
theorem tPow : (Tryd.prog.globals[0]?).map (·.type) = some 52 := by kernel_rfl
theorem dPow : (Rows.laid_internal_strconv_uint64pow10 : DataW Unit) = Lib.tabData .u64 Lib.pow10Tab := by kernel_rfl
/-- The heap that the initialisers leave meets the condition. -/
theorem door_met (os : Os) (args : Array Value) : laidMetH Tryd.prog Rows.wordBackRow.laid ((World.doorLaid Tryd.prog 24 os).forCall (fun _ _ => 0) ⟨#[], args, []⟩).memory :=
  laidMetH_of_parts3 (fuel := 8) (laidMet_of_run' 8 (by kernel_rfl) (by kernel_rfl)) (by kernel_rfl) (by kernel_rfl)
/-- What the condition gives the walk: the table of powers of ten. -/
theorem of_laid {W : World} (h : laidMetH Tryd.prog Rows.wordBackRow.laid W) : Lib.TabIs Tryd.prog W "internal/strconv.uint64pow10" .u64 Lib.pow10Tab := by
  rw [MakeChecks.laidMetH_plain _ _ _ (by kernel_rfl)] at h
  have h2 : laidMet Tryd.prog [("internal/strconv.uint64pow10", Rows.laid_internal_strconv_uint64pow10)] W := h.tail.tail
  rw [dPow] at h2
  exact Lib.tabIs_of_head gPow tPow Tryd.underlying52 Tryd.underlying23 (by kernel_rfl) (by kernel_rfl) h2
theorem digits_text (x : Int) (w : World) (h : 0 ≤ x) (h' : x ≤ 18446744073709551615) (htab : Lib.TabIs Tryd.prog w "internal/strconv.uint64pow10" .u64 Lib.pow10Tab) :
    Calls Tryd.prog 6 #[.int .u64 x] w fun e w' => e = .returned (.string (textOf x)) ∧ Below w.heap.size w w' :=
  digits_any x w h h' htab
set_option maxHeartbeats 2000000 in
theorem walk (a0 a1 a2 : Int) (w0 : (Lit.int .i64 a0).wf = true) (w1 : (Lit.int .u8 a1).wf = true) (w2 : (Lit.int .u32 a2).wf = true) (w : World) (htab : Lib.TabIs Tryd.prog w "internal/strconv.uint64pow10" .u64 Lib.pow10Tab) :
    Calls Tryd.prog 3 #[.int .i64 a0, .int .u8 a1, .int .u32 a2] w fun e w' => e = .returned (.bool true) ∧ Below w.heap.size w w' := by
  obtain ⟨l0, m0⟩ := bounds_i64 w0
  obtain ⟨l1, m1⟩ := bounds_u8 w1
  obtain ⟨l2, m2⟩ := bounds_u32 w2
  have s1 : 0 ≤ a2 / 2 := by omega
  have s2 : a2 / 2 ≤ 2147483647 := by omega
  go_enter Tryd.func3, Tryd.ntmps3
  go_wp2_with (go_at_call 4; refine (int_free _ _).mono ?_; rintro e w' ⟨rfl, rfl⟩)
  refine (digits_text (intW a0) _ (intW_lo _) (intW_hi _) htab).mono ?_
  rintro e w1 ⟨rfl, hb⟩
  clear htab
  go_wp2_with fail
  refine (parse_any (textOf (intW a0)) _ (Nat.le_trans (text_size _ (intW_lo _) (intW_hi _)) (by unfold maxLen; omega))).mono ?_
  have eV : True → parV (textOf (intW a0)) = intW a0 := fun _ => (text_par a0).1
  have eE : True → parE (textOf (intW a0)) = 0 := fun _ => (text_par a0).2
  have f1 : True → isIntW (intW a0) = true := fun _ => isInt_int a0
  have f2 : True → intW (numW (intW a0)) = intW a0 := fun _ => back_num a0
  have f3 : True → tagW (headW a1 (a2 / 2)) = a1 := fun _ => back_tag a1 _ l1 m1 s1 s2
  have f4 : True → sizeW (headW a1 (a2 / 2)) = a2 / 2 := fun _ => back_size a1 _ l1 m1 s1 s2
  have f5 : True → isIntW (headW a1 (a2 / 2)) = true := fun _ => back_headInt a1 _ l1 m1 s1 s2
  have f6 : True → isIntW (ptrW (a2 / 2)) = false := fun _ => back_ptrInt _ s1 s2
  have f7 : True → addrW (ptrW (a2 / 2)) = a2 / 2 := fun _ => back_ptr _ s1 s2
  rintro e w' ⟨rfl, rfl⟩
  go_wp2_with (first | (go_at_call 4; refine (int_free _ _).mono ?_; rintro e w' ⟨rfl, rfl⟩) | (go_at_call 9; refine (isInt_any _ _ (by first | with_reducible exact intW_lo _ | with_reducible exact headW_lo _ _ | with_reducible exact ptrW_lo _) (by first | with_reducible exact intW_hi _ | with_reducible exact headW_hi _ _ | with_reducible exact ptrW_hi _)).mono ?_; rintro e w' ⟨rfl, rfl⟩) | (go_at_call 10; refine (num_any _ _ (by first | with_reducible exact intW_lo _ | with_reducible exact headW_lo _ _ | with_reducible exact ptrW_lo _) (by first | with_reducible exact intW_hi _ | with_reducible exact headW_hi _ _ | with_reducible exact ptrW_hi _)).mono ?_; rintro e w' ⟨rfl, rfl⟩) | (go_at_call 11; refine (tag_any _ _ (by first | with_reducible exact intW_lo _ | with_reducible exact headW_lo _ _ | with_reducible exact ptrW_lo _) (by first | with_reducible exact intW_hi _ | with_reducible exact headW_hi _ _ | with_reducible exact ptrW_hi _)).mono ?_; rintro e w' ⟨rfl, rfl⟩) | (go_at_call 12; refine (size_any _ _ (by first | with_reducible exact intW_lo _ | with_reducible exact headW_lo _ _ | with_reducible exact ptrW_lo _) (by first | with_reducible exact intW_hi _ | with_reducible exact headW_hi _ _ | with_reducible exact ptrW_hi _)).mono ?_; rintro e w' ⟨rfl, rfl⟩) | (go_at_call 13; refine (addr_any _ _ (by first | with_reducible exact intW_lo _ | with_reducible exact headW_lo _ _ | with_reducible exact ptrW_lo _) (by first | with_reducible exact intW_hi _ | with_reducible exact headW_hi _ _ | with_reducible exact ptrW_hi _)).mono ?_; rintro e w' ⟨rfl, rfl⟩) | (go_at_call 7; refine (head_any _ _ _ (by omega) (by omega) (by omega) (by omega)).mono ?_; rintro e w' ⟨rfl, rfl⟩) | (go_at_call 8; refine (ptr_any _ _ (by omega) (by omega)).mono ?_; rintro e w' ⟨rfl, rfl⟩))
  all_goals go_ret
  all_goals exact ⟨rfl, hb⟩

set_option maxRecDepth 100000 in
theorem lifted (os : Os) (started : os.Started) (H : Type) (enc : TypeId × Value → H) :
    ReturnsInHanded {} Tryd.checked os 3 .any (fun w args => (Rows.wordBackSpec.pre enc Tryd.prog Tryd.f3 [] false w args ∧ laidMetH Tryd.prog Rows.wordBackRow.laid w) ∧ sizedMet enc Tryd.prog Tryd.f3 (OpenSpec.ofChange Rows.wordBackSpec) false w args)
      (Rows.wordBackSpec.post enc Tryd.prog Tryd.f3 false true false false) := by
  refine returnsInHanded_of_change_and (C := Tryd.checked) (X := fun w _ => laidMetH Tryd.prog Rows.wordBackRow.laid w) (fun _ _ _ hh h => h.of_heap hh) own started (by kernel_rfl) Tryd.func3
    (ChangeSpec.witness_shaped (enc := enc) (C := Tryd.checked) (os := os) (X := fun w _ => laidMetH Tryd.prog Rows.wordBackRow.laid w) false (World.doorLaid Tryd.prog 24 os) #[.int .i64 0, .int .u8 0, .int .u32 0] 8 rfl (World.shaped_of_RefB (by kernel_rfl) (by kernel_rfl)) (by kernel_rfl) (by kernel_rfl) (by kernel_rfl) (door_met os _)) ?_
  intro W base args ds gs before hval0 hW _ _ hL _
  have hval : ∀ (j : Nat) t v, Tryd.f3.params[j]? = some t → args[j]? = some v → Value.okWide Tryd.prog W .any base t v := hval0
  have hW' := hW
  obtain ⟨p, q, hA0, hV, rfl, hfz, hnd⟩ := hW
  have hA : DataW.TrodAll enc Tryd.prog W 0 (fun _ => true) true Tryd.f3.params.toList args.toList ds p := hA0
  rw [Tryd.params3] at hA hval
  obtain ⟨v0, v1, v2, d0, d1, d2, p0, p1, p2, rfl, rfl, rfl, h0, h1, h2⟩ := trodAll_three hA
  obtain ⟨rfl, rfl⟩ := trodVars_none hV
  obtain ⟨a0, rfl, rfl, rfl, w0⟩ := open_int Tryd.underlying2 (hval 0 2 v0 rfl rfl) h0
  obtain ⟨a1, rfl, rfl, rfl, w1⟩ := open_int Tryd.underlying5 (hval 1 5 v1 rfl rfl) h1
  obtain ⟨a2, rfl, rfl, rfl, w2⟩ := open_int Tryd.underlying22 (hval 2 22 v2 rfl rfl) h2
  have htab := of_laid hL
  clear hA0 hval0
  simp only [List.append_nil] at hW'
  refine (walk a0 a1 a2 w0 w1 w2 W htab).mono fun e W' ⟨he, bel⟩ => ?_
  subst he
  exact ⟨_, rfl, _, _, _, [], [], [], hW', trodAll_mk1 (shut_bool Tryd.underlying4 _), trodAll_mk3 (shut_int Tryd.underlying2 w0) (shut_int Tryd.underlying5 w1) (shut_int Tryd.underlying22 w2), rfl, bel.frame _, fun h => by cases h⟩

theorem row_holds : Rows.WordBackSaid :=
  OpenClaim.holds_of_wide 3 Tryd.f3 rfl rfl rfl rfl rfl rfl rfl ⟨rfl, rfl, rfl, rfl, rfl⟩ rfl rfl rfl rfl rfl (by kernel_rfl) Tryd.func3 (by kernel_rfl)
    (of_decide_eq_true (by kernel_rfl)) (by unfold Func.isWrapper; first | (rw [if_pos (by decide +kernel)]; kernel_rfl) | (rw [if_neg (by decide +kernel)]; exact ⟨rfl, rfl⟩))
    (fun os started H enc _ => lifted os started H enc)

/-- The statement: the tied card. -/
theorem wordBack_holds : Rows.WordBackCardSaid :=
  Claim7.holds_tied_plain_at .later [] [.data, .data, .data] true (true, "c3b28f8c354e7e40f95eea2150b2cc954e1e01cf6a567d6485f84270c27019b3") false
    row_holds (fun _ h => by cases h) (by kernel_rfl) (fun _ h => by cases h) wordBack_row_tie rfl ⟨rfl, rfl⟩ (by kernel_rfl) rfl
    (fun f fn hf hfn => by
      obtain rfl : f = 3 := Option.some.inj ((show Tryd.prog.funcNamed "grapnel/grapnellaw01.WordBack" = some 3 by kernel_rfl).symm.trans hf) |>.symm
      obtain rfl : fn = Tryd.f3 := (Option.some.inj (Tryd.func3.symm.trans hfn)).symm
      exact ⟨by kernel_rfl, fun j t ht => by
        rw [Tryd.params3] at ht
        have hm : t ∈ [2, 5, 22] := by simpa using Array.mem_of_getElem? ht
        have hall : ([2, 5, 22].all fun u => !Tryd.prog.wantsStandIn u) = true := by kernel_rfl
        exact (show Tryd.prog.wantsStandIn t = false by simpa using List.all_eq_true.1 hall t hm)⟩)
    (by kernel_rfl)
#print axioms wordBack_holds
end Go.Proofs.YtafanhhpfnjheabDoor
