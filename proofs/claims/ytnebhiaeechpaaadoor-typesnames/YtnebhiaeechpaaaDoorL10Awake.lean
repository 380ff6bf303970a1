/-
 Layer 10, the statements' helpers: awake tells true. No condition.
-/
import Derived.Test.YtnebhiaeechpaaaDoorL10Base
import Derived.Test.YtnebhiaeechpaaaDoorP10Txt
namespace Go.Proofs.YtnebhiaeechpaaaDoor
open Go.ChangeShapes Go.WideShapes Go.ChangeAt Go.RowKit Go.Deep
set_option linter.unusedVariables false
set_option linter.unusedSimpArgs false
set_option maxHeartbeats 8000000
set_option maxRecDepth 20000
def sArr : List UInt8 := [45, 62]
def sInt : List UInt8 := [105, 110, 116]
def sList : List UInt8 := [108, 105, 115, 116]
def tV (n : Int) : Rw := .mk n [] []
def tA : Rw := .mk 0 sArr [tV 1, tV 2]
def tB : Rw := .mk 0 sArr [.mk 0 sInt [], tV 1]
def tL : Rw := .mk 0 sList [tV 1]
def rho1 : Nat → Ty := nameV (nameV Ty.v 1 (.c sInt [])) 2 (.c sInt [])
theorem tA_ty : tA.ty = .c sArr [.v 1, .v 2] := by simp [tA, tV, Rw.ty, tyL]
theorem tB_ty : tB.ty = .c sArr [.c sInt [], .v 1] := by simp [tB, tV, Rw.ty, tyL]
theorem tL_ty : tL.ty = .c sList [.v 1] := by simp [tL, tV, Rw.ty, tyL]
theorem t1_ty : (tV 1).ty = .v 1 := by simp [tV, Rw.ty]
theorem t2_ty : (tV 2).ty = .v 2 := by simp [tV, Rw.ty]
theorem tA_may : tA.may = true := by decide
theorem tB_may : tB.may = true := by decide
theorem tL_may : tL.may = true := by decide
theorem t1_may : (tV 1).may = true := by decide
theorem t2_may : (tV 2).may = true := by decide
theorem un_awake : Un Ty.v [(tA.ty, tB.ty)] (.ok rho1) := by
 rw [tA_ty, tB_ty]
 refine .parts (s := sArr) (l := [.v 1, .v 2]) (l' := [.c sInt [], .v 1]) (by simp [Ty.ap, apL]) (by simp [Ty.ap, apL]) rfl ?_
 refine .nameL (n := 1) (by simp [Ty.ap]) (by simp [Ty.ap, apL, Ty.occ, occL]) ?_
 have e : (Ty.c sInt []).ap Ty.v = .c sInt [] := by simp [Ty.ap, apL]
 rw [e]
 refine .nameL (n := 2) (by simp [Ty.ap, nameV, oneT]) (by simp [Ty.ap, nameV, oneT, Ty.occ, occL, apL]) ?_
 have e2 : (Ty.v 1).ap (nameV Ty.v 1 (.c sInt [])) = .c sInt [] := by simp [Ty.ap, nameV, oneT]
 rw [e2]
 exact .done
theorem un_awake2 : Un Ty.v [((tV 1).ty, tL.ty)] (.error 1) := by
 rw [t1_ty, tL_ty]
 exact .occL (n := 1) (s := sList) (l := [.v 1]) (by simp [Ty.ap]) (by simp [Ty.ap, apL]) (by simp [occL, Ty.occ])
theorem rho1_two : (Ty.v 2).ap rho1 = .c sInt [] := by simp [rho1, Ty.ap, nameV, oneT]
theorem bd_c {x : Rw} (h1 : 0 ≤ x.V) (h2 : x.V ≤ 100) (h3 : x.S.length ≤ 100) : Bd x := ⟨by omega, by omega, by unfold maxLen; omega⟩
theorem hi_awake {hi : Int} (h : HiF ([] ++ viL [tA, tB]) hi) : frI hi = 3 := by
 have e : ([] ++ viL [tA, tB] : List Int) = [1, 2, 1] := by simp [tA, tB, tV, viL, Rw.vi]
 rw [e] at h
 have h1 := h.top 2 (by simp)
 have h2 : hi = 2 := by
  rcases h.one with h | h
  ·omega
  ·simp at h; omega
 rw [h2]
 rfl
theorem rt_mk2 {P : Nat → Prop} {w : World} (hP : P w.heap.size) {x y : Rw} {ao bo : Option Addr} {c d : Nat} (hx : RT P w x.L ao) (hy : RT P w y.L bo) (bx : Bd x) (by' : Bd y) : RT P (w.alloc (.cells #[.int .i64 x.V, .string ⟨x.S.toArray⟩, .slice ao x.L.length c, .int .i64 y.V, .string ⟨y.S.toArray⟩, .slice bo y.L.length d] 24)) [x, y] (some ⟨w.heap.size, 0, none⟩) := rt_two (blk_alloc_new _ _) hP (hx.alloc _) (hy.alloc _) bx by'
theorem rt_mk1 {P : Nat → Prop} {w : World} (hP : P w.heap.size) {x : Rw} {ao : Option Addr} {c : Nat} (hx : RT P w x.L ao) (bx : Bd x) : RT P (w.alloc (.cells #[.int .i64 x.V, .string ⟨x.S.toArray⟩, .slice ao x.L.length c] 24)) [x] (some ⟨w.heap.size, 0, none⟩) := rt_one (blk_alloc_new _ _) hP (hx.alloc _) bx
theorem sz_awake : (tA.ty.ap Ty.v).sz = 3 ∧ (tB.ty.ap Ty.v).sz = 3 ∧ ((tV 1).ty.ap Ty.v).sz = 1 ∧ (tL.ty.ap Ty.v).sz = 2 := by
 rw [tA_ty, tB_ty, t1_ty, tL_ty]
 simp [Ty.ap, apL, Ty.sz, szL]
theorem szs_awake : tA.sz = 3 ∧ tB.sz = 3 ∧ (tV 1).sz = 1 ∧ tL.sz = 2 ∧ (tV 2).sz = 1 ∧ szRL [tA, tB] = 6 := by
 simp [tA, tB, tL, tV, Rw.sz, szRL]
theorem bds_awake : Bd tA ∧ Bd tB ∧ Bd (tV 1) ∧ Bd tL ∧ Bd (tV 2) := by
 refine ⟨?_, ?_, ?_, ?_, ?_⟩ <;> (refine bd_c ?_ ?_ ?_ <;> simp [tA, tB, tL, tV, Rw.V, Rw.S, sArr, sList])
theorem awake_any (w : World) : Calls Tryd.prog 8 #[] w fun e w' => e = .returned (.bool true) ∧ Below w.heap.size w w' := by
 have HN := hidden (api_new w (A := fun g => g < w.heap.size) (fun g hg => hg))
 go_enter Tryd.func8, Tryd.ntmps8
 go_wp2_with fail
 refine HN.out.mono ?_
 rintro e w1 ⟨rfl, g1, g2⟩
 have T_1 := hidden g1
 have D_1 := hidden g2
 have HLT := hidden g1.lt
 have HOW := hidden g1.own
 clear g1 g2 HN
 go_wp2_with fail
 refine (v_any w1 1).mono ?_
 rintro e w2 ⟨rfl, hb⟩
 have D_2 := hidden (D_1.out.trans (hb.mono D_1.out.size))
 have hs2 := hb.size
 have T_2 := hidden (T_1.out.below hb)
 clear T_1
 clear hb
 go_wp2_with fail
 refine (v_any w2 2).mono ?_
 rintro e w3 ⟨rfl, hb⟩
 have D_3 := hidden (D_2.out.trans (hb.mono D_2.out.size))
 have hs3 := hb.size
 have T_3 := hidden (T_2.out.below hb)
 clear T_2
 clear hb
 have D_4 := hidden (D_3.out.alloc D_3.out.size (.cells #[.int .i64 1, .string ⟨#[]⟩, .slice none 0 0, .int .i64 2, .string ⟨#[]⟩, .slice none 0 0] 24))
 have hs4 := Nat.le_of_lt (show w3.heap.size < (w3.alloc (.cells #[.int .i64 1, .string ⟨#[]⟩, .slice none 0 0, .int .i64 2, .string ⟨#[]⟩, .slice none 0 0] 24)).heap.size by rw [nblk_alloc]; omega)
 have T_4 := hidden (T_3.out.alloc (.cells #[.int .i64 1, .string ⟨#[]⟩, .slice none 0 0, .int .i64 2, .string ⟨#[]⟩, .slice none 0 0] 24))
 clear T_3
 have RA_4 : Hid (RT (fun g => w1.heap.size ≤ g) (w3.alloc (.cells #[.int .i64 1, .string ⟨#[]⟩, .slice none 0 0, .int .i64 2, .string ⟨#[]⟩, .slice none 0 0] 24)) [tV 1, tV 2] (some ⟨w3.heap.size, 0, none⟩)) := rt_mk2 (P := fun g => w1.heap.size ≤ g) (w := w3) (x := tV 1) (y := tV 2) (ao := none) (bo := none) (c := 0) (d := 0) (by omega) rt_nil rt_nil bds_awake.2.2.1 bds_awake.2.2.2.2
 go_wp2_with fail
 generalize w3.alloc (.cells #[.int .i64 1, .string ⟨#[]⟩, .slice none 0 0, .int .i64 2, .string ⟨#[]⟩, .slice none 0 0] 24) = w4 at *
 refine (named_any w4 ⟨#[45, 62]⟩ _ 2 2).mono ?_
 rintro e w5 ⟨rfl, hb⟩
 have D_5 := hidden (D_4.out.trans (hb.mono D_4.out.size))
 have hs5 := hb.size
 have T_5 := hidden (T_4.out.below hb)
 clear T_4
 have RA_5 := hidden (RA_4.out.beneath hb (Nat.le_refl _))
 clear RA_4
 clear hb
 go_wp2_with fail
 refine (named_any w5 ⟨#[105, 110, 116]⟩ none 0 0).mono ?_
 rintro e w6 ⟨rfl, hb⟩
 have D_6 := hidden (D_5.out.trans (hb.mono D_5.out.size))
 have hs6 := hb.size
 have T_6 := hidden (T_5.out.below hb)
 clear T_5
 have RA_6 := hidden (RA_5.out.beneath hb (Nat.le_refl _))
 clear RA_5
 clear hb
 go_wp2_with fail
 refine (v_any w6 1).mono ?_
 rintro e w7 ⟨rfl, hb⟩
 have D_7 := hidden (D_6.out.trans (hb.mono D_6.out.size))
 have hs7 := hb.size
 have T_7 := hidden (T_6.out.below hb)
 clear T_6
 have RA_7 := hidden (RA_6.out.beneath hb (Nat.le_refl _))
 clear RA_6
 clear hb
 have D_8 := hidden (D_7.out.alloc D_7.out.size (.cells #[.int .i64 0, .string ⟨#[105, 110, 116]⟩, .slice none 0 0, .int .i64 1, .string ⟨#[]⟩, .slice none 0 0] 24))
 have hs8 := Nat.le_of_lt (show w7.heap.size < (w7.alloc (.cells #[.int .i64 0, .string ⟨#[105, 110, 116]⟩, .slice none 0 0, .int .i64 1, .string ⟨#[]⟩, .slice none 0 0] 24)).heap.size by rw [nblk_alloc]; omega)
 have T_8 := hidden (T_7.out.alloc (.cells #[.int .i64 0, .string ⟨#[105, 110, 116]⟩, .slice none 0 0, .int .i64 1, .string ⟨#[]⟩, .slice none 0 0] 24))
 clear T_7
 have RA_8 := hidden (RA_7.out.alloc (.cells #[.int .i64 0, .string ⟨#[105, 110, 116]⟩, .slice none 0 0, .int .i64 1, .string ⟨#[]⟩, .slice none 0 0] 24))
 clear RA_7
 have RB_8 : Hid (RT (fun g => w1.heap.size ≤ g) (w7.alloc (.cells #[.int .i64 0, .string ⟨#[105, 110, 116]⟩, .slice none 0 0, .int .i64 1, .string ⟨#[]⟩, .slice none 0 0] 24)) [.mk 0 sInt [], tV 1] (some ⟨w7.heap.size, 0, none⟩)) := rt_mk2 (P := fun g => w1.heap.size ≤ g) (w := w7) (x := .mk 0 sInt []) (y := tV 1) (ao := none) (bo := none) (c := 0) (d := 0) (by omega) rt_nil rt_nil (bd_c (by decide) (by decide) (by decide)) bds_awake.2.2.1
 go_wp2_with fail
 generalize w7.alloc (.cells #[.int .i64 0, .string ⟨#[105, 110, 116]⟩, .slice none 0 0, .int .i64 1, .string ⟨#[]⟩, .slice none 0 0] 24) = w8 at *
 refine (named_any w8 ⟨#[45, 62]⟩ _ 2 2).mono ?_
 rintro e w9 ⟨rfl, hb⟩
 have D_9 := hidden (D_8.out.trans (hb.mono D_8.out.size))
 have hs9 := hb.size
 have T_9 := hidden (T_8.out.below hb)
 clear T_8
 have RA_9 := hidden (RA_8.out.beneath hb (Nat.le_refl _))
 clear RA_8
 have RB_9 := hidden (RB_8.out.beneath hb (Nat.le_refl _))
 clear RB_8
 clear hb
 obtain ⟨q1, q2, q3, q4⟩ := sz_awake
 obtain ⟨z1, z2, z3, z4, z5, z6⟩ := szs_awake
 have HU := hidden (api_unify (A := fun g => g < w.heap.size) (fun g hg => Nat.lt_of_lt_of_le hg D_9.out.size) T_9.out (x := tA) (y := tB) 2 2 tA_may tB_may (by omega) bds_awake.1 bds_awake.2.1 (RA_9.out.mono (fun g hg _ c => by have h9 := HLT.out g c; omega)) (RB_9.out.mono (fun g hg _ c => by have h9 := HLT.out g c; omega)) (by show 0 + _ ≤ _; omega))
 go_wp2_with fail
 refine HU.out.mono ?_
 rintro e w10 (⟨_, h9, _⟩ | ⟨_, _, g1, h9⟩)
 ·exfalso
  rw [q1, q2] at h9
  omega
 obtain ⟨rfl, T_10⟩ : e = .returned (.int .i64 0) ∧ Hid (TB (fun g => g < w.heap.size) w10 (w.heap.size + 2) w.heap.size (w.heap.size + 1) ([] ++ viL [tA, tB]) rho1) := by
  rcases h9 with ⟨c, h8, _⟩ | ⟨ρ', h8, h7, h6⟩
  ·have h5 := un_one un_awake h8
   cases h5
  ·have h5 := un_one un_awake h8
   cases h5
   exact ⟨h7, h6⟩
 have D_10 : Hid (Below w.heap.size w w10) := ((Only.of_below D_9.out).trans g1).toBelow (fun g hg => by rcases hg with h9 | h9 | h9 <;> omega)
 have hs10 := g1.size
 clear g1 h9 HU RA_9 RB_9
 have HF := hidden (api_fresh T_10.out (fun v hv => by simp [tA, tB, tV, viL, Rw.vi] at hv; omega))
 go_wp2_with fail
 refine HF.out.mono ?_
 rintro e w11 ⟨hi, k1, rfl, k2, k3⟩
 have hfr := hi_awake k1
 rw [hfr]
 have hi2 : hi < 9223372036854775807 := by unfold frI at hfr; split at hfr <;> omega
 have T_11 := hidden (k3 hi2)
 have D_11 : Hid (Below w.heap.size w w11) := ((Only.of_below D_10.out).trans k2).toBelow (fun g hg => by rcases hg with h9 | h9 | h9 <;> omega)
 have hs11 := k2.size
 clear k1 k2 k3 hfr HF
 go_upto_region 6 with fail
 have D_12 := hidden (D_11.out.alloc D_11.out.size (.cells #[.int .i64 3, .string ⟨#[]⟩, .slice none 0 0] 24))
 have hs12 := Nat.le_of_lt (show w11.heap.size < (w11.alloc (.cells #[.int .i64 3, .string ⟨#[]⟩, .slice none 0 0] 24)).heap.size by rw [nblk_alloc]; omega)
 have FB_12 := hidden (B3.new w11 3 ⟨#[]⟩ (.slice none 0 0))
 have T_12 := hidden (T_11.out.alloc (.cells #[.int .i64 3, .string ⟨#[]⟩, .slice none 0 0] 24))
 clear T_11
 generalize w11.alloc (.cells #[.int .i64 3, .string ⟨#[]⟩, .slice none 0 0] 24) = w12 at *
 have TG_12 := hidden (T_12.out.aug (A' := fun g => g < w.heap.size ∨ w12.heap.size ≤ g) (fun g hg => hg))
 clear T_12
 have hDG := D_12.out.size
 have hFG := FB_12.out.lt
 have HN2 := hidden (api_new w12 (A := fun g => g < w12.heap.size) (fun g hg => hg))
 go_wp2_with fail
 refine HN2.out.mono ?_
 rintro e w13 ⟨rfl, g1, hb⟩
 have U_13 := hidden g1
 have HLU := hidden g1.lt
 have HOU := hidden g1.own
 have D_13 := hidden (D_12.out.trans (hb.mono D_12.out.size))
 have TG_13 := hidden (TG_12.out.below hb)
 have FB_13 := hidden (FB_12.out.below hb (Nat.le_refl _))
 have hs13 := hb.size
 clear g1 hb HN2 TG_12 FB_12
 go_wp2_with fail
 refine (v_any w13 1).mono ?_
 rintro e w14 ⟨rfl, hb⟩
 have D_14 := hidden (D_13.out.trans (hb.mono D_13.out.size))
 have hs14 := hb.size
 have TG_14 := hidden (TG_13.out.below hb)
 clear TG_13
 have U_14 := hidden (U_13.out.below hb)
 clear U_13
 have FB_14 := hidden (FB_13.out.below hb (Nat.le_refl _))
 clear FB_13
 clear hb
 go_wp2_with fail
 refine (v_any w14 1).mono ?_
 rintro e w15 ⟨rfl, hb⟩
 have D_15 := hidden (D_14.out.trans (hb.mono D_14.out.size))
 have hs15 := hb.size
 have TG_15 := hidden (TG_14.out.below hb)
 clear TG_14
 have U_15 := hidden (U_14.out.below hb)
 clear U_14
 have FB_15 := hidden (FB_14.out.below hb (Nat.le_refl _))
 clear FB_14
 clear hb
 have D_16 := hidden (D_15.out.alloc D_15.out.size (.cells #[.int .i64 1, .string ⟨#[]⟩, .slice none 0 0] 24))
 have hs16 := Nat.le_of_lt (show w15.heap.size < (w15.alloc (.cells #[.int .i64 1, .string ⟨#[]⟩, .slice none 0 0] 24)).heap.size by rw [nblk_alloc]; omega)
 have TG_16 := hidden (TG_15.out.alloc (.cells #[.int .i64 1, .string ⟨#[]⟩, .slice none 0 0] 24))
 clear TG_15
 have U_16 := hidden (U_15.out.alloc (.cells #[.int .i64 1, .string ⟨#[]⟩, .slice none 0 0] 24))
 clear U_15
 have FB_16 := hidden (FB_15.out.alloc (.cells #[.int .i64 1, .string ⟨#[]⟩, .slice none 0 0] 24))
 clear FB_15
 have RL_16 : Hid (RT (fun g => w13.heap.size ≤ g) (w15.alloc (.cells #[.int .i64 1, .string ⟨#[]⟩, .slice none 0 0] 24)) [tV 1] (some ⟨w15.heap.size, 0, none⟩)) := rt_mk1 (w := w15) (x := tV 1) (ao := none) (c := 0) (by omega) rt_nil bds_awake.2.2.1
 go_wp2_with fail
 generalize w15.alloc (.cells #[.int .i64 1, .string ⟨#[]⟩, .slice none 0 0] 24) = w16 at *
 refine (named_any w16 ⟨#[108, 105, 115, 116]⟩ _ 1 1).mono ?_
 rintro e w17 ⟨rfl, hb⟩
 have D_17 := hidden (D_16.out.trans (hb.mono D_16.out.size))
 have hs17 := hb.size
 have TG_17 := hidden (TG_16.out.below hb)
 clear TG_16
 have U_17 := hidden (U_16.out.below hb)
 clear U_16
 have FB_17 := hidden (FB_16.out.below hb (Nat.le_refl _))
 clear FB_16
 have RL_17 := hidden (RL_16.out.beneath hb (Nat.le_refl _))
 clear RL_16
 clear hb
 have HU := hidden (api_unify (A := fun g => g < w12.heap.size) (fun g hg => by omega) U_17.out (x := tV 1) (y := tL) (ao := none) 0 1 t1_may tL_may (by omega) bds_awake.2.2.1 bds_awake.2.2.2.1 rt_nil (RL_17.out.mono (fun g hg _ c => by have h9 := HLU.out g c; omega)) (by show 0 + _ ≤ _; omega))
 go_wp2_with fail
 refine HU.out.mono ?_
 rintro e w18 (⟨_, h9, _⟩ | ⟨_, _, g1, h9⟩)
 ·exfalso
  rw [q3, q4] at h9
  omega
 obtain rfl : e = .returned (.int .i64 26) := by
  rcases h9 with ⟨c, h8, h7⟩ | ⟨ρ', h8, h7, h6⟩
  ·have h5 := un_one un_awake2 h8
   cases h5
   exact h7
  ·have h5 := un_one un_awake2 h8
   cases h5
 have hou : ∀ g, Own3 (w12.heap.size + 2) w12.heap.size (w12.heap.size + 1) g → w12.heap.size ≤ g := fun g hg => by rcases hg with h9 | h9 | h9 <;> omega
 have D_18 : Hid (Below w.heap.size w w18) := ((Only.of_below D_17.out).trans (g1.mono (S' := fun g => w.heap.size ≤ g) (fun g _ hg => by have h8 := hou g hg; omega))).toBelow (fun g hg => hg)
 have TG_18 := hidden (TG_17.out.only g1 (fun g hg => Or.inr (hou g hg)))
 have FB_18 : Hid (B3 w18 w11.heap.size 3 ⟨#[]⟩ (.slice none 0 0)) := FB_17.out.keep (g1.block _ FB_17.out.lt (fun e => by have h8 := hou _ e; omega))
 have hs18 := g1.size
 clear g1 h9 HU hou TG_17 FB_17 U_17 RL_17
 go_wp2_with fail
 refine (v_any w18 2).mono ?_
 rintro e w19 ⟨rfl, hb⟩
 have D_19 := hidden (D_18.out.trans (hb.mono D_18.out.size))
 have hs19 := hb.size
 have TG_19 := hidden (TG_18.out.below hb)
 clear TG_18
 have FB_19 := hidden (FB_18.out.below hb (Nat.le_refl _))
 clear FB_18
 clear hb
 have er : ((tV 2).ty.ap rho1).rw = .mk 0 sInt [] := by rw [t2_ty, rho1_two]; rfl
 have HR0 := api_resolve TG_19.out (x := tV 2) (ao := none) 0 t2_may (by omega) bds_awake.2.2.2.2 rt_nil (by rw [List.length_append]; simp [tA, tB, tV, viL, Rw.vi, Rw.sz, szRL])
 rw [er] at HR0
 have HR := hidden HR0
 clear HR0 er
 go_wp2_with fail
 refine HR.out.mono ?_
 rintro e w20 ⟨al, cp, he, g1, g2, g3, g4⟩
 obtain rfl : e = .returned (.agg #[.int .i64 0, .string ⟨#[105, 110, 116]⟩, .slice al 0 cp]) := he
 have D_20 : Hid (Below w.heap.size w w20) := ((Only.of_below D_19.out).trans (g3.mono (S' := fun g => w.heap.size ≤ g) (fun g _ hg => by rcases hg with h9 | h9 | h9 <;> omega))).toBelow (fun g hg => hg)
 have FB_20 : Hid (B3 w20 w11.heap.size 3 ⟨#[]⟩ (.slice none 0 0)) := FB_19.out.keep (g3.block _ FB_19.out.lt (fun e => by have h8 := HLT.out _ e; omega))
 have hs20 := g3.size
 clear g1 g2 g3 g4 HR TG_19 FB_19
 go_wp2_with fail
 refine (named_any w20 ⟨#[105, 110, 116]⟩ none 0 0).mono ?_
 rintro e w21 ⟨rfl, hb⟩
 have D_21 := hidden (D_20.out.trans (hb.mono D_20.out.size))
 have hs21 := hb.size
 have FB_21 := hidden (FB_20.out.below hb (Nat.le_refl _))
 clear FB_20
 clear hb
 have HSM : Hid (Calls Tryd.prog 14 #[.agg #[.int .i64 0, .string ⟨#[105, 110, 116]⟩, .slice al 0 cp], .agg #[.int .i64 0, .string ⟨#[105, 110, 116]⟩, .slice none 0 0]] w21 fun e w' => SameAs (.mk 0 sInt []) (.mk 0 sInt []) w21 e w') := rsame10 (P := fun _ => True) (P' := fun _ => True) 1 (.mk 0 sInt []) (.mk 0 sInt []) (by simp [Rw.sz, szRL]) (by omega) w21 al none cp 0 rt_nil rt_nil
 go_wp2_with fail
 refine HSM.out.mono ?_
 rintro e w22 ⟨b, rfl, hb1, hb⟩
 obtain rfl : b = true := hb1.2 rfl
 have D_22 := hidden (D_21.out.trans (hb.mono D_21.out.size))
 have hs22 := hb.size
 have FB_22 := hidden (FB_21.out.below hb (Nat.le_refl _))
 clear hb hb1 HSM FB_21
 obtain ⟨a0, a1, a2, af⟩ := FB_22.out.cells
 go_wp2_with fail
 refine (v_any w22 1).mono ?_
 rintro e w23 ⟨rfl, hb⟩
 have D_23 := hidden (D_22.out.trans (hb.mono D_22.out.size))
 have hs23 := hb.size
 clear hb
 clear a0 a1 a2 af
 have HM1 : Hid (Calls Tryd.prog 26 #[.agg #[.int .i64 1, .string ⟨#[]⟩, .slice none 0 0]] w23 fun e w' => e = .returned (.bool true) ∧ Below w23.heap.size w23 w') := pmay (P := fun _ => True) 1 (tV 1) (by omega) (by omega) w23 none 0 rt_nil
 go_wp2_with fail
 refine HM1.out.mono ?_
 rintro e w24 ⟨rfl, hb⟩
 have D_24 := hidden (D_23.out.trans (hb.mono D_23.out.size))
 have hs24 := hb.size
 clear hb HM1
 go_wp2_with fail
 refine (v_any w24 0).mono ?_
 rintro e w25 ⟨rfl, hb⟩
 have D_25 := hidden (D_24.out.trans (hb.mono D_24.out.size))
 have hs25 := hb.size
 clear hb
 have HM2 : Hid (Calls Tryd.prog 26 #[.agg #[.int .i64 0, .string ⟨#[]⟩, .slice none 0 0]] w25 fun e w' => e = .returned (.bool false) ∧ Below w25.heap.size w25 w') := pmay (P := fun _ => True) 1 (tV 0) (by simp [tV, Rw.sz, szRL]) (by omega) w25 none 0 rt_nil
 go_wp2_with fail
 refine HM2.out.mono ?_
 rintro e w26 ⟨rfl, hb⟩
 have D_26 := hidden (D_25.out.trans (hb.mono D_25.out.size))
 have hs26 := hb.size
 clear hb HM2
 go_wp2_with fail
 refine (v_any w26 7).mono ?_
 rintro e w27 ⟨rfl, hb⟩
 have D_27 := hidden (D_26.out.trans (hb.mono D_26.out.size))
 have hs27 := hb.size
 clear hb
 have D_28 := hidden (D_27.out.alloc D_27.out.size (.cells #[.int .i64 7, .string ⟨#[]⟩, .slice none 0 0] 24))
 have hs28 := show w27.heap.size < (w27.alloc (.cells #[.int .i64 7, .string ⟨#[]⟩, .slice none 0 0] 24)).heap.size by rw [nblk_alloc]; omega
 have RX_28 : Hid (RT (fun g => g = w27.heap.size) (w27.alloc (.cells #[.int .i64 7, .string ⟨#[]⟩, .slice none 0 0] 24)) [.mk 7 [] []] (some ⟨w27.heap.size, 0, none⟩)) := rt_mk1 (P := fun g => g = w27.heap.size) (w := w27) (x := tV 7) (ao := none) (c := 0) rfl rt_nil (bd_c (by decide) (by decide) (by decide))
 go_wp2_with fail
 generalize w27.alloc (.cells #[.int .i64 7, .string ⟨#[]⟩, .slice none 0 0] 24) = w28 at *
 refine (named_any w28 ⟨#[108, 105, 115, 116]⟩ _ 1 1).mono ?_
 rintro e w29 ⟨rfl, hb⟩
 have D_29 := hidden (D_28.out.trans (hb.mono D_28.out.size))
 have hs29 := hb.size
 have RX_29 := hidden (RX_28.out.beneath hb (Nat.le_refl _))
 clear RX_28
 clear hb
 have HT := hidden (text_list (RX_29.out.mono (fun g hg _ => by omega)))
 go_wp2_with fail
 refine HT.out.mono ?_
 rintro e w30 ⟨rfl, hb⟩
 have D_30 := hidden (D_29.out.trans (hb.mono D_29.out.size))
 clear hb HT
 go_wp2_with fail
 go_ret
 exact ⟨rfl, D_30.out⟩
end Go.Proofs.YtnebhiaeechpaaaDoor
