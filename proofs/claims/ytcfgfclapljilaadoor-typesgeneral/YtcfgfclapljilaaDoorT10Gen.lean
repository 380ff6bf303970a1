/-
 Layer 10: TypesGeneral, walked. No condition but that the arguments are read.
-/
import Derived.Test.YtcfgfclapljilaaDoorL10Awake
import Derived.Test.YtcfgfclapljilaaDoorT10UniN
import Derived.Test.YtcfgfclapljilaaDoorL10Tbn
import Derived.Test.YtcfgfclapljilaaDoorL10Pairs
import Derived.Test.YtcfgfclapljilaaDoorT10Inst
import Derived.Test.YtcfgfclapljilaaDoorT10Till
namespace Go.Proofs.YtcfgfclapljilaaDoor
open Go.ChangeShapes Go.WideShapes Go.ChangeAt Go.RowKit Go.Deep
set_option linter.unusedVariables false
set_option linter.unusedSimpArgs false
set_option maxHeartbeats 8000000
set_option maxRecDepth 100000
/-- How it stands while pairs are made one. -/
def InG (A : Nat → Prop) (tb q r : Nat) (pn : Nat) (w : World) (iv jv : Value) (wr : World) : Prop := ∃ (k m : Nat) (ρ : Nat → Ty), k ≤ pn ∧ jv = .int .i64 (k : Int) ∧ m ≤ 4000 * (k + 1) ∧ GoodR ρ ∧ TBn A wr tb q r m ρ ∧ Only (Own3 tb q r) w wr
theorem typesGeneral_walk (cs0 cs1 : Array Value) (pl : Option Addr) (pn pc : Nat) (w : World) (k0 : TOk (fun g => g < w.heap.size) w 2001 cs0.toList) (k1 : TOk (fun g => g < w.heap.size) w 2001 cs1.toList) (k2 : POk (fun g => g < w.heap.size) w 2001 pl pn) : Calls Tryd.prog 4 #[.agg cs0, .agg cs1, .slice pl pn pc] w fun e w' => e = .returned (.bool true) ∧ Below w.heap.size w w' := by
 obtain ⟨V1, s1, al1, n1, c1, e1, _⟩ := id k0
 obtain ⟨V2, s2, al2, n2, c2, e2, _⟩ := id k1
 have ec1 : cs0 = #[.int .i64 V1, .string s1, .slice al1 n1 c1] := Array.ext' (by rw [e1])
 have ec2 : cs1 = #[.int .i64 V2, .string s2, .slice al2 n2 c2] := Array.ext' (by rw [e2])
 subst ec1 ec2
 clear e1 e2
 have K0 := hidden k0
 have K1 := hidden k1
 have K2 := hidden k2
 have KN : Hid (pn ≤ maxLen) := k2.1
 clear k0 k1 k2
 go_enter Tryd.func4, Tryd.ntmps4
 go_upto_region 1 with fail
 obtain ⟨a1, a2, a3⟩ := two_box w V1 V2 s1 s2 (.slice al1 n1 c1) (.slice al2 n2 c2)
 have A_0 := hidden a1
 have C_0 := hidden a2
 have D_0 := hidden a3
 have S_0 : Hid (((w.alloc (.cells #[.int .i64 V1, .string s1, .slice al1 n1 c1] 24)).alloc (.cells #[.int .i64 V2, .string s2, .slice al2 n2 c2] 24)).heap.size = w.heap.size + 2) := by show _ = _; rw [nblk_alloc, nblk_alloc]
 clear a1 a2 a3
 generalize (w.alloc (.cells #[.int .i64 V1, .string s1, .slice al1 n1 c1] 24)).alloc (.cells #[.int .i64 V2, .string s2, .slice al2 n2 c2] 24) = w0 at *
 go_wp2_with fail
 refine (awake_any w0).mono ?_
 rintro e w1 ⟨rfl, hb⟩
 have A_1 := hidden (A_0.out.below hb (Nat.le_refl _))
 have C_1 := hidden (C_0.out.below hb (Nat.le_refl _))
 have D_1 := hidden (D_0.out.trans (hb.mono D_0.out.size))
 have S_1 : Hid (w.heap.size + 2 ≤ w1.heap.size) := by have h9 := S_0.out; have h8 := hb.size; show _ ≤ _; omega
 clear hb A_0 C_0 D_0 S_0
 obtain ⟨a0, a1, a2, af⟩ := A_1.out.cells
 obtain ⟨b0, b1, b2, bf⟩ := C_1.out.cells
 have HS1 := hidden (small_any w1 V1 s1 al1 n1 c1 (TOk.below D_1.out 2001 K0.out))
 go_wp2_with fail
 refine HS1.out.mono ?_
 rintro e w2 ⟨hb, rfl | ⟨L1, hl1, hr1, hz1, hm1, hd1, rfl⟩⟩
 ·have D_2 := hidden (D_1.out.trans (hb.mono D_1.out.size))
  clear hb a0 a1 a2 af b0 b1 b2 bf
  go_wp2_with fail
  go_ret
  exact ⟨rfl, D_2.out⟩
 subst hl1
 have A_2 := hidden (A_1.out.below hb (Nat.le_refl _))
 have C_2 := hidden (C_1.out.below hb (Nat.le_refl _))
 have D_2 := hidden (D_1.out.trans (hb.mono D_1.out.size))
 have S_2 : Hid (w.heap.size + 2 ≤ w2.heap.size) := by have h9 := S_1.out; have h8 := hb.size; show _ ≤ _; omega
 have X_2 := hidden hr1
 have XF := hidden (And.intro hz1 (And.intro hm1 hd1))
 clear hb a0 a1 a2 af b0 b1 b2 bf A_1 C_1 D_1 S_1 HS1 hr1 hz1 hm1 hd1
 obtain ⟨a0, a1, a2, af⟩ := A_2.out.cells
 obtain ⟨b0, b1, b2, bf⟩ := C_2.out.cells
 have HS2 := hidden (small_any w2 V2 s2 al2 n2 c2 (TOk.below D_2.out 2001 K1.out))
 go_wp2_with fail
 refine HS2.out.mono ?_
 rintro e w3 ⟨hb, rfl | ⟨L2, hl2, hr2, hz2, hm2, hd2, rfl⟩⟩
 ·have D_3 := hidden (D_2.out.trans (hb.mono D_2.out.size))
  clear hb a0 a1 a2 af b0 b1 b2 bf
  go_wp2_with fail
  go_ret
  exact ⟨rfl, D_3.out⟩
 subst hl2
 have es1 : s1 = (⟨s1.toList.toArray⟩ : ByteArray) := by rw [Go.ByteArray.toList_eq]
 have es2 : s2 = (⟨s2.toList.toArray⟩ : ByteArray) := by rw [Go.ByteArray.toList_eq]
 obtain ⟨x, hx⟩ : ∃ x, Rw.mk V1 s1.toList L1 = x := ⟨_, rfl⟩
 obtain ⟨y, hy⟩ : ∃ y, Rw.mk V2 s2.toList L2 = y := ⟨_, rfl⟩
 have A_3 : Hid (B3 w3 w.heap.size x.V ⟨x.S.toArray⟩ (.slice al1 x.L.length c1)) := by
  have h9 := A_2.out.below hb (Nat.le_refl _)
  rw [es1] at h9
  rw [← hx]
  exact h9
 have C_3 : Hid (B3 w3 (w.heap.size + 1) y.V ⟨y.S.toArray⟩ (.slice al2 y.L.length c2)) := by
  have h9 := C_2.out.below hb (Nat.le_refl _)
  rw [es2] at h9
  rw [← hy]
  exact h9
 have X_3 : Hid (RT (fun g => g < w.heap.size) w3 x.L al1) := by rw [← hx]; exact X_2.out.beneath hb (Nat.le_refl _)
 have Y_3 : Hid (RT (fun g => g < w.heap.size) w3 y.L al2) := by rw [← hy]; exact hr2
 have XE : Hid (x.sz ≤ 2000 ∧ x.may = true ∧ Bd x) := by rw [← hx]; exact XF.out
 have YE : Hid (y.sz ≤ 2000 ∧ y.may = true ∧ Bd y) := by rw [← hy]; exact ⟨hz2, hm2, hd2⟩
 have D_3 := hidden (D_2.out.trans (hb.mono D_2.out.size))
 have S_3 : Hid (w.heap.size + 2 ≤ w3.heap.size) := by have h9 := S_2.out; have h8 := hb.size; show _ ≤ _; omega
 have hxs : x.sz ≤ 2000 := XE.out.1
 have hys : y.sz ≤ 2000 := YE.out.1
 clear hb a0 a1 a2 af b0 b1 b2 bf A_2 C_2 D_2 S_2 X_2 XF HS2 hr2 hz2 hm2 hd2 hx hy es1 es2 K0 K1
 by_cases hpn : 20 < pn
 ·have zq : (20 : Int) < (pn : Int) := by omega
  clear hpn
  go_wp2_with fail
  go_ret
  exact ⟨rfl, D_3.out⟩
 have zq : ¬ (20 : Int) < (pn : Int) := by omega
 have HN := hidden (new_n w3 (A := fun g => g < w3.heap.size) (fun g hg => hg))
 go_wp2_with fail
 refine HN.out.mono ?_
 rintro e w4 ⟨rfl, g1, hb⟩
 have HOW1 : Hid (∀ g, Own3 (w3.heap.size + 2) w3.heap.size (w3.heap.size + 1) g → w3.heap.size ≤ g) := fun g hg => by rcases hg with h9 | h9 | h9 <;> omega
 have HOL1 : Hid (∀ g, Own3 (w3.heap.size + 2) w3.heap.size (w3.heap.size + 1) g → g < w4.heap.size) := g1.lt
 have hs34 := hb.size
 have hb4 := Only.of_below (S := (Own3 (w3.heap.size + 2) w3.heap.size (w3.heap.size + 1))) hb
 have A_4 : Hid (B3 w4 w.heap.size x.V ⟨x.S.toArray⟩ (.slice al1 x.L.length c1)) := A_3.out.keep (hb4.block _ A_3.out.lt (fun e => by have h8 := HOW1.out _ e; have h7 := S_3.out; omega))
 have C_4 : Hid (B3 w4 (w.heap.size + 1) y.V ⟨y.S.toArray⟩ (.slice al2 y.L.length c2)) := C_3.out.keep (hb4.block _ C_3.out.lt (fun e => by have h8 := HOW1.out _ e; have h7 := S_3.out; omega))
 have X_4 : Hid (RT (fun g => g < w.heap.size) w4 x.L al1) := X_3.out.keep (fun g hg hl => hb4.block g hl (fun e => by have h8 := HOW1.out _ e; have h7 := S_3.out; omega))
 have Y_4 : Hid (RT (fun g => g < w.heap.size) w4 y.L al2) := Y_3.out.keep (fun g hg hl => hb4.block g hl (fun e => by have h8 := HOW1.out _ e; have h7 := S_3.out; omega))
 have D_4 : Hid (Below w.heap.size w w4) := ((Only.of_below D_3.out).trans (hb4.mono (S' := fun g => w.heap.size ≤ g) (fun g _ e => by have h8 := HOW1.out _ e; have h7 := S_3.out; omega))).toBelow (fun g hg => hg)
 have T_4 := hidden g1
 clear g1 hb hb4 A_3 C_3 X_3 Y_3 D_3 HN zq
 obtain ⟨a0, a1, a2, af⟩ := A_4.out.cells
 obtain ⟨b0, b1, b2, bf⟩ := C_4.out.cells
 have HV := hidden (vars_n T_4.out (x := x) c1 XE.out.2.1 (by omega) XE.out.2.2 (X_4.out.mono (fun g hg _ e => by have h8 := HOW1.out _ e; have h7 := S_3.out; omega)) (by omega))
 go_wp2_with fail
 refine HV.out.mono ?_
 rintro e w5 ⟨vv, rfl, g2, g1⟩
 have A_5 : Hid (B3 w5 w.heap.size x.V ⟨x.S.toArray⟩ (.slice al1 x.L.length c1)) := A_4.out.keep (g1.block _ A_4.out.lt (fun e => by have h8 := HOW1.out _ e; have h7 := S_3.out; omega))
 have C_5 : Hid (B3 w5 (w.heap.size + 1) y.V ⟨y.S.toArray⟩ (.slice al2 y.L.length c2)) := C_4.out.keep (g1.block _ C_4.out.lt (fun e => by have h8 := HOW1.out _ e; have h7 := S_3.out; omega))
 have X_5 : Hid (RT (fun g => g < w.heap.size) w5 x.L al1) := X_4.out.keep (fun g hg hl => g1.block g hl (fun e => by have h8 := HOW1.out _ e; have h7 := S_3.out; omega))
 have Y_5 : Hid (RT (fun g => g < w.heap.size) w5 y.L al2) := Y_4.out.keep (fun g hg hl => g1.block g hl (fun e => by have h8 := HOW1.out _ e; have h7 := S_3.out; omega))
 have D_5 : Hid (Below w.heap.size w w5) := ((Only.of_below D_4.out).trans (g1.mono (S' := fun g => w.heap.size ≤ g) (fun g _ e => by have h8 := HOW1.out _ e; have h7 := S_3.out; omega))).toBelow (fun g hg => hg)
 have T_5 := hidden g2
 have hs45 := g1.size
 clear g1 g2 HV A_4 C_4 X_4 Y_4 D_4 T_4
 clear a0 a1 a2 af b0 b1 b2 bf
 obtain ⟨a0, a1, a2, af⟩ := A_5.out.cells
 obtain ⟨b0, b1, b2, bf⟩ := C_5.out.cells
 have HV := hidden (vars_n T_5.out (x := y) c2 YE.out.2.1 (by omega) YE.out.2.2 (Y_5.out.mono (fun g hg _ e => by have h8 := HOW1.out _ e; have h7 := S_3.out; omega)) (by omega))
 go_wp2_with fail
 refine HV.out.mono ?_
 rintro e w6 ⟨vv2, rfl, g2, g1⟩
 have A_6 : Hid (B3 w6 w.heap.size x.V ⟨x.S.toArray⟩ (.slice al1 x.L.length c1)) := A_5.out.keep (g1.block _ A_5.out.lt (fun e => by have h8 := HOW1.out _ e; have h7 := S_3.out; omega))
 have C_6 : Hid (B3 w6 (w.heap.size + 1) y.V ⟨y.S.toArray⟩ (.slice al2 y.L.length c2)) := C_5.out.keep (g1.block _ C_5.out.lt (fun e => by have h8 := HOW1.out _ e; have h7 := S_3.out; omega))
 have X_6 : Hid (RT (fun g => g < w.heap.size) w6 x.L al1) := X_5.out.keep (fun g hg hl => g1.block g hl (fun e => by have h8 := HOW1.out _ e; have h7 := S_3.out; omega))
 have Y_6 : Hid (RT (fun g => g < w.heap.size) w6 y.L al2) := Y_5.out.keep (fun g hg hl => g1.block g hl (fun e => by have h8 := HOW1.out _ e; have h7 := S_3.out; omega))
 have D_6 : Hid (Below w.heap.size w w6) := ((Only.of_below D_5.out).trans (g1.mono (S' := fun g => w.heap.size ≤ g) (fun g _ e => by have h8 := HOW1.out _ e; have h7 := S_3.out; omega))).toBelow (fun g hg => hg)
 have T_6 := hidden g2
 have hs56 := g1.size
 clear g1 g2 HV A_5 C_5 X_5 Y_5 D_5 T_5
 clear a0 a1 a2 af b0 b1 b2 bf
 go_wp2_with fail
 go_loopw [8, 37] (fun iv jv wr => InG (fun g => g < w3.heap.size) (w3.heap.size + 2) w3.heap.size (w3.heap.size + 1) pn w6 iv jv wr) (fun iv jv wr => (pn - intOf jv).toNat)
 case atStart => exact ⟨0, _, Ty.v, Nat.zero_le _, rfl, by omega, good_id, T_6.out, Only.refl _ _⟩
 case round =>
  obtain ⟨k, m, ρ, hk, rfl, hm, hgr, hT, hO⟩ := hrel
  have A_7 : Hid (B3 wr w.heap.size x.V ⟨x.S.toArray⟩ (.slice al1 x.L.length c1)) := A_6.out.keep (hO.block _ A_6.out.lt (fun e => by have h8 := HOW1.out _ e; have h7 := S_3.out; omega))
  have C_7 : Hid (B3 wr (w.heap.size + 1) y.V ⟨y.S.toArray⟩ (.slice al2 y.L.length c2)) := C_6.out.keep (hO.block _ C_6.out.lt (fun e => by have h8 := HOW1.out _ e; have h7 := S_3.out; omega))
  have X_7 : Hid (RT (fun g => g < w.heap.size) wr x.L al1) := X_6.out.keep (fun g hg hl => hO.block g hl (fun e => by have h8 := HOW1.out _ e; have h7 := S_3.out; omega))
  have Y_7 : Hid (RT (fun g => g < w.heap.size) wr y.L al2) := Y_6.out.keep (fun g hg hl => hO.block g hl (fun e => by have h8 := HOW1.out _ e; have h7 := S_3.out; omega))
  have D_7 : Hid (Below w.heap.size w wr) := ((Only.of_below D_6.out).trans (hO.mono (S' := fun g => w.heap.size ≤ g) (fun g _ e => by have h8 := HOW1.out _ e; have h7 := S_3.out; omega))).toBelow (fun g hg => hg)
  have T_7 := hidden hT
  have HGR := hidden hgr
  have hs67 := hO.size
  have O_67 := hidden hO
  clear hT hO hgr
  by_cases hlt : k < pn
  ·have z1 : (k : Int) < (pn : Int) := by omega
   have zi : (0 : Int) ≤ (k : Int) ∧ (k : Int) < (pn : Int) := ⟨by omega, z1⟩
   obtain ⟨a, d0, d1, d2, d3, d4, d5, rfl, hpb, h0, h1, h2, h3, h4, h5, ht1, ht2⟩ := K2.out.2 k hlt
   obtain ⟨V1x, s1x, al1x, n1x, c1x, ex1, _⟩ := id ht1
   obtain ⟨V2x, s2x, al2x, n2x, c2x, ex2, _⟩ := id ht2
   simp only [List.cons.injEq, and_true] at ex1 ex2
   obtain ⟨rfl, rfl, rfl⟩ := ex1
   obtain ⟨rfl, rfl, rfl⟩ := ex2
   have HPB : Hid ((a.add (k * 6)).block < w.heap.size) := hpb
   have HT1 := hidden ht1
   have HT2 := hidden ht2
   have CK : Hid (∀ v : World, Below w.heap.size w v → v.cell? (a.add (k * 6)) = some (.int .i64 V1x) ∧ v.cell? ⟨(a.add (k * 6)).block, (a.add (k * 6)).off + 1, none⟩ = some (.string s1x) ∧ v.cell? ⟨(a.add (k * 6)).block, (a.add (k * 6)).off + 2, none⟩ = some (.slice al1x n1x c1x) ∧ v.cell? ⟨(a.add (k * 6)).block, (a.add (k * 6)).off + 3, none⟩ = some (.int .i64 V2x) ∧ v.cell? ⟨(a.add (k * 6)).block, (a.add (k * 6)).off + 4, none⟩ = some (.string s2x) ∧ v.cell? ⟨(a.add (k * 6)).block, (a.add (k * 6)).off + 5, none⟩ = some (.slice al2x n2x c2x)) := fun v hv => by
    have hbk := hv.block _ hpb
    have hc : ∀ o, v.cell? ⟨(a.add (k * 6)).block, o, none⟩ = w.cell? ⟨(a.add (k * 6)).block, o, none⟩ := fun o => World.cell?_of_block (a := ⟨(a.add (k * 6)).block, o, none⟩) hbk
    have hc0 : v.cell? (a.add (k * 6)) = w.cell? (a.add (k * 6)) := World.cell?_of_block (a := a.add (k * 6)) hbk
    exact ⟨hc0.trans h0, (hc _).trans h1, (hc _).trans h2, (hc _).trans h3, (hc _).trans h4, (hc _).trans h5⟩
   clear hpb h0 h1 h2 h3 h4 h5 ht1 ht2
   have D_0 : Hid (Below w.heap.size w wr.drew) := D_7.out.trans ((drew_below10 wr).mono D_7.out.size)
   have T_0 := hidden T_7.out.drew
   have Z_0 : Hid (w6.heap.size ≤ wr.drew.heap.size) := hs67
   obtain ⟨k00, k01, k02, k03, k04, k05⟩ := CK.out _ D_0.out
   go_upto_region 11 with fail
   refine region_till (S := (fun w' => w'.cell? (a.add (k * 6)) = some (.int .i64 V1x) ∧ w'.cell? ⟨(a.add (k * 6)).block, (a.add (k * 6)).off + 1, none⟩ = some (.string s1x) ∧ w'.cell? ⟨(a.add (k * 6)).block, (a.add (k * 6)).off + 2, none⟩ = some (.slice al1x n1x c1x) ∧ w'.cell? ⟨(a.add (k * 6)).block, (a.add (k * 6)).off + 3, none⟩ = some (.int .i64 V2x) ∧ w'.cell? ⟨(a.add (k * 6)).block, (a.add (k * 6)).off + 4, none⟩ = some (.string s2x) ∧ w'.cell? ⟨(a.add (k * 6)).block, (a.add (k * 6)).off + 5, none⟩ = some (.slice al2x n2x c2x))) (kz := 99) (by kernel_rfl) ⟨k00, k01, k02, k03, k04, k05⟩ (fun hHeld => ?_)
   refine AnyTill.tk (i := 0) (v := ?_) hHeld ?_ ?_
   rotate_left
   ·(intro w hSw; (try dsimp only at hSw); go_simp; (try with_reducible rfl))
   (try simp only [Act.put, q4, q5, q6, q1, q2, q3])
   refine AnyTill.tk (i := 1) (v := ?_) hHeld ?_ ?_
   rotate_left
   ·(intro w hSw; (try dsimp only at hSw); go_simp; (try with_reducible rfl))
   (try simp only [Act.put, q4, q5, q6, q1, q2, q3])
   refine AnyTill.tk (i := 2) (v := ?_) hHeld ?_ ?_
   rotate_left
   ·(intro w hSw; (try dsimp only at hSw); go_simp; (try with_reducible rfl))
   (try simp only [Act.put, q4, q5, q6, q1, q2, q3])
   refine AnyTill.tk (i := 3) (v := ?_) hHeld ?_ ?_
   rotate_left
   ·(intro w hSw; (try dsimp only at hSw); go_simp; (try with_reducible rfl))
   (try simp only [Act.put, q4, q5, q6, q1, q2, q3])
   refine AnyTill.tk (i := 4) (v := ?_) hHeld ?_ ?_
   rotate_left
   ·(intro w hSw; (try dsimp only at hSw); go_simp; (try with_reducible rfl))
   (try simp only [Act.put, q4, q5, q6, q1, q2, q3])
   refine AnyTill.one (i := 5) (by kernel_rfl) rfl (fun K9 hK9 => ?_)
   (try simp only [q1, q2, q3])
   (first | rw [if_pos (by rfl)] | skip)
   go_simp
   refine (small_any (P := fun g => g < w.heap.size) wr.drew V1x s1x al1x n1x c1x (TOk.below D_0.out 2001 HT1.out)).mono ?_
   rintro e v1 ⟨hb, rfl | ⟨L1x, hl1, hr1, hz1, hm1, hd1, rfl⟩⟩
   ·have D_1 := hidden (D_0.out.trans (hb.mono D_0.out.size))
    clear hb
    obtain ⟨k10, k11, k12, k13, k14, k15⟩ := CK.out _ D_1.out
    refine hK9.out _ _ (fun _ => ⟨k10, k11, k12, k13, k14, k15⟩) ?_
    clear hK9 K9
    (try simp only [Act.put, q4, q5, q6, q1, q2, q3])
    refine AnyTill.take (i := 6) (v := ?_) rfl (by kernel_rfl) (by kernel_rfl) (by kernel_rfl) (by kernel_rfl) (fun _ _ _ h => h) (Or.inl ⟨by rfl, ?_⟩) ⟨k10, k11, k12, k13, k14, k15⟩ ?_
    rotate_left
    ·(intro w hSw; (try dsimp only at hSw); go_simp; (try with_reducible rfl))
    (try simp only [Act.put, q4, q5, q6, q1, q2, q3])
    refine AnyTill.take (i := 7) (v := ?_) rfl (by kernel_rfl) (by kernel_rfl) (by kernel_rfl) (by kernel_rfl) (fun _ _ _ h => h) (Or.inl ⟨by rfl, ?_⟩) ⟨k10, k11, k12, k13, k14, k15⟩ ?_
    rotate_left
    ·(intro w hSw; (try dsimp only at hSw); go_simp; (try with_reducible rfl))
    (try simp only [Act.put, q4, q5, q6, q1, q2, q3])
    refine AnyTill.take (i := 8) (v := undef) rfl (by kernel_rfl) (by kernel_rfl) (by kernel_rfl) (by kernel_rfl) (fun _ _ _ h => h) (Or.inr ⟨by rfl, rfl⟩) ⟨k10, k11, k12, k13, k14, k15⟩ ?_
    (try simp only [Act.put, q4, q5, q6, q1, q2, q3])
    refine AnyTill.take (i := 9) (v := undef) rfl (by kernel_rfl) (by kernel_rfl) (by kernel_rfl) (by kernel_rfl) (fun _ _ _ h => h) (Or.inr ⟨by rfl, rfl⟩) ⟨k10, k11, k12, k13, k14, k15⟩ ?_
    (try simp only [Act.put, q4, q5, q6, q1, q2, q3])
    refine AnyTill.take (i := 10) (v := undef) rfl (by kernel_rfl) (by kernel_rfl) (by kernel_rfl) (by kernel_rfl) (fun _ _ _ h => h) (Or.inr ⟨by rfl, rfl⟩) ⟨k10, k11, k12, k13, k14, k15⟩ ?_
    (try simp only [Act.put, q4, q5, q6, q1, q2, q3])
    refine AnyTill.take (i := 11) (v := undef) rfl (by kernel_rfl) (by kernel_rfl) (by kernel_rfl) (by kernel_rfl) (fun _ _ _ h => h) (Or.inr ⟨by rfl, rfl⟩) ⟨k10, k11, k12, k13, k14, k15⟩ ?_
    (try simp only [Act.put, q4, q5, q6, q1, q2, q3])
    refine AnyTill.take (i := 12) (v := undef) rfl (by kernel_rfl) (by kernel_rfl) (by kernel_rfl) (by kernel_rfl) (fun _ _ _ h => h) (Or.inr ⟨by rfl, rfl⟩) ⟨k10, k11, k12, k13, k14, k15⟩ ?_
    (try simp only [Act.put, q4, q5, q6, q1, q2, q3])
    refine AnyTill.take (i := 13) (v := undef) rfl (by kernel_rfl) (by kernel_rfl) (by kernel_rfl) (by kernel_rfl) (fun _ _ _ h => h) (Or.inr ⟨by rfl, rfl⟩) ⟨k10, k11, k12, k13, k14, k15⟩ ?_
    (try simp only [Act.put, q4, q5, q6, q1, q2, q3])
    refine AnyTill.take (i := 14) (v := undef) rfl (by kernel_rfl) (by kernel_rfl) (by kernel_rfl) (by kernel_rfl) (fun _ _ _ h => h) (Or.inr ⟨by rfl, rfl⟩) ⟨k10, k11, k12, k13, k14, k15⟩ ?_
    (try simp only [Act.put, q4, q5, q6, q1, q2, q3])
    refine AnyTill.take (i := 15) (v := ?_) rfl (by kernel_rfl) (by kernel_rfl) (by kernel_rfl) (by kernel_rfl) (fun _ _ _ h => h) (Or.inl ⟨by rfl, ?_⟩) ⟨k10, k11, k12, k13, k14, k15⟩ ?_
    rotate_left
    ·(intro w hSw; (try dsimp only at hSw); go_simp; (try with_reducible rfl))
    (try simp only [Act.put, q4, q5, q6, q1, q2, q3])
    refine AnyTill.take (i := 16) (v := ?_) rfl (by kernel_rfl) (by kernel_rfl) (by kernel_rfl) (by kernel_rfl) (fun _ _ _ h => h) (Or.inl ⟨by rfl, ?_⟩) ⟨k10, k11, k12, k13, k14, k15⟩ ?_
    rotate_left
    ·(intro w hSw; (try dsimp only at hSw); go_simp; (try with_reducible rfl))
    (try simp only [Act.put, q4, q5, q6, q1, q2, q3])
    refine AnyTill.take (i := 17) (v := undef) rfl (by kernel_rfl) (by kernel_rfl) (by kernel_rfl) (by kernel_rfl) (fun _ _ _ h => h) (Or.inr ⟨by rfl, rfl⟩) ⟨k10, k11, k12, k13, k14, k15⟩ ?_
    (try simp only [Act.put, q4, q5, q6, q1, q2, q3])
    refine AnyTill.take (i := 18) (v := undef) rfl (by kernel_rfl) (by kernel_rfl) (by kernel_rfl) (by kernel_rfl) (fun _ _ _ h => h) (Or.inr ⟨by rfl, rfl⟩) ⟨k10, k11, k12, k13, k14, k15⟩ ?_
    (try simp only [Act.put, q4, q5, q6, q1, q2, q3])
    refine AnyTill.take (i := 19) (v := undef) rfl (by kernel_rfl) (by kernel_rfl) (by kernel_rfl) (by kernel_rfl) (fun _ _ _ h => h) (Or.inr ⟨by rfl, rfl⟩) ⟨k10, k11, k12, k13, k14, k15⟩ ?_
    (try simp only [Act.put, q4, q5, q6, q1, q2, q3])
    refine AnyTill.take (i := 20) (v := undef) rfl (by kernel_rfl) (by kernel_rfl) (by kernel_rfl) (by kernel_rfl) (fun _ _ _ h => h) (Or.inr ⟨by rfl, rfl⟩) ⟨k10, k11, k12, k13, k14, k15⟩ ?_
    (try simp only [Act.put, q4, q5, q6, q1, q2, q3])
    refine AnyTill.take (i := 21) (v := undef) rfl (by kernel_rfl) (by kernel_rfl) (by kernel_rfl) (by kernel_rfl) (fun _ _ _ h => h) (Or.inr ⟨by rfl, rfl⟩) ⟨k10, k11, k12, k13, k14, k15⟩ ?_
    (try simp only [Act.put, q4, q5, q6, q1, q2, q3])
    refine AnyTill.take (i := 22) (v := undef) rfl (by kernel_rfl) (by kernel_rfl) (by kernel_rfl) (by kernel_rfl) (fun _ _ _ h => h) (Or.inr ⟨by rfl, rfl⟩) ⟨k10, k11, k12, k13, k14, k15⟩ ?_
    (try simp only [Act.put, q4, q5, q6, q1, q2, q3])
    refine AnyTill.take (i := 23) (v := undef) rfl (by kernel_rfl) (by kernel_rfl) (by kernel_rfl) (by kernel_rfl) (fun _ _ _ h => h) (Or.inr ⟨by rfl, rfl⟩) ⟨k10, k11, k12, k13, k14, k15⟩ ?_
    (try simp only [Act.put, q4, q5, q6, q1, q2, q3])
    refine AnyTill.take (i := 24) (v := undef) rfl (by kernel_rfl) (by kernel_rfl) (by kernel_rfl) (by kernel_rfl) (fun _ _ _ h => h) (Or.inr ⟨by rfl, rfl⟩) ⟨k10, k11, k12, k13, k14, k15⟩ ?_
    (try simp only [Act.put, q4, q5, q6, q1, q2, q3])
    refine AnyTill.take (i := 25) (v := undef) rfl (by kernel_rfl) (by kernel_rfl) (by kernel_rfl) (by kernel_rfl) (fun _ _ _ h => h) (Or.inr ⟨by rfl, rfl⟩) ⟨k10, k11, k12, k13, k14, k15⟩ ?_
    (try simp only [Act.put, q4, q5, q6, q1, q2, q3])
    refine AnyTill.take (i := 26) (v := undef) rfl (by kernel_rfl) (by kernel_rfl) (by kernel_rfl) (by kernel_rfl) (fun _ _ _ h => h) (Or.inr ⟨by rfl, rfl⟩) ⟨k10, k11, k12, k13, k14, k15⟩ ?_
    (try simp only [Act.put, q4, q5, q6, q1, q2, q3])
    refine AnyTill.take (i := 27) (v := undef) rfl (by kernel_rfl) (by kernel_rfl) (by kernel_rfl) (by kernel_rfl) (fun _ _ _ h => h) (Or.inr ⟨by rfl, rfl⟩) ⟨k10, k11, k12, k13, k14, k15⟩ ?_
    (try simp only [Act.put, q4, q5, q6, q1, q2, q3])
    refine AnyTill.take (i := 28) (v := undef) rfl (by kernel_rfl) (by kernel_rfl) (by kernel_rfl) (by kernel_rfl) (fun _ _ _ h => h) (Or.inr ⟨by rfl, rfl⟩) ⟨k10, k11, k12, k13, k14, k15⟩ ?_
    (try simp only [Act.put, q4, q5, q6, q1, q2, q3])
    refine AnyTill.take (i := 29) (v := undef) rfl (by kernel_rfl) (by kernel_rfl) (by kernel_rfl) (by kernel_rfl) (fun _ _ _ h => h) (Or.inr ⟨by rfl, rfl⟩) ⟨k10, k11, k12, k13, k14, k15⟩ ?_
    (try simp only [Act.put, q4, q5, q6, q1, q2, q3])
    refine AnyTill.take (i := 30) (v := ?_) rfl (by kernel_rfl) (by kernel_rfl) (by kernel_rfl) (by kernel_rfl) (fun _ _ _ h => h) (Or.inl ⟨by rfl, ?_⟩) ⟨k10, k11, k12, k13, k14, k15⟩ ?_
    rotate_left
    ·(intro w hSw; (try dsimp only at hSw); go_simp; (try with_reducible rfl))
    (try simp only [Act.put, q4, q5, q6, q1, q2, q3])
    refine AnyTill.done (by kernel_rfl) ?_ _
    (try simp only [Act.put, q4, q5, q6, q1, q2, q3])
    clear k00 k01 k02 k03 k04 k05 k10 k11 k12 k13 k14 k15
    go_wp2_with fail
    go_ret
    exact ⟨rfl, D_1.out⟩
   subst hl1
   have D_1 := hidden (D_0.out.trans (hb.mono D_0.out.size))
   have B_01 : Hid (Only (Own3 (w3.heap.size + 2) w3.heap.size (w3.heap.size + 1)) wr.drew v1) := Only.of_below hb
   have T_1 := hidden (T_0.out.below hb)
   have Z_1 : Hid (w6.heap.size ≤ v1.heap.size) := Nat.le_trans Z_0.out hb.size
   have X1 := hidden hr1
   have XF := hidden (And.intro hz1 (And.intro hm1 hd1))
   clear hb hr1 hz1 hm1 hd1
   obtain ⟨k10, k11, k12, k13, k14, k15⟩ := CK.out _ D_1.out
   refine hK9.out _ _ (fun _ => ⟨k10, k11, k12, k13, k14, k15⟩) ?_
   clear hK9 K9
   (try simp only [Act.put, q4, q5, q6, q1, q2, q3])
   clear k00 k01 k02 k03 k04 k05
   refine AnyTill.take (i := 6) (v := ?_) rfl (by kernel_rfl) (by kernel_rfl) (by kernel_rfl) (by kernel_rfl) (fun _ _ _ h => h) (Or.inl ⟨by rfl, ?_⟩) ⟨k10, k11, k12, k13, k14, k15⟩ ?_
   rotate_left
   ·(intro w hSw; (try dsimp only at hSw); go_simp; (try with_reducible rfl))
   (try simp only [Act.put, q4, q5, q6, q1, q2, q3])
   refine AnyTill.take (i := 7) (v := ?_) rfl (by kernel_rfl) (by kernel_rfl) (by kernel_rfl) (by kernel_rfl) (fun _ _ _ h => h) (Or.inl ⟨by rfl, ?_⟩) ⟨k10, k11, k12, k13, k14, k15⟩ ?_
   rotate_left
   ·(intro w hSw; (try dsimp only at hSw); go_simp; (try with_reducible rfl))
   (try simp only [Act.put, q4, q5, q6, q1, q2, q3])
   refine AnyTill.take (i := 8) (v := ?_) rfl (by kernel_rfl) (by kernel_rfl) (by kernel_rfl) (by kernel_rfl) (fun _ _ _ h => h) (Or.inl ⟨by rfl, ?_⟩) ⟨k10, k11, k12, k13, k14, k15⟩ ?_
   rotate_left
   ·(intro w hSw; (try dsimp only at hSw); go_simp; (try with_reducible rfl))
   (try simp only [Act.put, q4, q5, q6, q1, q2, q3])
   refine AnyTill.take (i := 9) (v := ?_) rfl (by kernel_rfl) (by kernel_rfl) (by kernel_rfl) (by kernel_rfl) (fun _ _ _ h => h) (Or.inl ⟨by rfl, ?_⟩) ⟨k10, k11, k12, k13, k14, k15⟩ ?_
   rotate_left
   ·(intro w hSw; (try dsimp only at hSw); go_simp; (try with_reducible rfl))
   (try simp only [Act.put, q4, q5, q6, q1, q2, q3])
   refine AnyTill.take (i := 10) (v := ?_) rfl (by kernel_rfl) (by kernel_rfl) (by kernel_rfl) (by kernel_rfl) (fun _ _ _ h => h) (Or.inl ⟨by rfl, ?_⟩) ⟨k10, k11, k12, k13, k14, k15⟩ ?_
   rotate_left
   ·(intro w hSw; (try dsimp only at hSw); go_simp; (try with_reducible rfl))
   (try simp only [Act.put, q4, q5, q6, q1, q2, q3])
   refine AnyTill.take (i := 11) (v := ?_) rfl (by kernel_rfl) (by kernel_rfl) (by kernel_rfl) (by kernel_rfl) (fun _ _ _ h => h) (Or.inl ⟨by rfl, ?_⟩) ⟨k10, k11, k12, k13, k14, k15⟩ ?_
   rotate_left
   ·(intro w hSw; (try dsimp only at hSw); go_simp; (try with_reducible rfl))
   (try simp only [Act.put, q4, q5, q6, q1, q2, q3])
   refine AnyTill.take (i := 12) (v := ?_) rfl (by kernel_rfl) (by kernel_rfl) (by kernel_rfl) (by kernel_rfl) (fun _ _ _ h => h) (Or.inl ⟨by rfl, ?_⟩) ⟨k10, k11, k12, k13, k14, k15⟩ ?_
   rotate_left
   ·(intro w hSw; (try dsimp only at hSw); go_simp; (try with_reducible rfl))
   (try simp only [Act.put, q4, q5, q6, q1, q2, q3])
   refine AnyTill.one (i := 13) (by kernel_rfl) rfl (fun K9 hK9 => ?_)
   (try simp only [q1, q2, q3])
   (first | rw [if_pos (by rfl)] | skip)
   go_simp
   refine (small_any (P := fun g => g < w.heap.size) v1 V2x s2x al2x n2x c2x (TOk.below D_1.out 2001 HT2.out)).mono ?_
   rintro e v2 ⟨hb, rfl | ⟨L2x, hl2, hr2, hz2, hm2, hd2, rfl⟩⟩
   ·have D_2 := hidden (D_1.out.trans (hb.mono D_1.out.size))
    clear hb
    obtain ⟨k20, k21, k22, k23, k24, k25⟩ := CK.out _ D_2.out
    refine hK9.out _ _ (fun _ => ⟨k20, k21, k22, k23, k24, k25⟩) ?_
    clear hK9 K9
    (try simp only [Act.put, q4, q5, q6, q1, q2, q3])
    refine AnyTill.take (i := 14) (v := ?_) rfl (by kernel_rfl) (by kernel_rfl) (by kernel_rfl) (by kernel_rfl) (fun _ _ _ h => h) (Or.inl ⟨by rfl, ?_⟩) ⟨k20, k21, k22, k23, k24, k25⟩ ?_
    rotate_left
    ·(intro w hSw; (try dsimp only at hSw); go_simp; (try with_reducible rfl))
    (try simp only [Act.put, q4, q5, q6, q1, q2, q3])
    refine AnyTill.take (i := 15) (v := ?_) rfl (by kernel_rfl) (by kernel_rfl) (by kernel_rfl) (by kernel_rfl) (fun _ _ _ h => h) (Or.inl ⟨by rfl, ?_⟩) ⟨k20, k21, k22, k23, k24, k25⟩ ?_
    rotate_left
    ·(intro w hSw; (try dsimp only at hSw); go_simp; (try with_reducible rfl))
    (try simp only [Act.put, q4, q5, q6, q1, q2, q3])
    refine AnyTill.take (i := 16) (v := ?_) rfl (by kernel_rfl) (by kernel_rfl) (by kernel_rfl) (by kernel_rfl) (fun _ _ _ h => h) (Or.inl ⟨by rfl, ?_⟩) ⟨k20, k21, k22, k23, k24, k25⟩ ?_
    rotate_left
    ·(intro w hSw; (try dsimp only at hSw); go_simp; (try with_reducible rfl))
    (try simp only [Act.put, q4, q5, q6, q1, q2, q3])
    refine AnyTill.take (i := 17) (v := undef) rfl (by kernel_rfl) (by kernel_rfl) (by kernel_rfl) (by kernel_rfl) (fun _ _ _ h => h) (Or.inr ⟨by rfl, rfl⟩) ⟨k20, k21, k22, k23, k24, k25⟩ ?_
    (try simp only [Act.put, q4, q5, q6, q1, q2, q3])
    refine AnyTill.take (i := 18) (v := undef) rfl (by kernel_rfl) (by kernel_rfl) (by kernel_rfl) (by kernel_rfl) (fun _ _ _ h => h) (Or.inr ⟨by rfl, rfl⟩) ⟨k20, k21, k22, k23, k24, k25⟩ ?_
    (try simp only [Act.put, q4, q5, q6, q1, q2, q3])
    refine AnyTill.take (i := 19) (v := undef) rfl (by kernel_rfl) (by kernel_rfl) (by kernel_rfl) (by kernel_rfl) (fun _ _ _ h => h) (Or.inr ⟨by rfl, rfl⟩) ⟨k20, k21, k22, k23, k24, k25⟩ ?_
    (try simp only [Act.put, q4, q5, q6, q1, q2, q3])
    refine AnyTill.take (i := 20) (v := undef) rfl (by kernel_rfl) (by kernel_rfl) (by kernel_rfl) (by kernel_rfl) (fun _ _ _ h => h) (Or.inr ⟨by rfl, rfl⟩) ⟨k20, k21, k22, k23, k24, k25⟩ ?_
    (try simp only [Act.put, q4, q5, q6, q1, q2, q3])
    refine AnyTill.take (i := 21) (v := undef) rfl (by kernel_rfl) (by kernel_rfl) (by kernel_rfl) (by kernel_rfl) (fun _ _ _ h => h) (Or.inr ⟨by rfl, rfl⟩) ⟨k20, k21, k22, k23, k24, k25⟩ ?_
    (try simp only [Act.put, q4, q5, q6, q1, q2, q3])
    refine AnyTill.take (i := 22) (v := undef) rfl (by kernel_rfl) (by kernel_rfl) (by kernel_rfl) (by kernel_rfl) (fun _ _ _ h => h) (Or.inr ⟨by rfl, rfl⟩) ⟨k20, k21, k22, k23, k24, k25⟩ ?_
    (try simp only [Act.put, q4, q5, q6, q1, q2, q3])
    refine AnyTill.take (i := 23) (v := undef) rfl (by kernel_rfl) (by kernel_rfl) (by kernel_rfl) (by kernel_rfl) (fun _ _ _ h => h) (Or.inr ⟨by rfl, rfl⟩) ⟨k20, k21, k22, k23, k24, k25⟩ ?_
    (try simp only [Act.put, q4, q5, q6, q1, q2, q3])
    refine AnyTill.take (i := 24) (v := undef) rfl (by kernel_rfl) (by kernel_rfl) (by kernel_rfl) (by kernel_rfl) (fun _ _ _ h => h) (Or.inr ⟨by rfl, rfl⟩) ⟨k20, k21, k22, k23, k24, k25⟩ ?_
    (try simp only [Act.put, q4, q5, q6, q1, q2, q3])
    refine AnyTill.take (i := 25) (v := undef) rfl (by kernel_rfl) (by kernel_rfl) (by kernel_rfl) (by kernel_rfl) (fun _ _ _ h => h) (Or.inr ⟨by rfl, rfl⟩) ⟨k20, k21, k22, k23, k24, k25⟩ ?_
    (try simp only [Act.put, q4, q5, q6, q1, q2, q3])
    refine AnyTill.take (i := 26) (v := undef) rfl (by kernel_rfl) (by kernel_rfl) (by kernel_rfl) (by kernel_rfl) (fun _ _ _ h => h) (Or.inr ⟨by rfl, rfl⟩) ⟨k20, k21, k22, k23, k24, k25⟩ ?_
    (try simp only [Act.put, q4, q5, q6, q1, q2, q3])
    refine AnyTill.take (i := 27) (v := undef) rfl (by kernel_rfl) (by kernel_rfl) (by kernel_rfl) (by kernel_rfl) (fun _ _ _ h => h) (Or.inr ⟨by rfl, rfl⟩) ⟨k20, k21, k22, k23, k24, k25⟩ ?_
    (try simp only [Act.put, q4, q5, q6, q1, q2, q3])
    refine AnyTill.take (i := 28) (v := undef) rfl (by kernel_rfl) (by kernel_rfl) (by kernel_rfl) (by kernel_rfl) (fun _ _ _ h => h) (Or.inr ⟨by rfl, rfl⟩) ⟨k20, k21, k22, k23, k24, k25⟩ ?_
    (try simp only [Act.put, q4, q5, q6, q1, q2, q3])
    refine AnyTill.take (i := 29) (v := undef) rfl (by kernel_rfl) (by kernel_rfl) (by kernel_rfl) (by kernel_rfl) (fun _ _ _ h => h) (Or.inr ⟨by rfl, rfl⟩) ⟨k20, k21, k22, k23, k24, k25⟩ ?_
    (try simp only [Act.put, q4, q5, q6, q1, q2, q3])
    refine AnyTill.take (i := 30) (v := ?_) rfl (by kernel_rfl) (by kernel_rfl) (by kernel_rfl) (by kernel_rfl) (fun _ _ _ h => h) (Or.inl ⟨by rfl, ?_⟩) ⟨k20, k21, k22, k23, k24, k25⟩ ?_
    rotate_left
    ·(intro w hSw; (try dsimp only at hSw); go_simp; (try with_reducible rfl))
    (try simp only [Act.put, q4, q5, q6, q1, q2, q3])
    refine AnyTill.done (by kernel_rfl) ?_ _
    (try simp only [Act.put, q4, q5, q6, q1, q2, q3])
    clear k10 k11 k12 k13 k14 k15 k20 k21 k22 k23 k24 k25
    go_wp2_with fail
    go_ret
    exact ⟨rfl, D_2.out⟩
   subst hl2
   have D_2 := hidden (D_1.out.trans (hb.mono D_1.out.size))
   have T_2 := hidden (T_1.out.below hb)
   have B_02 : Hid (Only (Own3 (w3.heap.size + 2) w3.heap.size (w3.heap.size + 1)) wr.drew v2) := B_01.out.trans (Only.of_below hb)
   have Z_2 : Hid (w6.heap.size ≤ v2.heap.size) := Nat.le_trans Z_1.out hb.size
   have X2 := hidden (X1.out.beneath hb (Nat.le_refl _))
   have Y2 := hidden hr2
   have YF := hidden (And.intro hz2 (And.intro hm2 hd2))
   clear hb hr2 hz2 hm2 hd2
   obtain ⟨k20, k21, k22, k23, k24, k25⟩ := CK.out _ D_2.out
   refine hK9.out _ _ (fun _ => ⟨k20, k21, k22, k23, k24, k25⟩) ?_
   clear hK9 K9
   (try simp only [Act.put, q4, q5, q6, q1, q2, q3])
   clear k10 k11 k12 k13 k14 k15
   refine AnyTill.take (i := 14) (v := ?_) rfl (by kernel_rfl) (by kernel_rfl) (by kernel_rfl) (by kernel_rfl) (fun _ _ _ h => h) (Or.inl ⟨by rfl, ?_⟩) ⟨k20, k21, k22, k23, k24, k25⟩ ?_
   rotate_left
   ·(intro w hSw; (try dsimp only at hSw); go_simp; (try with_reducible rfl))
   (try simp only [Act.put, q4, q5, q6, q1, q2, q3])
   refine AnyTill.take (i := 15) (v := ?_) rfl (by kernel_rfl) (by kernel_rfl) (by kernel_rfl) (by kernel_rfl) (fun _ _ _ h => h) (Or.inl ⟨by rfl, ?_⟩) ⟨k20, k21, k22, k23, k24, k25⟩ ?_
   rotate_left
   ·(intro w hSw; (try dsimp only at hSw); go_simp; (try with_reducible rfl))
   (try simp only [Act.put, q4, q5, q6, q1, q2, q3])
   refine AnyTill.take (i := 16) (v := ?_) rfl (by kernel_rfl) (by kernel_rfl) (by kernel_rfl) (by kernel_rfl) (fun _ _ _ h => h) (Or.inl ⟨by rfl, ?_⟩) ⟨k20, k21, k22, k23, k24, k25⟩ ?_
   rotate_left
   ·(intro w hSw; (try dsimp only at hSw); go_simp; (try with_reducible rfl))
   (try simp only [Act.put, q4, q5, q6, q1, q2, q3])
   refine AnyTill.take (i := 17) (v := ?_) rfl (by kernel_rfl) (by kernel_rfl) (by kernel_rfl) (by kernel_rfl) (fun _ _ _ h => h) (Or.inl ⟨by rfl, ?_⟩) ⟨k20, k21, k22, k23, k24, k25⟩ ?_
   rotate_left
   ·(intro w hSw; (try dsimp only at hSw); go_simp; (try with_reducible rfl))
   (try simp only [Act.put, q4, q5, q6, q1, q2, q3])
   refine AnyTill.take (i := 18) (v := ?_) rfl (by kernel_rfl) (by kernel_rfl) (by kernel_rfl) (by kernel_rfl) (fun _ _ _ h => h) (Or.inl ⟨by rfl, ?_⟩) ⟨k20, k21, k22, k23, k24, k25⟩ ?_
   rotate_left
   ·(intro w hSw; (try dsimp only at hSw); go_simp; (try with_reducible rfl))
   (try simp only [Act.put, q4, q5, q6, q1, q2, q3])
   refine AnyTill.take (i := 19) (v := ?_) rfl (by kernel_rfl) (by kernel_rfl) (by kernel_rfl) (by kernel_rfl) (fun _ _ _ h => h) (Or.inl ⟨by rfl, ?_⟩) ⟨k20, k21, k22, k23, k24, k25⟩ ?_
   rotate_left
   ·(intro w hSw; (try dsimp only at hSw); go_simp; (try with_reducible rfl))
   (try simp only [Act.put, q4, q5, q6, q1, q2, q3])
   refine AnyTill.take (i := 20) (v := ?_) rfl (by kernel_rfl) (by kernel_rfl) (by kernel_rfl) (by kernel_rfl) (fun _ _ _ h => h) (Or.inl ⟨by rfl, ?_⟩) ⟨k20, k21, k22, k23, k24, k25⟩ ?_
   rotate_left
   ·(intro w hSw; (try dsimp only at hSw); go_simp; (try with_reducible rfl))
   (try simp only [Act.put, q4, q5, q6, q1, q2, q3])
   refine AnyTill.take (i := 21) (v := ?_) rfl (by kernel_rfl) (by kernel_rfl) (by kernel_rfl) (by kernel_rfl) (fun _ _ _ h => h) (Or.inl ⟨by rfl, ?_⟩) ⟨k20, k21, k22, k23, k24, k25⟩ ?_
   rotate_left
   ·(intro w hSw; (try dsimp only at hSw); go_simp; (try with_reducible rfl))
   (try simp only [Act.put, q4, q5, q6, q1, q2, q3])
   refine AnyTill.take (i := 22) (v := ?_) rfl (by kernel_rfl) (by kernel_rfl) (by kernel_rfl) (by kernel_rfl) (fun _ _ _ h => h) (Or.inl ⟨by rfl, ?_⟩) ⟨k20, k21, k22, k23, k24, k25⟩ ?_
   rotate_left
   ·(intro w hSw; (try dsimp only at hSw); go_simp; (try with_reducible rfl))
   (try simp only [Act.put, q4, q5, q6, q1, q2, q3])
   refine AnyTill.take (i := 23) (v := ?_) rfl (by kernel_rfl) (by kernel_rfl) (by kernel_rfl) (by kernel_rfl) (fun _ _ _ h => h) (Or.inl ⟨by rfl, ?_⟩) ⟨k20, k21, k22, k23, k24, k25⟩ ?_
   rotate_left
   ·(intro w hSw; (try dsimp only at hSw); go_simp; (try with_reducible rfl))
   (try simp only [Act.put, q4, q5, q6, q1, q2, q3])
   refine AnyTill.take (i := 24) (v := ?_) rfl (by kernel_rfl) (by kernel_rfl) (by kernel_rfl) (by kernel_rfl) (fun _ _ _ h => h) (Or.inl ⟨by rfl, ?_⟩) ⟨k20, k21, k22, k23, k24, k25⟩ ?_
   rotate_left
   ·(intro w hSw; (try dsimp only at hSw); go_simp; (try with_reducible rfl))
   (try simp only [Act.put, q4, q5, q6, q1, q2, q3])
   refine AnyTill.take (i := 25) (v := ?_) rfl (by kernel_rfl) (by kernel_rfl) (by kernel_rfl) (by kernel_rfl) (fun _ _ _ h => h) (Or.inl ⟨by rfl, ?_⟩) ⟨k20, k21, k22, k23, k24, k25⟩ ?_
   rotate_left
   ·(intro w hSw; (try dsimp only at hSw); go_simp; (try with_reducible rfl))
   (try simp only [Act.put, q4, q5, q6, q1, q2, q3])
   refine AnyTill.take (i := 26) (v := ?_) rfl (by kernel_rfl) (by kernel_rfl) (by kernel_rfl) (by kernel_rfl) (fun _ _ _ h => h) (Or.inl ⟨by rfl, ?_⟩) ⟨k20, k21, k22, k23, k24, k25⟩ ?_
   rotate_left
   ·(intro w hSw; (try dsimp only at hSw); go_simp; (try with_reducible rfl))
   (try simp only [Act.put, q4, q5, q6, q1, q2, q3])
   refine AnyTill.take (i := 27) (v := ?_) rfl (by kernel_rfl) (by kernel_rfl) (by kernel_rfl) (by kernel_rfl) (fun _ _ _ h => h) (Or.inl ⟨by rfl, ?_⟩) ⟨k20, k21, k22, k23, k24, k25⟩ ?_
   rotate_left
   ·(intro w hSw; (try dsimp only at hSw); go_simp; (try with_reducible rfl))
   (try simp only [Act.put, q4, q5, q6, q1, q2, q3])
   have es1x : s1x = (⟨s1x.toList.toArray⟩ : ByteArray) := by rw [Go.ByteArray.toList_eq]
   have es2x : s2x = (⟨s2x.toList.toArray⟩ : ByteArray) := by rw [Go.ByteArray.toList_eq]
   have HUN := unify_n (A := fun g => g < w3.heap.size) (fun g hg => by have h9 := Z_2.out; omega) T_2.out (x := .mk V1x s1x.toList L1x) (y := .mk V2x s2x.toList L2x) c1x c2x XF.out.2.1 YF.out.2.1 (by have h9 := XF.out.1; have h8 := YF.out.1; omega) XF.out.2.2 YF.out.2.2 (X2.out.mono (fun g hg _ e => by have h8 := HOW1.out _ e; have h7 := S_3.out; omega)) (Y2.out.mono (fun g hg _ e => by have h8 := HOW1.out _ e; have h7 := S_3.out; omega)) (by have h9 := XF.out.1; have h8 := YF.out.1; omega)
   simp only [Rw.V, Rw.S, Rw.L] at HUN
   rw [← es1x, ← es2x] at HUN
   clear es1x es2x
   have HUH := hidden HUN
   clear HUN
   refine AnyTill.one (i := 28) (by kernel_rfl) rfl (fun K9 hK9 => ?_)
   (try simp only [q1, q2, q3])
   (first | rw [if_pos (by rfl)] | skip)
   go_simp
   refine HUH.out.mono ?_
   intro e v3 h9
   obtain ⟨ev, rfl, g1, h9⟩ := h9.num
   clear HUH
   have D_3x : Hid (Below w.heap.size w v3) := ((Only.of_below D_2.out).trans (g1.mono (S' := fun g => w.heap.size ≤ g) (fun g _ e => by have h8 := HOW1.out _ e; have h7 := S_3.out; omega))).toBelow (fun g hg => hg)
   have O_3x := hidden g1
   obtain ⟨k30, k31, k32, k33, k34, k35⟩ := CK.out _ D_3x.out
   refine hK9.out _ _ (fun _ => ⟨k30, k31, k32, k33, k34, k35⟩) ?_
   clear hK9 K9
   (try simp only [Act.put, q4, q5, q6, q1, q2, q3])
   clear k20 k21 k22 k23 k24 k25 g1
   have hcases : ev = 0 ∧ (∃ ρ', GoodR ρ' ∧ TBn (fun g => g < w3.heap.size) v3 (w3.heap.size + 2) w3.heap.size (w3.heap.size + 1) (m + 4000) ρ') ∨ ev ≠ 0 := by
    rcases h9 with ⟨h9, _⟩ | ⟨_, _, ⟨c', _, h9, _⟩ | ⟨ρ', hu, h9, hT9⟩⟩
    ·exact Or.inr (by omega)
    ·exact Or.inr (by omega)
    ·refine Or.inl ⟨h9, ρ', un_good hu rfl HGR.out (fun p hp => ?_), ?_⟩
     ·rw [List.mem_singleton.1 hp]
      exact ⟨Rw.good _ XF.out.2.1, Rw.good _ YF.out.2.1⟩
     ·obtain ⟨F, hF1, hF2⟩ := hT9
      exact ⟨F, by have h8 := XF.out.1; have h7 := YF.out.1; omega, hF2⟩
   clear h9
   rcases hcases with ⟨rfl, ρ', hgr', hT'⟩ | hne
   ·have HG' := hidden hgr'
    have HT' := hidden hT'
    clear hgr' hT'
    refine AnyTill.take (i := 29) (v := ?_) rfl (by kernel_rfl) (by kernel_rfl) (by kernel_rfl) (by kernel_rfl) (fun _ _ _ h => h) (Or.inl ⟨by rfl, ?_⟩) ⟨k30, k31, k32, k33, k34, k35⟩ ?_
    rotate_left
    ·(intro w hSw; (try dsimp only at hSw); go_simp; (try with_reducible rfl))
    (try simp only [Act.put, q4, q5, q6, q1, q2, q3])
    refine AnyTill.take (i := 30) (v := ?_) rfl (by kernel_rfl) (by kernel_rfl) (by kernel_rfl) (by kernel_rfl) (fun _ _ _ h => h) (Or.inl ⟨by rfl, ?_⟩) ⟨k30, k31, k32, k33, k34, k35⟩ ?_
    rotate_left
    ·(intro w hSw; (try dsimp only at hSw); go_simp; (try with_reducible rfl))
    (try simp only [Act.put, q4, q5, q6, q1, q2, q3])
    refine AnyTill.done (by kernel_rfl) ?_ _
    (try simp only [Act.put, q4, q5, q6, q1, q2, q3])
    clear k30 k31 k32 k33 k34 k35
    go_wp2_with fail
    go_roundw
    case rel => exact ⟨k + 1, m + 4000, ρ', by omega, by go_num, by omega, HG'.out, HT'.out, ((O_67.out.trans (Only.of_below (drew_below10 wr))).trans B_02.out).trans O_3x.out⟩
    case measure => simp [intOf]; omega
   ·have zne : (ev != 0) = true := bne_iff_ne.2 hne
    have zne2 : (ev == 0) = false := beq_eq_false_iff_ne.2 hne
    refine AnyTill.take (i := 29) (v := ?_) rfl (by kernel_rfl) (by kernel_rfl) (by kernel_rfl) (by kernel_rfl) (fun _ _ _ h => h) (Or.inl ⟨by rfl, ?_⟩) ⟨k30, k31, k32, k33, k34, k35⟩ ?_
    rotate_left
    ·(intro w hSw; (try dsimp only at hSw); go_simp; (try with_reducible rfl))
    (try simp only [Act.put, q4, q5, q6, q1, q2, q3])
    refine AnyTill.take (i := 30) (v := ?_) rfl (by kernel_rfl) (by kernel_rfl) (by kernel_rfl) (by kernel_rfl) (fun _ _ _ h => h) (Or.inl ⟨by rfl, ?_⟩) ⟨k30, k31, k32, k33, k34, k35⟩ ?_
    rotate_left
    ·(intro w hSw; (try dsimp only at hSw); go_simp; (try with_reducible rfl))
    (try simp only [Act.put, q4, q5, q6, q1, q2, q3])
    refine AnyTill.done (by kernel_rfl) ?_ _
    (try simp only [Act.put, q4, q5, q6, q1, q2, q3])
    clear k30 k31 k32 k33 k34 k35
    go_wp2_with fail
    go_ret
    exact ⟨rfl, D_3x.out⟩
  ·have z1 : ¬ (k : Int) < (pn : Int) := by omega
   have hm2 : m ≤ 100000 := by omega
   clear hk hlt hm
   obtain ⟨n, hn⟩ : ∃ n, (x.ty.ap ρ).sz = n := ⟨_, rfl⟩
   obtain ⟨ny, hny⟩ : ∃ ny, (y.ty.ap ρ).sz = ny := ⟨_, rfl⟩
   have HNX := hidden hn
   have HNY := hidden hny
   clear hn hny
   have em1 : ((400 : Nat) : Int) = 400 := rfl
   have em2 : ((401 : Nat) : Int) = 401 := rfl
   obtain ⟨a0, a1, a2, af⟩ := A_7.out.cells
   obtain ⟨b0, b1, b2, bf⟩ := C_7.out.cells
   have HS := hidden (size_n T_7.out (x := x) c1 XE.out.2.1 (by omega) XE.out.2.2 (X_7.out.mono (fun g hg _ e => by have h8 := HOW1.out _ e; have h7 := S_3.out; omega)) (by omega) (most := 400) (by omega))
   rw [HNX.out] at HS
   by_cases hg : 400 < n
   ·rw [show min n (400 + 1) = 401 from by omega, em1, em2] at HS
    clear em1 em2
    go_wp2_with fail
    refine HS.out.mono ?_
    rintro e w8 ⟨rfl, g2, g1⟩
    have A_8 : Hid (B3 w8 w.heap.size x.V ⟨x.S.toArray⟩ (.slice al1 x.L.length c1)) := A_7.out.keep (g1.block _ A_7.out.lt (fun e => by have h8 := HOW1.out _ e; have h7 := S_3.out; omega))
    have C_8 : Hid (B3 w8 (w.heap.size + 1) y.V ⟨y.S.toArray⟩ (.slice al2 y.L.length c2)) := C_7.out.keep (g1.block _ C_7.out.lt (fun e => by have h8 := HOW1.out _ e; have h7 := S_3.out; omega))
    have X_8 : Hid (RT (fun g => g < w.heap.size) w8 x.L al1) := X_7.out.keep (fun g hg hl => g1.block g hl (fun e => by have h8 := HOW1.out _ e; have h7 := S_3.out; omega))
    have Y_8 : Hid (RT (fun g => g < w.heap.size) w8 y.L al2) := Y_7.out.keep (fun g hg hl => g1.block g hl (fun e => by have h8 := HOW1.out _ e; have h7 := S_3.out; omega))
    have D_8 : Hid (Below w.heap.size w w8) := ((Only.of_below D_7.out).trans (g1.mono (S' := fun g => w.heap.size ≤ g) (fun g _ e => by have h8 := HOW1.out _ e; have h7 := S_3.out; omega))).toBelow (fun g hg => hg)
    clear g1 g2
    clear a0 a1 a2 af b0 b1 b2 bf
    go_wp2_with fail
    go_ret
    exact ⟨rfl, D_8.out⟩
   rw [show min n (400 + 1) = n from by omega, em1] at HS
   have zn : ¬ (400 : Int) < (n : Int) := by omega
   have em1 : ((400 : Nat) : Int) = 400 := rfl
   go_wp2_with fail
   refine HS.out.mono ?_
   rintro e w8 ⟨rfl, g2, g1⟩
   have A_8 : Hid (B3 w8 w.heap.size x.V ⟨x.S.toArray⟩ (.slice al1 x.L.length c1)) := A_7.out.keep (g1.block _ A_7.out.lt (fun e => by have h8 := HOW1.out _ e; have h7 := S_3.out; omega))
   have C_8 : Hid (B3 w8 (w.heap.size + 1) y.V ⟨y.S.toArray⟩ (.slice al2 y.L.length c2)) := C_7.out.keep (g1.block _ C_7.out.lt (fun e => by have h8 := HOW1.out _ e; have h7 := S_3.out; omega))
   have X_8 : Hid (RT (fun g => g < w.heap.size) w8 x.L al1) := X_7.out.keep (fun g hg hl => g1.block g hl (fun e => by have h8 := HOW1.out _ e; have h7 := S_3.out; omega))
   have Y_8 : Hid (RT (fun g => g < w.heap.size) w8 y.L al2) := Y_7.out.keep (fun g hg hl => g1.block g hl (fun e => by have h8 := HOW1.out _ e; have h7 := S_3.out; omega))
   have D_8 : Hid (Below w.heap.size w w8) := ((Only.of_below D_7.out).trans (g1.mono (S' := fun g => w.heap.size ≤ g) (fun g _ e => by have h8 := HOW1.out _ e; have h7 := S_3.out; omega))).toBelow (fun g hg => hg)
   have T_8 := hidden g2
   have hs78 := g1.size
   clear g1 g2 HS A_7 C_7 X_7 Y_7 D_7 T_7
   clear a0 a1 a2 af b0 b1 b2 bf
   obtain ⟨a0, a1, a2, af⟩ := A_8.out.cells
   obtain ⟨b0, b1, b2, bf⟩ := C_8.out.cells
   have HS := hidden (size_n T_8.out (x := y) c2 YE.out.2.1 (by omega) YE.out.2.2 (Y_8.out.mono (fun g hg _ e => by have h8 := HOW1.out _ e; have h7 := S_3.out; omega)) (by omega) (most := 400) (by omega))
   rw [HNY.out] at HS
   by_cases hgy : 400 < ny
   ·rw [show min ny (400 + 1) = 401 from by omega, show ((400 : Nat) : Int) = 400 from rfl, show ((401 : Nat) : Int) = 401 from rfl] at HS
    clear em1 em2
    go_wp2_with fail
    refine HS.out.mono ?_
    rintro e w9 ⟨rfl, g2, g1⟩
    have A_9 : Hid (B3 w9 w.heap.size x.V ⟨x.S.toArray⟩ (.slice al1 x.L.length c1)) := A_8.out.keep (g1.block _ A_8.out.lt (fun e => by have h8 := HOW1.out _ e; have h7 := S_3.out; omega))
    have C_9 : Hid (B3 w9 (w.heap.size + 1) y.V ⟨y.S.toArray⟩ (.slice al2 y.L.length c2)) := C_8.out.keep (g1.block _ C_8.out.lt (fun e => by have h8 := HOW1.out _ e; have h7 := S_3.out; omega))
    have X_9 : Hid (RT (fun g => g < w.heap.size) w9 x.L al1) := X_8.out.keep (fun g hg hl => g1.block g hl (fun e => by have h8 := HOW1.out _ e; have h7 := S_3.out; omega))
    have Y_9 : Hid (RT (fun g => g < w.heap.size) w9 y.L al2) := Y_8.out.keep (fun g hg hl => g1.block g hl (fun e => by have h8 := HOW1.out _ e; have h7 := S_3.out; omega))
    have D_9 : Hid (Below w.heap.size w w9) := ((Only.of_below D_8.out).trans (g1.mono (S' := fun g => w.heap.size ≤ g) (fun g _ e => by have h8 := HOW1.out _ e; have h7 := S_3.out; omega))).toBelow (fun g hg => hg)
    clear g1 g2
    clear a0 a1 a2 af b0 b1 b2 bf
    go_wp2_with fail
    go_ret
    exact ⟨rfl, D_9.out⟩
   rw [show min ny (400 + 1) = ny from by omega, show ((400 : Nat) : Int) = 400 from rfl] at HS
   have zny : ¬ (400 : Int) < (ny : Int) := by omega
   clear em1 em2
   go_wp2_with fail
   refine HS.out.mono ?_
   rintro e w9 ⟨rfl, g2, g1⟩
   have A_9 : Hid (B3 w9 w.heap.size x.V ⟨x.S.toArray⟩ (.slice al1 x.L.length c1)) := A_8.out.keep (g1.block _ A_8.out.lt (fun e => by have h8 := HOW1.out _ e; have h7 := S_3.out; omega))
   have C_9 : Hid (B3 w9 (w.heap.size + 1) y.V ⟨y.S.toArray⟩ (.slice al2 y.L.length c2)) := C_8.out.keep (g1.block _ C_8.out.lt (fun e => by have h8 := HOW1.out _ e; have h7 := S_3.out; omega))
   have X_9 : Hid (RT (fun g => g < w.heap.size) w9 x.L al1) := X_8.out.keep (fun g hg hl => g1.block g hl (fun e => by have h8 := HOW1.out _ e; have h7 := S_3.out; omega))
   have Y_9 : Hid (RT (fun g => g < w.heap.size) w9 y.L al2) := Y_8.out.keep (fun g hg hl => g1.block g hl (fun e => by have h8 := HOW1.out _ e; have h7 := S_3.out; omega))
   have D_9 : Hid (Below w.heap.size w w9) := ((Only.of_below D_8.out).trans (g1.mono (S' := fun g => w.heap.size ≤ g) (fun g _ e => by have h8 := HOW1.out _ e; have h7 := S_3.out; omega))).toBelow (fun g hg => hg)
   have T_9 := hidden g2
   have hs89 := g1.size
   clear g1 g2 HS A_8 C_8 X_8 Y_8 D_8 T_8
   clear a0 a1 a2 af b0 b1 b2 bf
   obtain ⟨a0, a1, a2, af⟩ := A_9.out.cells
   obtain ⟨b0, b1, b2, bf⟩ := C_9.out.cells
   have HR := hidden (res_n T_9.out (x := x) c1 XE.out.2.1 (by omega) XE.out.2.2 (X_9.out.mono (fun g hg _ e => by have h8 := HOW1.out _ e; have h7 := S_3.out; omega)) (by omega))
   obtain ⟨z, hz⟩ : ∃ z, (x.ty.ap ρ).rw = z := ⟨_, rfl⟩
   rw [hz] at HR
   have HZ := hidden hz
   have HZS : Hid (z.sz = n) := by show _ = _; rw [← hz, Ty.sz_rw, HNX.out]
   clear hz
   go_wp2_with fail
   refine HR.out.mono ?_
   rintro e w10 ⟨zl, zc, rfl, g2, g3, g1, g4⟩
   have A_10 : Hid (B3 w10 w.heap.size x.V ⟨x.S.toArray⟩ (.slice al1 x.L.length c1)) := A_9.out.keep (g1.block _ A_9.out.lt (fun e => by have h8 := HOW1.out _ e; have h7 := S_3.out; omega))
   have C_10 : Hid (B3 w10 (w.heap.size + 1) y.V ⟨y.S.toArray⟩ (.slice al2 y.L.length c2)) := C_9.out.keep (g1.block _ C_9.out.lt (fun e => by have h8 := HOW1.out _ e; have h7 := S_3.out; omega))
   have X_10 : Hid (RT (fun g => g < w.heap.size) w10 x.L al1) := X_9.out.keep (fun g hg hl => g1.block g hl (fun e => by have h8 := HOW1.out _ e; have h7 := S_3.out; omega))
   have Y_10 : Hid (RT (fun g => g < w.heap.size) w10 y.L al2) := Y_9.out.keep (fun g hg hl => g1.block g hl (fun e => by have h8 := HOW1.out _ e; have h7 := S_3.out; omega))
   have D_10 : Hid (Below w.heap.size w w10) := ((Only.of_below D_9.out).trans (g1.mono (S' := fun g => w.heap.size ≤ g) (fun g _ e => by have h8 := HOW1.out _ e; have h7 := S_3.out; omega))).toBelow (fun g hg => hg)
   have T_10 := hidden g2
   have R_10 := hidden g3
   have BZ := hidden g4
   have hs910 := g1.size
   have HOL9 : Hid (∀ g, Own3 (w3.heap.size + 2) w3.heap.size (w3.heap.size + 1) g → g < w9.heap.size) := fun g hg => by have h9 := HOL1.out g hg; omega
   clear g1 g2 g3 g4 HR A_9 C_9 X_9 Y_9 D_9 T_9
   clear a0 a1 a2 af b0 b1 b2 bf
   go_upto_region 17 with fail
   have A_11 := hidden (A_10.out.alloc (.cells #[.int .i64 z.V, .string ⟨z.S.toArray⟩, .slice zl z.L.length zc] 24))
   have C_11 := hidden (C_10.out.alloc (.cells #[.int .i64 z.V, .string ⟨z.S.toArray⟩, .slice zl z.L.length zc] 24))
   have X_11 := hidden (X_10.out.alloc (.cells #[.int .i64 z.V, .string ⟨z.S.toArray⟩, .slice zl z.L.length zc] 24))
   have Y_11 := hidden (Y_10.out.alloc (.cells #[.int .i64 z.V, .string ⟨z.S.toArray⟩, .slice zl z.L.length zc] 24))
   have D_11 := hidden (D_10.out.alloc D_10.out.size (.cells #[.int .i64 z.V, .string ⟨z.S.toArray⟩, .slice zl z.L.length zc] 24))
   have T_11 := hidden (T_10.out.alloc (.cells #[.int .i64 z.V, .string ⟨z.S.toArray⟩, .slice zl z.L.length zc] 24)).drew
   have R_11 := hidden (R_10.out.alloc (.cells #[.int .i64 z.V, .string ⟨z.S.toArray⟩, .slice zl z.L.length zc] 24))
   have P_11 := hidden (B3.new w10 z.V ⟨z.S.toArray⟩ (.slice zl z.L.length zc))
   have hs1011 := Nat.le_of_lt (show w10.heap.size < (w10.alloc (.cells #[.int .i64 z.V, .string ⟨z.S.toArray⟩, .slice zl z.L.length zc] 24)).heap.size by rw [nblk_alloc]; omega)
   generalize w10.alloc (.cells #[.int .i64 z.V, .string ⟨z.S.toArray⟩, .slice zl z.L.length zc] 24) = w11 at *
   clear A_10 C_10 X_10 Y_10 D_10 T_10 R_10
   have HR2 := hidden (res_n T_11.out (x := y) c2 YE.out.2.1 (by omega) YE.out.2.2 ((Y_11.out.keep (w' := w11.drew) (fun _ _ _ => rfl)).mono (fun g hg _ e => by have h8 := HOW1.out _ e; have h7 := S_3.out; omega)) (by omega))
   obtain ⟨z2, hz2⟩ : ∃ z2, (y.ty.ap ρ).rw = z2 := ⟨_, rfl⟩
   rw [hz2] at HR2
   have HZ2 := hidden hz2
   clear hz2
   obtain ⟨p00, p01, p02, pf0⟩ := P_11.out.cells
   obtain ⟨b00, b01, b02, bf0⟩ := C_11.out.cells
   clear pf0 bf0
   refine region_till (S := (fun w' => w'.cell? ⟨w10.heap.size, 0, none⟩ = some (.int .i64 z.V) ∧ w'.cell? ⟨w10.heap.size, 1, none⟩ = some (.string ⟨z.S.toArray⟩) ∧ w'.cell? ⟨w10.heap.size, 2, none⟩ = some (.slice zl z.L.length zc) ∧ w'.cell? ⟨w.heap.size + 1, 0, none⟩ = some (.int .i64 y.V) ∧ w'.cell? ⟨w.heap.size + 1, 1, none⟩ = some (.string ⟨y.S.toArray⟩) ∧ w'.cell? ⟨w.heap.size + 1, 2, none⟩ = some (.slice al2 y.L.length c2))) (kz := 99) (by kernel_rfl) ⟨p00, p01, p02, b00, b01, b02⟩ (fun hHeld => ?_)
   refine AnyTill.tk (i := 0) (v := ?_) hHeld ?_ ?_
   rotate_left
   ·(intro w hSw; (try dsimp only at hSw); go_simp; (try with_reducible rfl))
   (try simp only [Act.put, q4, q5, q6, q1, q2, q3])
   refine AnyTill.tk (i := 1) (v := ?_) hHeld ?_ ?_
   rotate_left
   ·(intro w hSw; (try dsimp only at hSw); go_simp; (try with_reducible rfl))
   (try simp only [Act.put, q4, q5, q6, q1, q2, q3])
   refine AnyTill.tk (i := 2) (v := ?_) hHeld ?_ ?_
   rotate_left
   ·(intro w hSw; (try dsimp only at hSw); go_simp; (try with_reducible rfl))
   (try simp only [Act.put, q4, q5, q6, q1, q2, q3])
   refine AnyTill.one (i := 3) (by kernel_rfl) rfl (fun K9 hK9 => ?_)
   (try simp only [q1, q2, q3])
   (first | rw [if_pos (by rfl)] | skip)
   go_simp
   refine HR2.out.mono ?_
   rintro e v1 ⟨al9, cp9, rfl, g2, g3, g1, g4⟩
   have P_12 : Hid (B3 v1 w10.heap.size z.V ⟨z.S.toArray⟩ (.slice zl z.L.length zc)) := P_11.out.keep ((g1.block _ (show _ < w11.heap.size from P_11.out.lt) (fun e => by have h8 := HOL9.out _ e; omega)).trans rfl)
   have C_12 : Hid (B3 v1 (w.heap.size + 1) y.V ⟨y.S.toArray⟩ (.slice al2 y.L.length c2)) := C_11.out.keep ((g1.block _ (show _ < w11.heap.size from C_11.out.lt) (fun e => by have h8 := HOW1.out _ e; have h7 := S_3.out; omega)).trans rfl)
   have A_12 : Hid (B3 v1 w.heap.size x.V ⟨x.S.toArray⟩ (.slice al1 x.L.length c1)) := A_11.out.keep ((g1.block _ (show _ < w11.heap.size from A_11.out.lt) (fun e => by have h8 := HOW1.out _ e; have h7 := S_3.out; omega)).trans rfl)
   have X_12 : Hid (RT (fun g => g < w.heap.size) v1 x.L al1) := (X_11.out.keep (w' := w11.drew) (fun _ _ _ => rfl)).keep (fun g hg hl => g1.block g hl (fun e => by have h8 := HOW1.out _ e; have h7 := S_3.out; omega))
   have Y_12 : Hid (RT (fun g => g < w.heap.size) v1 y.L al2) := (Y_11.out.keep (w' := w11.drew) (fun _ _ _ => rfl)).keep (fun g hg hl => g1.block g hl (fun e => by have h8 := HOW1.out _ e; have h7 := S_3.out; omega))
   have R_12 : Hid (RT (fun g => w9.heap.size ≤ g) v1 z.L zl) := (R_11.out.keep (w' := w11.drew) (fun _ _ _ => rfl)).keep (fun g hg hl => g1.block g hl (fun e => by have h8 := HOL9.out _ e; omega))
   have D_12 : Hid (Below w.heap.size w v1) := ((Only.of_below D_11.out).trans (((Only.refl (Own3 (w3.heap.size + 2) w3.heap.size (w3.heap.size + 1)) w11).drewN 1).trans g1 |>.mono (S' := fun g => w.heap.size ≤ g) (fun g _ e => by have h8 := HOW1.out _ e; have h7 := S_3.out; omega))).toBelow (fun g hg => hg)
   have Q_12 := hidden g3
   have hs12 : w11.heap.size ≤ v1.heap.size := g1.size
   clear g1 g2 g3 g4 HR2 A_11 C_11 X_11 Y_11 D_11 T_11 R_11 P_11
   obtain ⟨p10, p11, p12, pf1⟩ := P_12.out.cells
   obtain ⟨b10, b11, b12, bf1⟩ := C_12.out.cells
   clear pf1 bf1
   refine hK9.out _ _ (fun _ => ⟨p10, p11, p12, b10, b11, b12⟩) ?_
   clear hK9 K9
   (try simp only [Act.put, q4, q5, q6, q1, q2, q3])
   clear p00 p01 p02 b00 b01 b02
   refine AnyTill.one (i := 4) (by kernel_rfl) rfl (fun K9 hK9 => ?_)
   (try simp only [q1, q2, q3])
   (first | rw [if_pos (by rfl)] | skip)
   go_simp
   refine (rsame10 n z z2 (Nat.le_of_eq HZS.out) (by omega) v1 zl al9 zc cp9 R_12.out Q_12.out).mono ?_
   rintro e v2 ⟨bs, rfl, hbs, hb⟩
   have P_13 := hidden (P_12.out.below hb (Nat.le_refl _))
   have C_13 := hidden (C_12.out.below hb (Nat.le_refl _))
   have A_13 := hidden (A_12.out.below hb (Nat.le_refl _))
   have X_13 := hidden (X_12.out.beneath hb (Nat.le_refl _))
   have Y_13 := hidden (Y_12.out.beneath hb (Nat.le_refl _))
   have R_13 := hidden (R_12.out.beneath hb (Nat.le_refl _))
   have D_13 := hidden (D_12.out.trans (hb.mono D_12.out.size))
   have hs13 := hb.size
   have HBS := hidden hbs
   clear hb hbs P_12 C_12 A_12 X_12 Y_12 R_12 D_12 Q_12
   obtain ⟨p20, p21, p22, pf2⟩ := P_13.out.cells
   obtain ⟨b20, b21, b22, bf2⟩ := C_13.out.cells
   clear pf2 bf2
   refine hK9.out _ _ (fun _ => ⟨p20, p21, p22, b20, b21, b22⟩) ?_
   clear hK9 K9
   (try simp only [Act.put, q4, q5, q6, q1, q2, q3])
   clear p10 p11 p12 b10 b11 b12
   refine AnyTill.take (i := 5) (v := ?_) rfl (by kernel_rfl) (by kernel_rfl) (by kernel_rfl) (by kernel_rfl) (fun _ _ _ h => h) (Or.inl ⟨by rfl, ?_⟩) ⟨p20, p21, p22, b20, b21, b22⟩ ?_
   rotate_left
   ·(intro w hSw; (try dsimp only at hSw); go_simp; (try with_reducible rfl))
   (try simp only [Act.put, q4, q5, q6, q1, q2, q3])
   refine AnyTill.done (by kernel_rfl) ?_ _
   (try simp only [Act.put, q4, q5, q6, q1, q2, q3])
   clear p20 p21 p22 b20 b21 b22
   cases bs with
   | false =>
    go_wp2_with fail
    go_ret
    exact ⟨rfl, D_13.out⟩
   | true =>
    have hp10 : w10.heap.size < v2.heap.size := P_13.out.lt
    have HZZ : Hid (z = z2) := HBS.out.1 rfl
    have HE : Hid (x.ty.ap ρ = y.ty.ap ρ) := by
     show _ = _
     have h9 : (x.ty.ap ρ).rw = (y.ty.ap ρ).rw := by rw [HZ.out, HZ2.out]; exact HZZ.out
     rw [← Ty.rw_ty _ (x.ty.good_ap HGR.out (x.good XE.out.2.1)), h9, Ty.rw_ty _ (y.ty.good_ap HGR.out (y.good YE.out.2.1))]
    have HN := hidden (new_n v2 (A := fun g => g < v2.heap.size) (fun g hg => hg))
    go_wp2_with fail
    refine HN.out.mono ?_
    rintro e v3 ⟨rfl, g1, hb⟩
    have HOT : Hid (∀ g, Own3 (v2.heap.size + 2) v2.heap.size (v2.heap.size + 1) g → v2.heap.size ≤ g) := fun g hg => by rcases hg with h9 | h9 | h9 <;> omega
    have HLT : Hid (∀ g, Own3 (v2.heap.size + 2) v2.heap.size (v2.heap.size + 1) g → g < v3.heap.size) := g1.lt
    have R_13b : Hid (RT (fun g => g < v2.heap.size) v2 z.L zl) := R_13.out.mono (fun g _ hl => hl)
    clear R_13
    have R_13 := R_13b
    clear R_13b
    have hb3 := Only.of_below (S := (Own3 (v2.heap.size + 2) v2.heap.size (v2.heap.size + 1))) hb
    have A_14 : Hid (B3 v3 w.heap.size x.V ⟨x.S.toArray⟩ (.slice al1 x.L.length c1)) := A_13.out.keep (hb3.block _ A_13.out.lt (fun e => by have h8 := HOT.out _ e; have h7 := S_3.out; omega))
    have C_14 : Hid (B3 v3 (w.heap.size + 1) y.V ⟨y.S.toArray⟩ (.slice al2 y.L.length c2)) := C_13.out.keep (hb3.block _ C_13.out.lt (fun e => by have h8 := HOT.out _ e; have h7 := S_3.out; omega))
    have P_14 : Hid (B3 v3 w10.heap.size z.V ⟨z.S.toArray⟩ (.slice zl z.L.length zc)) := P_13.out.keep (hb3.block _ P_13.out.lt (fun e => by have h8 := HOT.out _ e; omega))
    have X_14 : Hid (RT (fun g => g < w.heap.size) v3 x.L al1) := X_13.out.keep (fun g hg hl => hb3.block g hl (fun e => by have h8 := HOT.out _ e; have h7 := S_3.out; omega))
    have Y_14 : Hid (RT (fun g => g < w.heap.size) v3 y.L al2) := Y_13.out.keep (fun g hg hl => hb3.block g hl (fun e => by have h8 := HOT.out _ e; have h7 := S_3.out; omega))
    have R_14 : Hid (RT (fun g => g < v2.heap.size) v3 z.L zl) := R_13.out.keep (fun g hg hl => hb3.block g hl (fun e => by have h8 := HOT.out _ e; omega))
    have D_14 : Hid (Below w.heap.size w v3) := ((Only.of_below D_13.out).trans (hb3.mono (S' := fun g => w.heap.size ≤ g) (fun g _ e => by have h8 := HOT.out _ e; have h7 := S_3.out; omega))).toBelow (fun g hg => hg)
    have hs14 : v2.heap.size ≤ v3.heap.size := hb3.size
    clear A_13 C_13 P_13 X_13 Y_13 R_13 D_13
    have U_14 := hidden g1
    clear g1 hb hb3 HN
    obtain ⟨a0, a1, a2, af⟩ := A_14.out.cells
    obtain ⟨b0, b1, b2, bf⟩ := C_14.out.cells
    have HU := hidden (unify_n (A := fun g => g < v2.heap.size) (fun g hg => by omega) U_14.out (x := x) (y := y) c1 c2 XE.out.2.1 YE.out.2.1 (by omega) XE.out.2.2 YE.out.2.2 (X_14.out.mono (fun g hg _ e => by have h8 := HOT.out _ e; have h7 := S_3.out; omega)) (Y_14.out.mono (fun g hg _ e => by have h8 := HOT.out _ e; have h7 := S_3.out; omega)) (by omega))
    go_wp2_with fail
    refine HU.out.mono ?_
    intro e v4 h9
    obtain ⟨ev, rfl, g1, h9⟩ := h9.num
    have A_15 : Hid (B3 v4 w.heap.size x.V ⟨x.S.toArray⟩ (.slice al1 x.L.length c1)) := A_14.out.keep (g1.block _ A_14.out.lt (fun e => by have h8 := HOT.out _ e; have h7 := S_3.out; omega))
    have C_15 : Hid (B3 v4 (w.heap.size + 1) y.V ⟨y.S.toArray⟩ (.slice al2 y.L.length c2)) := C_14.out.keep (g1.block _ C_14.out.lt (fun e => by have h8 := HOT.out _ e; have h7 := S_3.out; omega))
    have P_15 : Hid (B3 v4 w10.heap.size z.V ⟨z.S.toArray⟩ (.slice zl z.L.length zc)) := P_14.out.keep (g1.block _ P_14.out.lt (fun e => by have h8 := HOT.out _ e; omega))
    have X_15 : Hid (RT (fun g => g < w.heap.size) v4 x.L al1) := X_14.out.keep (fun g hg hl => g1.block g hl (fun e => by have h8 := HOT.out _ e; have h7 := S_3.out; omega))
    have Y_15 : Hid (RT (fun g => g < w.heap.size) v4 y.L al2) := Y_14.out.keep (fun g hg hl => g1.block g hl (fun e => by have h8 := HOT.out _ e; have h7 := S_3.out; omega))
    have R_15 : Hid (RT (fun g => g < v2.heap.size) v4 z.L zl) := R_14.out.keep (fun g hg hl => g1.block g hl (fun e => by have h8 := HOT.out _ e; omega))
    have D_15 : Hid (Below w.heap.size w v4) := ((Only.of_below D_14.out).trans (g1.mono (S' := fun g => w.heap.size ≤ g) (fun g _ e => by have h8 := HOT.out _ e; have h7 := S_3.out; omega))).toBelow (fun g hg => hg)
    have hs15 : v3.heap.size ≤ v4.heap.size := g1.size
    clear A_14 C_14 P_14 X_14 Y_14 R_14 D_14
    clear g1 HU U_14
    clear a0 a1 a2 af b0 b1 b2 bf
    rcases h9 with ⟨hev, _⟩ | ⟨hsx, hsy, ⟨c', hu, hev, _⟩ | ⟨ρt, hu, hev, hT⟩⟩
    ·subst hev
     go_wp2_with fail
     go_ret
     exact ⟨rfl, D_15.out⟩
    ·exfalso
     obtain ⟨u9, e9, _⟩ := un_general hu (q := ρ) (fun n => rfl) (fun p hp => by rw [List.mem_singleton.1 hp]; exact HE.out)
     cases e9
    subst hev
    have HKN : Hid (Knows ρt ρ) := by
     obtain ⟨u9, e9, h8⟩ := un_general hu (q := ρ) (fun n => rfl) (fun p hp => by rw [List.mem_singleton.1 hp]; exact HE.out)
     cases e9
     exact h8
    have HGT := hidden (un_good1 hu (x.good XE.out.2.1) (y.good YE.out.2.1))
    have U_15 := hidden hT
    clear hu hT hsx hsy
    obtain ⟨nt, hnt⟩ : ∃ nt, (x.ty.ap ρt).sz = nt := ⟨_, rfl⟩
    have hle : nt ≤ n := by
     rw [← hnt, ← HNX.out, ← HKN.out.ap x.ty]
     exact (x.ty.ap ρt).sz_ap ρ
    have HNT := hidden hnt
    clear hnt
    obtain ⟨a0, a1, a2, af⟩ := A_15.out.cells
    obtain ⟨b0, b1, b2, bf⟩ := C_15.out.cells
    have HS := hidden (size_n U_15.out (x := x) c1 XE.out.2.1 (by omega) XE.out.2.2 (X_15.out.mono (fun g hg _ e => by have h8 := HOT.out _ e; have h7 := S_3.out; omega)) (by omega) (most := 400) (by omega))
    rw [HNT.out, show min nt (400 + 1) = nt from by omega, show ((400 : Nat) : Int) = 400 from rfl] at HS
    have znt : ¬ (400 : Int) < (nt : Int) := by omega
    go_wp2_with fail
    refine HS.out.mono ?_
    rintro e v5 ⟨rfl, g2, g1⟩
    have A_16 : Hid (B3 v5 w.heap.size x.V ⟨x.S.toArray⟩ (.slice al1 x.L.length c1)) := A_15.out.keep (g1.block _ A_15.out.lt (fun e => by have h8 := HOT.out _ e; have h7 := S_3.out; omega))
    have C_16 : Hid (B3 v5 (w.heap.size + 1) y.V ⟨y.S.toArray⟩ (.slice al2 y.L.length c2)) := C_15.out.keep (g1.block _ C_15.out.lt (fun e => by have h8 := HOT.out _ e; have h7 := S_3.out; omega))
    have P_16 : Hid (B3 v5 w10.heap.size z.V ⟨z.S.toArray⟩ (.slice zl z.L.length zc)) := P_15.out.keep (g1.block _ P_15.out.lt (fun e => by have h8 := HOT.out _ e; omega))
    have X_16 : Hid (RT (fun g => g < w.heap.size) v5 x.L al1) := X_15.out.keep (fun g hg hl => g1.block g hl (fun e => by have h8 := HOT.out _ e; have h7 := S_3.out; omega))
    have Y_16 : Hid (RT (fun g => g < w.heap.size) v5 y.L al2) := Y_15.out.keep (fun g hg hl => g1.block g hl (fun e => by have h8 := HOT.out _ e; have h7 := S_3.out; omega))
    have R_16 : Hid (RT (fun g => g < v2.heap.size) v5 z.L zl) := R_15.out.keep (fun g hg hl => g1.block g hl (fun e => by have h8 := HOT.out _ e; omega))
    have D_16 : Hid (Below w.heap.size w v5) := ((Only.of_below D_15.out).trans (g1.mono (S' := fun g => w.heap.size ≤ g) (fun g _ e => by have h8 := HOT.out _ e; have h7 := S_3.out; omega))).toBelow (fun g hg => hg)
    have hs16 : v4.heap.size ≤ v5.heap.size := g1.size
    clear A_15 C_15 P_15 X_15 Y_15 R_15 D_15
    have U_16 := hidden g2
    clear g1 g2 HS U_15
    clear a0 a1 a2 af b0 b1 b2 bf
    have hmm := @run_makeMap Tryd.prog
    go_upto_region 26 with fail
    clear hmm
    have hq : (v5.alloc (.map #[] 0)).heap.size = v5.heap.size + 1 := nblk_alloc _ _
    have MV_0 : Hid (MapV (v5.alloc (.map #[] 0)) v5.heap.size 0 (fun _ => none)) := MapV.made v5
    have A_17 := hidden (A_16.out.alloc (.map #[] 0))
    have C_17 := hidden (C_16.out.alloc (.map #[] 0))
    have P_17 := hidden (P_16.out.alloc (.map #[] 0))
    have X_17 := hidden (X_16.out.alloc (.map #[] 0))
    have Y_17 := hidden (Y_16.out.alloc (.map #[] 0))
    have R_17 := hidden (R_16.out.alloc (.map #[] 0))
    have D_17 := hidden (D_16.out.alloc D_16.out.size (.map #[] 0))
    have U_17 := hidden ((U_16.out.aug (A' := fun g => g < v2.heap.size ∨ g = v5.heap.size) (fun g hg => hg.imp id (fun e => by omega))).alloc (.map #[] 0)).drew
    generalize v5.alloc (.map #[] 0) = v6 at *
    clear A_16 C_16 P_16 X_16 Y_16 R_16 D_16 U_16
    have HR3 := hidden (res_n U_17.out (x := x) c1 XE.out.2.1 (by omega) XE.out.2.2 ((X_17.out.keep (w' := v6.drew) (fun _ _ _ => rfl)).mono (fun g hg _ e => by have h8 := HOT.out _ e; have h7 := S_3.out; omega)) (by omega))
    obtain ⟨g0, hg0⟩ : ∃ g0, (x.ty.ap ρt).rw = g0 := ⟨_, rfl⟩
    rw [hg0] at HR3
    have HG0 := hidden hg0
    have HGM : Hid (g0.may = true) := by show _ = _; rw [← hg0]; exact Ty.rw_may _ (x.ty.good_ap HGT.out (x.good XE.out.2.1))
    have HGT0 : Hid (g0.ty = x.ty.ap ρt) := by show _ = _; rw [← hg0]; exact Ty.rw_ty _ (x.ty.good_ap HGT.out (x.good XE.out.2.1))
    have HGS : Hid (g0.sz = nt) := by show _ = _; rw [← hg0, Ty.sz_rw]; exact HNT.out
    clear hg0
    obtain ⟨p00, p01, p02, pf0⟩ := P_17.out.cells
    obtain ⟨a00, a01, a02, af0⟩ := A_17.out.cells
    clear pf0 af0
    refine region_till (S := (fun w' => w'.cell? ⟨w10.heap.size, 0, none⟩ = some (.int .i64 z.V) ∧ w'.cell? ⟨w10.heap.size, 1, none⟩ = some (.string ⟨z.S.toArray⟩) ∧ w'.cell? ⟨w10.heap.size, 2, none⟩ = some (.slice zl z.L.length zc) ∧ w'.cell? ⟨w.heap.size, 0, none⟩ = some (.int .i64 x.V) ∧ w'.cell? ⟨w.heap.size, 1, none⟩ = some (.string ⟨x.S.toArray⟩) ∧ w'.cell? ⟨w.heap.size, 2, none⟩ = some (.slice al1 x.L.length c1))) (kz := 99) (by kernel_rfl) ⟨p00, p01, p02, a00, a01, a02⟩ (fun hHeld => ?_)
    refine AnyTill.tk (i := 0) (v := ?_) hHeld ?_ ?_
    rotate_left
    ·(intro w hSw; (try dsimp only at hSw); go_simp; (try with_reducible rfl))
    (try simp only [Act.put, q4, q5, q6, q1, q2, q3])
    refine AnyTill.tk (i := 1) (v := ?_) hHeld ?_ ?_
    rotate_left
    ·(intro w hSw; (try dsimp only at hSw); go_simp; (try with_reducible rfl))
    (try simp only [Act.put, q4, q5, q6, q1, q2, q3])
    refine AnyTill.tk (i := 3) (v := ?_) hHeld ?_ ?_
    rotate_left
    ·(intro w hSw; (try dsimp only at hSw); go_simp; (try with_reducible rfl))
    (try simp only [Act.put, q4, q5, q6, q1, q2, q3])
    refine AnyTill.tk (i := 4) (v := ?_) hHeld ?_ ?_
    rotate_left
    ·(intro w hSw; (try dsimp only at hSw); go_simp; (try with_reducible rfl))
    (try simp only [Act.put, q4, q5, q6, q1, q2, q3])
    refine AnyTill.one (i := 2) (by kernel_rfl) rfl (fun K9 hK9 => ?_)
    (try simp only [q1, q2, q3])
    (first | rw [if_pos (by rfl)] | skip)
    go_simp
    refine HR3.out.mono ?_
    rintro e v7 ⟨gl, gc, rfl, g2, g3, g1, g4⟩
    have P_18 : Hid (B3 v7 w10.heap.size z.V ⟨z.S.toArray⟩ (.slice zl z.L.length zc)) := P_17.out.keep ((g1.block _ (show _ < v6.heap.size from P_17.out.lt) (fun e => by have h8 := HOT.out _ e; omega)).trans rfl)
    have A_18 : Hid (B3 v7 w.heap.size x.V ⟨x.S.toArray⟩ (.slice al1 x.L.length c1)) := A_17.out.keep ((g1.block _ (show _ < v6.heap.size from A_17.out.lt) (fun e => by have h8 := HOT.out _ e; have h7 := S_3.out; omega)).trans rfl)
    have R_18 : Hid (RT (fun g => g < v2.heap.size) v7 z.L zl) := (R_17.out.keep (w' := v6.drew) (fun _ _ _ => rfl)).keep (fun g hg hl => g1.block g hl (fun e => by have h8 := HOT.out _ e; omega))
    have D_18 : Hid (Below w.heap.size w v7) := ((Only.of_below D_17.out).trans (((Only.refl (Own3 (v2.heap.size + 2) v2.heap.size (v2.heap.size + 1)) v6).drewN 1).trans g1 |>.mono (S' := fun g => w.heap.size ≤ g) (fun g _ e => by have h8 := HOT.out _ e; have h7 := S_3.out; omega))).toBelow (fun g hg => hg)
    have I_18 : Hid (InstM v7 v5.heap.size 0 ρ) := ⟨fun _ => none, fun _ => none, MV_0.out.keep ((g1.block _ (show _ < v6.heap.size from MV_0.out.lt) (fun e => by have h8 := HLT.out _ e; omega)).trans rfl), (fun k => ⟨(fun _ => rfl), (fun x h => by cases h)⟩), (fun k z h => by cases h)⟩
    have Q_18 : Hid (RT (fun g => g ≠ v5.heap.size) v7 g0.L gl) := g3.mono (fun g hg _ => by have h9 : v6.heap.size ≤ g := hg; omega)
    have BG := hidden g4
    have hs18 : v6.heap.size ≤ v7.heap.size := g1.size
    clear g1 g2 g3 g4
    obtain ⟨p10, p11, p12, pf1⟩ := P_18.out.cells
    obtain ⟨a10, a11, a12, af1⟩ := A_18.out.cells
    clear pf1 af1
    refine hK9.out _ _ (fun _ => ⟨p10, p11, p12, a10, a11, a12⟩) ?_
    clear hK9 K9
    (try simp only [Act.put, q4, q5, q6, q1, q2, q3])
    clear p00 p01 p02 a00 a01 a02
    refine AnyTill.one (i := 5) (by kernel_rfl) rfl (fun K9 hK9 => ?_)
    (try simp only [q1, q2, q3])
    (first | rw [if_pos (by rfl)] | skip)
    go_simp
    refine (inst_any (θ := ρ) (q := v5.heap.size) g0.sz 0 v7 g0 z gl zl gc zc (Nat.le_refl _) (by rw [HGS.out]; omega) (by rw [HZS.out]; omega) HGM.out BG.out BZ.out (by rw [HGT0.out, HKN.out.ap, HZ.out]) I_18.out Q_18.out (R_18.out.mono (fun g hg _ => by omega))).mono ?_
    rintro e v8 ⟨rfl, _, g1⟩
    have P_19 : Hid (B3 v8 w10.heap.size z.V ⟨z.S.toArray⟩ (.slice zl z.L.length zc)) := P_18.out.keep (g1.block _ P_18.out.lt (by omega))
    have A_19 : Hid (B3 v8 w.heap.size x.V ⟨x.S.toArray⟩ (.slice al1 x.L.length c1)) := A_18.out.keep (g1.block _ A_18.out.lt (by have h7 := S_3.out; omega))
    have D_19 : Hid (Below w.heap.size w v8) := ((Only.of_below D_18.out).trans (g1.mono (S' := fun g => w.heap.size ≤ g) (fun g _ e => by have h7 := S_3.out; omega))).toBelow (fun g hg => hg)
    clear g1
    obtain ⟨p20, p21, p22, pf2⟩ := P_19.out.cells
    obtain ⟨a20, a21, a22, af2⟩ := A_19.out.cells
    clear pf2 af2
    refine hK9.out _ _ (fun _ => ⟨p20, p21, p22, a20, a21, a22⟩) ?_
    clear hK9 K9
    (try simp only [Act.put, q4, q5, q6, q1, q2, q3])
    clear p10 p11 p12 a10 a11 a12
    refine AnyTill.take (i := 6) (v := ?_) rfl (by kernel_rfl) (by kernel_rfl) (by kernel_rfl) (by kernel_rfl) (fun _ _ _ h => h) (Or.inl ⟨by rfl, ?_⟩) ⟨p20, p21, p22, a20, a21, a22⟩ ?_
    rotate_left
    ·(intro w hSw; (try dsimp only at hSw); go_simp; (try with_reducible rfl))
    (try simp only [Act.put, q4, q5, q6, q1, q2, q3])
    refine AnyTill.done (by kernel_rfl) ?_ _
    (try simp only [Act.put, q4, q5, q6, q1, q2, q3])
    clear p20 p21 p22 a20 a21 a22
    go_wp2_with fail
    go_ret
    exact ⟨rfl, D_19.out⟩
end Go.Proofs.YtcfgfclapljilaaDoor
