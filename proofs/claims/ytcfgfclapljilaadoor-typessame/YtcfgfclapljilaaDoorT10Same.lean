/-
 Layer 10: TypesSame, walked. No condition but that the arguments are read.
-/
import Derived.Test.YtcfgfclapljilaaDoorL10Awake
import Derived.Test.YtcfgfclapljilaaDoorL10Tbn
import Derived.Test.YtcfgfclapljilaaDoorT10Till
namespace Go.Proofs.YtcfgfclapljilaaDoor
open Go.ChangeShapes Go.WideShapes Go.ChangeAt Go.RowKit Go.Deep
set_option linter.unusedVariables false
set_option linter.unusedSimpArgs false
set_option maxHeartbeats 8000000
set_option maxRecDepth 100000
/-- The statement's own boxes and types, while a table is at work. -/
structure Env3 (Sx : Nat → Prop) (w : World) (m pr : Nat) (x y t : Rw) (al1 al2 al : Option Addr) (c1 c2 cp : Nat) (w' : World) : Prop where
 a : B3 w' w.heap.size x.V ⟨x.S.toArray⟩ (.slice al1 x.L.length c1)
 c : B3 w' (w.heap.size + 1) y.V ⟨y.S.toArray⟩ (.slice al2 y.L.length c2)
 r : B3 w' pr t.V ⟨t.S.toArray⟩ (.slice al t.L.length cp)
 x : RT (fun g => g < w.heap.size) w' x.L al1
 y : RT (fun g => g < w.heap.size) w' y.L al2
 t : RT (fun g => m ≤ g) w' t.L al
 d : Below w.heap.size w w'
 s : ∀ g, Sx g → w.heap.size + 2 ≤ g ∧ g < m
 p : m ≤ pr
theorem Env3.only {Sx : Nat → Prop} {w : World} {m pr : Nat} {x y t : Rw} {al1 al2 al : Option Addr} {c1 c2 cp : Nat} {w' w'' : World} (h : Env3 Sx w m pr x y t al1 al2 al c1 c2 cp w') (k : Only Sx w' w'') : Env3 Sx w m pr x y t al1 al2 al c1 c2 cp w'' := by
 have hs := h.s
 have hp := h.p
 exact ⟨h.a.keep (k.block _ h.a.lt (fun e => by have h8 := hs _ e; omega)), h.c.keep (k.block _ h.c.lt (fun e => by have h8 := hs _ e; omega)), h.r.keep (k.block _ h.r.lt (fun e => by have h8 := hs _ e; omega)), h.x.keep (fun g hg hl => k.block g hl (fun e => by have h8 := hs _ e; omega)), h.y.keep (fun g hg hl => k.block g hl (fun e => by have h8 := hs _ e; omega)), h.t.keep (fun g hg hl => k.block g hl (fun e => by have h8 := hs _ e; omega)), ((Only.of_below h.d).trans (k.mono (S' := fun g => w.heap.size ≤ g) (fun g _ e => by have h8 := hs _ e; omega))).toBelow (fun g hg => hg), h.s, h.p⟩
theorem Env3.below {Sx : Nat → Prop} {w : World} {m pr : Nat} {x y t : Rw} {al1 al2 al : Option Addr} {c1 c2 cp : Nat} {w' w'' : World} (h : Env3 Sx w m pr x y t al1 al2 al c1 c2 cp w') (k : Below w'.heap.size w' w'') : Env3 Sx w m pr x y t al1 al2 al c1 c2 cp w'' := h.only (Only.of_below k)
theorem Env3.cells {Sx : Nat → Prop} {w : World} {m pr : Nat} {x y t : Rw} {al1 al2 al : Option Addr} {c1 c2 cp : Nat} {w' : World} (h : Env3 Sx w m pr x y t al1 al2 al c1 c2 cp w') : (w'.cell? ⟨w.heap.size, 0, none⟩ = some (.int .i64 x.V) ∧ w'.cell? ⟨w.heap.size, 1, none⟩ = some (.string ⟨x.S.toArray⟩) ∧ w'.cell? ⟨w.heap.size, 2, none⟩ = some (.slice al1 x.L.length c1)) ∧ (w'.cell? ⟨w.heap.size + 1, 0, none⟩ = some (.int .i64 y.V) ∧ w'.cell? ⟨w.heap.size + 1, 1, none⟩ = some (.string ⟨y.S.toArray⟩) ∧ w'.cell? ⟨w.heap.size + 1, 2, none⟩ = some (.slice al2 y.L.length c2)) ∧ (w'.cell? ⟨pr, 0, none⟩ = some (.int .i64 t.V) ∧ w'.cell? ⟨pr, 1, none⟩ = some (.string ⟨t.S.toArray⟩) ∧ w'.cell? ⟨pr, 2, none⟩ = some (.slice al t.L.length cp)) := by
 obtain ⟨a0, a1, a2, _⟩ := h.a.cells
 obtain ⟨b0, b1, b2, _⟩ := h.c.cells
 obtain ⟨d0, d1, d2, _⟩ := h.r.cells
 exact ⟨⟨a0, a1, a2⟩, ⟨b0, b1, b2⟩, ⟨d0, d1, d2⟩⟩
theorem unify_made {A : Nat → Prop} {w : World} {tb q r n : Nat} {ρ : Nat → Ty} (hA : ∀ g, A g → g < w.heap.size) (h : TBn A w tb q r n ρ) {x y : Rw} {ao bo : Option Addr} (c d : Nat) (hx : x.may = true) (hy : y.may = true) (hsx : x.sz + y.sz ≤ 100000) (bx : Bd x) (by' : Bd y) (hrx : RT (fun g => ¬ Own3 tb q r g) w x.L ao) (hry : RT (fun g => ¬ Own3 tb q r g) w y.L bo) (hn : n + (x.sz + y.sz) ≤ 300000) (he : x.ty.ap ρ = y.ty.ap ρ) (hz : (x.ty.ap ρ).sz ≤ 512) : Calls Tryd.prog 11 #[.pointer (some ⟨tb, 0, none⟩), .agg #[.int .i64 x.V, .string ⟨x.S.toArray⟩, .slice ao x.L.length c], .agg #[.int .i64 y.V, .string ⟨y.S.toArray⟩, .slice bo y.L.length d]] w fun e w' => e = .returned (.int .i64 0) ∧ TBn A w' tb q r (n + (x.sz + y.sz)) ρ ∧ Only (Own3 tb q r) w w' := by
 have hid := h.idem
 refine (unify_n hA h c d hx hy hsx bx by' hrx hry hn).mono ?_
 rintro e w' ⟨k1, ⟨_, k2⟩ | ⟨_, _, ⟨c', k2, k3⟩ | ⟨ρ', k2, k3, k4⟩⟩⟩
 ·exfalso
  rw [← he] at k2
  omega
 ·have h9 := un_made hid he k2
  cases h9
 ·have h9 := un_made hid he k2
  cases h9
  exact ⟨k3, k4, k1⟩
theorem typesSame_walk (cs0 cs1 : Array Value) (w : World) (k0 : TOk (fun g => g < w.heap.size) w 2001 cs0.toList) (k1 : TOk (fun g => g < w.heap.size) w 2001 cs1.toList) : Calls Tryd.prog 3 #[.agg cs0, .agg cs1] w fun e w' => e = .returned (.bool true) ∧ Below w.heap.size w w' := by
 obtain ⟨V1, s1, al1, n1, c1, e1, _⟩ := id k0
 obtain ⟨V2, s2, al2, n2, c2, e2, _⟩ := id k1
 have ec1 : cs0 = #[.int .i64 V1, .string s1, .slice al1 n1 c1] := Array.ext' (by rw [e1])
 have ec2 : cs1 = #[.int .i64 V2, .string s2, .slice al2 n2 c2] := Array.ext' (by rw [e2])
 subst ec1 ec2
 clear e1 e2
 have K0 := hidden k0
 have K1 := hidden k1
 clear k0 k1
 go_enter Tryd.func3, Tryd.ntmps3
 go_upto_region 1 with fail
 obtain ⟨a1, a2, a3⟩ := two_box w V1 V2 s1 s2 (.slice al1 n1 c1) (.slice al2 n2 c2)
 have A_0 := hidden a1
 have C_0 := hidden a2
 have D_0 := hidden a3
 have S_0 : Hid (((w.alloc (.cells #[.int .i64 V1, .string s1, .slice al1 n1 c1] 24)).alloc (.cells #[.int .i64 V2, .string s2, .slice al2 n2 c2] 24)).heap.size = w.heap.size + 2) := by show _ = _; rw [nblk_alloc, nblk_alloc]
 clear a1 a2 a3
 generalize (w.alloc (.cells #[.int .i64 V1, .string s1, .slice al1 n1 c1] 24)).alloc (.cells #[.int .i64 V2, .string s2, .slice al2 n2 c2] 24) = w0 at *
 go_wp2_with fail
 refine (awake_any w0).mono ?_
 rintro e w1 ⟨rfl, hb⟩
 have A_1 := hidden (A_0.out.below hb (Nat.le_refl _))
 have C_1 := hidden (C_0.out.below hb (Nat.le_refl _))
 have D_1 := hidden (D_0.out.trans (hb.mono D_0.out.size))
 have S_1 : Hid (w.heap.size + 2 ≤ w1.heap.size) := by have h9 := S_0.out; have h8 := hb.size; show _ ≤ _; omega
 clear hb A_0 C_0 D_0 S_0
 obtain ⟨a0, a1, a2, af⟩ := A_1.out.cells
 obtain ⟨b0, b1, b2, bf⟩ := C_1.out.cells
 have HS1 := hidden (small_any w1 V1 s1 al1 n1 c1 (TOk.below D_1.out 2001 K0.out))
 go_wp2_with fail
 refine HS1.out.mono ?_
 rintro e w2 ⟨hb, rfl | ⟨L1, hl1, hr1, hz1, hm1, hd1, rfl⟩⟩
 ·have D_2 := hidden (D_1.out.trans (hb.mono D_1.out.size))
  clear hb a0 a1 a2 af b0 b1 b2 bf
  go_wp2_with fail
  go_ret
  exact ⟨rfl, D_2.out⟩
 subst hl1
 have A_2 := hidden (A_1.out.below hb (Nat.le_refl _))
 have C_2 := hidden (C_1.out.below hb (Nat.le_refl _))
 have D_2 := hidden (D_1.out.trans (hb.mono D_1.out.size))
 have S_2 : Hid (w.heap.size + 2 ≤ w2.heap.size) := by have h9 := S_1.out; have h8 := hb.size; show _ ≤ _; omega
 have X_2 := hidden hr1
 have XF := hidden (And.intro hz1 (And.intro hm1 hd1))
 clear hb a0 a1 a2 af b0 b1 b2 bf A_1 C_1 D_1 S_1 HS1 hr1 hz1 hm1 hd1
 obtain ⟨a0, a1, a2, af⟩ := A_2.out.cells
 obtain ⟨b0, b1, b2, bf⟩ := C_2.out.cells
 have HS2 := hidden (small_any w2 V2 s2 al2 n2 c2 (TOk.below D_2.out 2001 K1.out))
 go_wp2_with fail
 refine HS2.out.mono ?_
 rintro e w3 ⟨hb, rfl | ⟨L2, hl2, hr2, hz2, hm2, hd2, rfl⟩⟩
 ·have D_3 := hidden (D_2.out.trans (hb.mono D_2.out.size))
  clear hb a0 a1 a2 af b0 b1 b2 bf
  go_wp2_with fail
  go_ret
  exact ⟨rfl, D_3.out⟩
 subst hl2
 have es1 : s1 = (⟨s1.toList.toArray⟩ : ByteArray) := by rw [Go.ByteArray.toList_eq]
 have es2 : s2 = (⟨s2.toList.toArray⟩ : ByteArray) := by rw [Go.ByteArray.toList_eq]
 obtain ⟨x, hx⟩ : ∃ x, Rw.mk V1 s1.toList L1 = x := ⟨_, rfl⟩
 obtain ⟨y, hy⟩ : ∃ y, Rw.mk V2 s2.toList L2 = y := ⟨_, rfl⟩
 have A_3 : Hid (B3 w3 w.heap.size x.V ⟨x.S.toArray⟩ (.slice al1 x.L.length c1)) := by
  have h9 := A_2.out.below hb (Nat.le_refl _)
  rw [es1] at h9
  rw [← hx]
  exact h9
 have C_3 : Hid (B3 w3 (w.heap.size + 1) y.V ⟨y.S.toArray⟩ (.slice al2 y.L.length c2)) := by
  have h9 := C_2.out.below hb (Nat.le_refl _)
  rw [es2] at h9
  rw [← hy]
  exact h9
 have X_3 : Hid (RT (fun g => g < w.heap.size) w3 x.L al1) := by rw [← hx]; exact X_2.out.beneath hb (Nat.le_refl _)
 have Y_3 : Hid (RT (fun g => g < w.heap.size) w3 y.L al2) := by rw [← hy]; exact hr2
 have XE : Hid (x.sz ≤ 2000 ∧ x.may = true ∧ Bd x) := by rw [← hx]; exact XF.out
 have YE : Hid (y.sz ≤ 2000 ∧ y.may = true ∧ Bd y) := by rw [← hy]; exact ⟨hz2, hm2, hd2⟩
 have D_3 := hidden (D_2.out.trans (hb.mono D_2.out.size))
 have S_3 : Hid (w.heap.size + 2 ≤ w3.heap.size) := by have h9 := S_2.out; have h8 := hb.size; show _ ≤ _; omega
 have hxs : x.sz ≤ 2000 := XE.out.1
 have hys : y.sz ≤ 2000 := YE.out.1
 clear hb a0 a1 a2 af b0 b1 b2 bf A_2 C_2 D_2 S_2 X_2 XF HS2 hr2 hz2 hm2 hd2 hx hy es1 es2 K0 K1
 have HN := hidden (new_n w3 (A := fun g => g < w3.heap.size) (fun g hg => hg))
 go_wp2_with fail
 refine HN.out.mono ?_
 rintro e w4 ⟨rfl, g1, hb⟩
 have HOW : Hid (∀ g, Own3 (w3.heap.size + 2) w3.heap.size (w3.heap.size + 1) g → w3.heap.size ≤ g) := fun g hg => by rcases hg with h9 | h9 | h9 <;> omega
 have Z_3 : Hid (w3.heap.size ≤ w3.heap.size) := Nat.le_refl _
 have hb4 := Only.of_below (S := Own3 (w3.heap.size + 2) w3.heap.size (w3.heap.size + 1)) hb
 have A_4 : Hid (B3 w4 w.heap.size x.V ⟨x.S.toArray⟩ (.slice al1 x.L.length c1)) := A_3.out.keep (hb4.block _ A_3.out.lt (fun e => by have h8 := HOW.out _ e; have h7 := S_3.out; omega))
 have C_4 : Hid (B3 w4 (w.heap.size + 1) y.V ⟨y.S.toArray⟩ (.slice al2 y.L.length c2)) := C_3.out.keep (hb4.block _ C_3.out.lt (fun e => by have h8 := HOW.out _ e; have h7 := S_3.out; omega))
 have X_4 : Hid (RT (fun g => g < w.heap.size) w4 x.L al1) := X_3.out.keep (fun g hg hl => hb4.block g hl (fun e => by have h8 := HOW.out _ e; have h7 := S_3.out; omega))
 have Y_4 : Hid (RT (fun g => g < w.heap.size) w4 y.L al2) := Y_3.out.keep (fun g hg hl => hb4.block g hl (fun e => by have h8 := HOW.out _ e; have h7 := S_3.out; omega))
 have D_4 : Hid (Below w.heap.size w w4) := ((Only.of_below D_3.out).trans (hb4.mono (S' := fun g => w.heap.size ≤ g) (fun g _ e => by have h8 := HOW.out _ e; have h7 := S_3.out; omega))).toBelow (fun g hg => hg)
 have Z_4 : Hid (w3.heap.size ≤ w4.heap.size) := Nat.le_trans Z_3.out hb4.size
 have T_4 := hidden g1
 clear g1 hb hb4 A_3 C_3 X_3 Y_3 D_3 HN
 obtain ⟨a0, a1, a2, af⟩ := A_4.out.cells
 obtain ⟨b0, b1, b2, bf⟩ := C_4.out.cells
 have HU := hidden (unify_n (fun g hg => Nat.lt_of_lt_of_le hg Z_4.out) T_4.out (x := x) (y := y) c1 c2 XE.out.2.1 YE.out.2.1 (by omega) XE.out.2.2 YE.out.2.2 (X_4.out.mono (fun g hg _ e => by have h8 := HOW.out _ e; have h7 := S_3.out; omega)) (Y_4.out.mono (fun g hg _ e => by have h8 := HOW.out _ e; have h7 := S_3.out; omega)) (by omega))
 go_wp2_with fail
 refine HU.out.mono ?_
 rintro e w5 ⟨g1, h9⟩
 have A_5 : Hid (B3 w5 w.heap.size x.V ⟨x.S.toArray⟩ (.slice al1 x.L.length c1)) := A_4.out.keep (g1.block _ A_4.out.lt (fun e => by have h8 := HOW.out _ e; have h7 := S_3.out; omega))
 have C_5 : Hid (B3 w5 (w.heap.size + 1) y.V ⟨y.S.toArray⟩ (.slice al2 y.L.length c2)) := C_4.out.keep (g1.block _ C_4.out.lt (fun e => by have h8 := HOW.out _ e; have h7 := S_3.out; omega))
 have X_5 : Hid (RT (fun g => g < w.heap.size) w5 x.L al1) := X_4.out.keep (fun g hg hl => g1.block g hl (fun e => by have h8 := HOW.out _ e; have h7 := S_3.out; omega))
 have Y_5 : Hid (RT (fun g => g < w.heap.size) w5 y.L al2) := Y_4.out.keep (fun g hg hl => g1.block g hl (fun e => by have h8 := HOW.out _ e; have h7 := S_3.out; omega))
 have D_5 : Hid (Below w.heap.size w w5) := ((Only.of_below D_4.out).trans (g1.mono (S' := fun g => w.heap.size ≤ g) (fun g _ e => by have h8 := HOW.out _ e; have h7 := S_3.out; omega))).toBelow (fun g hg => hg)
 have Z_5 : Hid (w3.heap.size ≤ w5.heap.size) := Nat.le_trans Z_4.out g1.size
 clear g1 HU A_4 C_4 X_4 Y_4 D_4 T_4
 clear a0 a1 a2 af b0 b1 b2 bf
 rcases h9 with ⟨rfl, _⟩ | ⟨_, _, ⟨c, _, rfl⟩ | ⟨ρ, hun, rfl, g2⟩⟩
 ·go_wp2_with fail
  go_ret
  exact ⟨rfl, D_5.out⟩
 ·by_cases hc : c = 1
  ·rw [if_pos hc]
   clear hc
   go_wp2_with fail
   go_ret
   exact ⟨rfl, D_5.out⟩
  ·rw [if_neg hc]
   clear hc
   go_wp2_with fail
   go_ret
   exact ⟨rfl, D_5.out⟩
 have T_5 := hidden g2
 have HUN := hidden hun
 have HE : Hid (x.ty.ap ρ = y.ty.ap ρ) := made_one idem_id hun
 have HID : Hid (Idem ρ) := g2.idem
 clear g2 hun
 obtain ⟨n, hn⟩ : ∃ n, (x.ty.ap ρ).sz = n := ⟨_, rfl⟩
 have HNX := hidden hn
 have HNY : Hid ((y.ty.ap ρ).sz = n) := by show _ = _; rw [← HE.out]; exact hn
 clear hn
 obtain ⟨a0, a1, a2, af⟩ := A_5.out.cells
 obtain ⟨b0, b1, b2, bf⟩ := C_5.out.cells
 have HS := hidden (size_n T_5.out (x := x) c1 XE.out.2.1 (by omega) XE.out.2.2 (X_5.out.mono (fun g hg _ e => by have h8 := HOW.out _ e; have h7 := S_3.out; omega)) (by omega) (most := 5000) (by omega))
 rw [HNX.out] at HS
 have em2 : ((5000 : Nat) : Int) = 5000 := rfl
 by_cases hg : 5000 < n
 ·rw [show min n (5000 + 1) = 5001 from by omega, em2, show ((5001 : Nat) : Int) = 5001 from rfl] at HS
  clear em2
  go_wp2_with fail
  refine HS.out.mono ?_
  rintro e w6 ⟨rfl, g2, g1⟩
  have A_6 : Hid (B3 w6 w.heap.size x.V ⟨x.S.toArray⟩ (.slice al1 x.L.length c1)) := A_5.out.keep (g1.block _ A_5.out.lt (fun e => by have h8 := HOW.out _ e; have h7 := S_3.out; omega))
  have C_6 : Hid (B3 w6 (w.heap.size + 1) y.V ⟨y.S.toArray⟩ (.slice al2 y.L.length c2)) := C_5.out.keep (g1.block _ C_5.out.lt (fun e => by have h8 := HOW.out _ e; have h7 := S_3.out; omega))
  have X_6 : Hid (RT (fun g => g < w.heap.size) w6 x.L al1) := X_5.out.keep (fun g hg hl => g1.block g hl (fun e => by have h8 := HOW.out _ e; have h7 := S_3.out; omega))
  have Y_6 : Hid (RT (fun g => g < w.heap.size) w6 y.L al2) := Y_5.out.keep (fun g hg hl => g1.block g hl (fun e => by have h8 := HOW.out _ e; have h7 := S_3.out; omega))
  have D_6 : Hid (Below w.heap.size w w6) := ((Only.of_below D_5.out).trans (g1.mono (S' := fun g => w.heap.size ≤ g) (fun g _ e => by have h8 := HOW.out _ e; have h7 := S_3.out; omega))).toBelow (fun g hg => hg)
  have Z_6 : Hid (w3.heap.size ≤ w6.heap.size) := Nat.le_trans Z_5.out g1.size
  have T_6 := hidden g2
  clear g1 g2 A_5 C_5 X_5 Y_5 D_5 T_5 HS
  clear a0 a1 a2 af b0 b1 b2 bf
  obtain ⟨a0, a1, a2, af⟩ := A_6.out.cells
  obtain ⟨b0, b1, b2, bf⟩ := C_6.out.cells
  have HS := hidden (size_n T_6.out (x := y) c2 YE.out.2.1 (by omega) YE.out.2.2 (Y_6.out.mono (fun g hg _ e => by have h8 := HOW.out _ e; have h7 := S_3.out; omega)) (by omega) (most := 5000) (by omega))
  rw [HNY.out, show min n (5000 + 1) = 5001 from by omega, show ((5000 : Nat) : Int) = 5000 from rfl, show ((5001 : Nat) : Int) = 5001 from rfl] at HS
  go_wp2_with fail
  refine HS.out.mono ?_
  rintro e w7 ⟨rfl, g2, g1⟩
  have A_7 : Hid (B3 w7 w.heap.size x.V ⟨x.S.toArray⟩ (.slice al1 x.L.length c1)) := A_6.out.keep (g1.block _ A_6.out.lt (fun e => by have h8 := HOW.out _ e; have h7 := S_3.out; omega))
  have C_7 : Hid (B3 w7 (w.heap.size + 1) y.V ⟨y.S.toArray⟩ (.slice al2 y.L.length c2)) := C_6.out.keep (g1.block _ C_6.out.lt (fun e => by have h8 := HOW.out _ e; have h7 := S_3.out; omega))
  have X_7 : Hid (RT (fun g => g < w.heap.size) w7 x.L al1) := X_6.out.keep (fun g hg hl => g1.block g hl (fun e => by have h8 := HOW.out _ e; have h7 := S_3.out; omega))
  have Y_7 : Hid (RT (fun g => g < w.heap.size) w7 y.L al2) := Y_6.out.keep (fun g hg hl => g1.block g hl (fun e => by have h8 := HOW.out _ e; have h7 := S_3.out; omega))
  have D_7 : Hid (Below w.heap.size w w7) := ((Only.of_below D_6.out).trans (g1.mono (S' := fun g => w.heap.size ≤ g) (fun g _ e => by have h8 := HOW.out _ e; have h7 := S_3.out; omega))).toBelow (fun g hg => hg)
  have Z_7 : Hid (w3.heap.size ≤ w7.heap.size) := Nat.le_trans Z_6.out g1.size
  clear g1 g2 A_6 C_6 X_6 Y_6 D_6 T_6 HS
  clear a0 a1 a2 af b0 b1 b2 bf
  go_wp2_with fail
  go_ret
  exact ⟨rfl, D_7.out⟩
 rw [show min n (5000 + 1) = n from by omega, em2] at HS
 clear em2
 have zn : ¬ (5000 : Int) < (n : Int) := by omega
 go_wp2_with fail
 refine HS.out.mono ?_
 rintro e w6 ⟨rfl, g2, g1⟩
 have A_6 : Hid (B3 w6 w.heap.size x.V ⟨x.S.toArray⟩ (.slice al1 x.L.length c1)) := A_5.out.keep (g1.block _ A_5.out.lt (fun e => by have h8 := HOW.out _ e; have h7 := S_3.out; omega))
 have C_6 : Hid (B3 w6 (w.heap.size + 1) y.V ⟨y.S.toArray⟩ (.slice al2 y.L.length c2)) := C_5.out.keep (g1.block _ C_5.out.lt (fun e => by have h8 := HOW.out _ e; have h7 := S_3.out; omega))
 have X_6 : Hid (RT (fun g => g < w.heap.size) w6 x.L al1) := X_5.out.keep (fun g hg hl => g1.block g hl (fun e => by have h8 := HOW.out _ e; have h7 := S_3.out; omega))
 have Y_6 : Hid (RT (fun g => g < w.heap.size) w6 y.L al2) := Y_5.out.keep (fun g hg hl => g1.block g hl (fun e => by have h8 := HOW.out _ e; have h7 := S_3.out; omega))
 have D_6 : Hid (Below w.heap.size w w6) := ((Only.of_below D_5.out).trans (g1.mono (S' := fun g => w.heap.size ≤ g) (fun g _ e => by have h8 := HOW.out _ e; have h7 := S_3.out; omega))).toBelow (fun g hg => hg)
 have Z_6 : Hid (w3.heap.size ≤ w6.heap.size) := Nat.le_trans Z_5.out g1.size
 have T_6 := hidden g2
 clear g1 g2 A_5 C_5 X_5 Y_5 D_5 T_5 HS
 clear a0 a1 a2 af b0 b1 b2 bf
 obtain ⟨a0, a1, a2, af⟩ := A_6.out.cells
 obtain ⟨b0, b1, b2, bf⟩ := C_6.out.cells
 have HOL6 : Hid (∀ g, Own3 (w3.heap.size + 2) w3.heap.size (w3.heap.size + 1) g → g < w6.heap.size) := T_6.out.lt
 have HR := hidden (res_n T_6.out (x := x) c1 XE.out.2.1 (by omega) XE.out.2.2 (X_6.out.mono (fun g hg _ e => by have h8 := HOW.out _ e; have h7 := S_3.out; omega)) (by omega))
 obtain ⟨t, ht⟩ : ∃ t, (x.ty.ap ρ).rw = t := ⟨_, rfl⟩
 rw [ht] at HR
 have HTX := hidden ht
 have HTY : Hid ((y.ty.ap ρ).rw = t) := by show _ = _; rw [← HE.out]; exact ht
 have HTS : Hid (t.sz ≤ 5000) := by show _ ≤ _; rw [← ht, Ty.sz_rw, HNX.out]; omega
 clear ht
 go_wp2_with fail
 refine HR.out.mono ?_
 rintro e w7 ⟨al, cp, rfl, g2, g3, g1, g4⟩
 have A_7 : Hid (B3 w7 w.heap.size x.V ⟨x.S.toArray⟩ (.slice al1 x.L.length c1)) := A_6.out.keep (g1.block _ A_6.out.lt (fun e => by have h8 := HOW.out _ e; have h7 := S_3.out; omega))
 have C_7 : Hid (B3 w7 (w.heap.size + 1) y.V ⟨y.S.toArray⟩ (.slice al2 y.L.length c2)) := C_6.out.keep (g1.block _ C_6.out.lt (fun e => by have h8 := HOW.out _ e; have h7 := S_3.out; omega))
 have X_7 : Hid (RT (fun g => g < w.heap.size) w7 x.L al1) := X_6.out.keep (fun g hg hl => g1.block g hl (fun e => by have h8 := HOW.out _ e; have h7 := S_3.out; omega))
 have Y_7 : Hid (RT (fun g => g < w.heap.size) w7 y.L al2) := Y_6.out.keep (fun g hg hl => g1.block g hl (fun e => by have h8 := HOW.out _ e; have h7 := S_3.out; omega))
 have D_7 : Hid (Below w.heap.size w w7) := ((Only.of_below D_6.out).trans (g1.mono (S' := fun g => w.heap.size ≤ g) (fun g _ e => by have h8 := HOW.out _ e; have h7 := S_3.out; omega))).toBelow (fun g hg => hg)
 have Z_7 : Hid (w3.heap.size ≤ w7.heap.size) := Nat.le_trans Z_6.out g1.size
 have T_7 := hidden g2
 have R_7 := hidden g3
 have BT := hidden g4
 have H67 : Hid (w6.heap.size ≤ w7.heap.size) := g1.size
 clear g1 g2 g3 g4 A_6 C_6 X_6 Y_6 D_6 T_6 HR
 clear a0 a1 a2 af b0 b1 b2 bf
 go_upto_region 11 with fail
 have HOL : Hid (∀ g, Own3 (w3.heap.size + 2) w3.heap.size (w3.heap.size + 1) g → g < w6.heap.size) := HOL6.out
 have HSX : Hid (∀ g, Own3 (w3.heap.size + 2) w3.heap.size (w3.heap.size + 1) g → w.heap.size + 2 ≤ g ∧ g < w6.heap.size) := fun g hg => ⟨by have h8 := HOW.out g hg; have h7 := S_3.out; omega, HOL.out g hg⟩
 have E_0 : Hid (Env3 (Own3 (w3.heap.size + 2) w3.heap.size (w3.heap.size + 1)) w w6.heap.size w7.heap.size x y t al1 al2 al c1 c2 cp (w7.alloc (.cells #[.int .i64 t.V, .string ⟨t.S.toArray⟩, .slice al t.L.length cp] 24)).drew) := by
  have h67 : w6.heap.size ≤ w7.heap.size := H67.out
  have e0 : Env3 (Own3 (w3.heap.size + 2) w3.heap.size (w3.heap.size + 1)) w w6.heap.size w7.heap.size x y t al1 al2 al c1 c2 cp (w7.alloc (.cells #[.int .i64 t.V, .string ⟨t.S.toArray⟩, .slice al t.L.length cp] 24)) := ⟨A_7.out.alloc _, C_7.out.alloc _, B3.new w7 _ _ _, X_7.out.alloc _, Y_7.out.alloc _, R_7.out.alloc _, D_7.out.alloc D_7.out.size _, HSX.out, h67⟩
  exact e0.below (drew_below10 _)
 have T_0 := hidden (T_7.out.alloc (.cells #[.int .i64 t.V, .string ⟨t.S.toArray⟩, .slice al t.L.length cp] 24)).drew
 have Z_0 : Hid (w3.heap.size ≤ (w7.alloc (.cells #[.int .i64 t.V, .string ⟨t.S.toArray⟩, .slice al t.L.length cp] 24)).drew.heap.size) := by have h9 := Z_7.out; have h8 := nblk_alloc w7 (.cells #[.int .i64 t.V, .string ⟨t.S.toArray⟩, .slice al t.L.length cp] 24); show _ ≤ (w7.alloc (.cells #[.int .i64 t.V, .string ⟨t.S.toArray⟩, .slice al t.L.length cp] 24)).heap.size; omega
 generalize w7.alloc (.cells #[.int .i64 t.V, .string ⟨t.S.toArray⟩, .slice al t.L.length cp] 24) = w8 at *
 clear HOL HOL6 H67 A_7 C_7 X_7 Y_7 D_7 R_7 T_7 Z_7
 have HR1 := hidden (res_n T_0.out (x := y) c2 YE.out.2.1 (by omega) YE.out.2.2 (E_0.out.y.mono (fun g hg _ e => by have h8 := HSX.out _ e; omega)) (by omega))
 rw [HTY.out] at HR1
 obtain ⟨⟨x00, x01, x02⟩, ⟨y00, y01, y02⟩, ⟨t00, t01, t02⟩⟩ : (w8.cell? ⟨w.heap.size, 0, none⟩ = some (.int .i64 x.V) ∧ w8.cell? ⟨w.heap.size, 1, none⟩ = some (.string ⟨x.S.toArray⟩) ∧ w8.cell? ⟨w.heap.size, 2, none⟩ = some (.slice al1 x.L.length c1)) ∧ (w8.cell? ⟨w.heap.size + 1, 0, none⟩ = some (.int .i64 y.V) ∧ w8.cell? ⟨w.heap.size + 1, 1, none⟩ = some (.string ⟨y.S.toArray⟩) ∧ w8.cell? ⟨w.heap.size + 1, 2, none⟩ = some (.slice al2 y.L.length c2)) ∧ (w8.cell? ⟨w7.heap.size, 0, none⟩ = some (.int .i64 t.V) ∧ w8.cell? ⟨w7.heap.size, 1, none⟩ = some (.string ⟨t.S.toArray⟩) ∧ w8.cell? ⟨w7.heap.size, 2, none⟩ = some (.slice al t.L.length cp)) := E_0.out.cells
 have em3 : ((512 : Nat) : Int) = 512 := rfl
 by_cases cn : 512 < n
 ·have HMN : Hid (min n (512 + 1) = 513) := by show _ = _; omega
  have em4 : ((513 : Nat) : Int) = 513 := rfl
  refine region_till (S := (fun w' => w'.cell? ⟨w.heap.size, 0, none⟩ = some (.int .i64 x.V) ∧ w'.cell? ⟨w.heap.size, 1, none⟩ = some (.string ⟨x.S.toArray⟩) ∧ w'.cell? ⟨w.heap.size, 2, none⟩ = some (.slice al1 x.L.length c1) ∧ w'.cell? ⟨w.heap.size + 1, 0, none⟩ = some (.int .i64 y.V) ∧ w'.cell? ⟨w.heap.size + 1, 1, none⟩ = some (.string ⟨y.S.toArray⟩) ∧ w'.cell? ⟨w.heap.size + 1, 2, none⟩ = some (.slice al2 y.L.length c2) ∧ w'.cell? ⟨w7.heap.size, 0, none⟩ = some (.int .i64 t.V) ∧ w'.cell? ⟨w7.heap.size, 1, none⟩ = some (.string ⟨t.S.toArray⟩) ∧ w'.cell? ⟨w7.heap.size, 2, none⟩ = some (.slice al t.L.length cp))) (kz := 32) (by kernel_rfl) ⟨x00, x01, x02, y00, y01, y02, t00, t01, t02⟩ (fun hHeld => ?_)
  refine AnyTill.tk (i := 0) (v := ?_) hHeld ?_ ?_
  rotate_left
  ·(intro w hSw; (try dsimp only at hSw); go_simp; (try with_reducible rfl))
  (try simp only [Act.put, q4, q5, q6, q1, q2, q3])
  refine AnyTill.tk (i := 1) (v := ?_) hHeld ?_ ?_
  rotate_left
  ·(intro w hSw; (try dsimp only at hSw); go_simp; (try with_reducible rfl))
  (try simp only [Act.put, q4, q5, q6, q1, q2, q3])
  refine AnyTill.tk (i := 2) (v := ?_) hHeld ?_ ?_
  rotate_left
  ·(intro w hSw; (try dsimp only at hSw); go_simp; (try with_reducible rfl))
  (try simp only [Act.put, q4, q5, q6, q1, q2, q3])
  refine AnyTill.one (i := 3) (by kernel_rfl) rfl (fun K9 hK9 => ?_)
  (try simp only [q1, q2, q3])
  (first | rw [if_pos (by rfl)] | skip)
  go_simp
  refine HR1.out.mono ?_
  rintro e v1 ⟨al', cp', rfl, g2, g3, g1, g4⟩
  have E_1 := hidden (E_0.out.only g1)
  have Z_1 : Hid (w3.heap.size ≤ v1.heap.size) := Nat.le_trans Z_0.out g1.size
  have T_1 := hidden g2
  have R1 := hidden g3
  clear g2 g3 g4
  clear g1
  obtain ⟨⟨x10, x11, x12⟩, ⟨y10, y11, y12⟩, ⟨t10, t11, t12⟩⟩ := E_1.out.cells
  refine hK9.out _ _ (fun _ => ⟨x10, x11, x12, y10, y11, y12, t10, t11, t12⟩) ?_
  clear hK9 K9
  (try simp only [Act.put, q4, q5, q6, q1, q2, q3])
  clear x00 x01 x02 y00 y01 y02 t00 t01 t02 E_0 T_0
  refine AnyTill.one (i := 4) (by kernel_rfl) rfl (fun K9 hK9 => ?_)
  (try simp only [q1, q2, q3])
  (first | rw [if_pos (by rfl)] | skip)
  go_simp
  refine (rsame10 5000 t t HTS.out (by omega) v1 al al' cp cp' E_1.out.t R1.out).mono ?_
  rintro e v2 ⟨b2, rfl, hb2, hb⟩
  obtain rfl : b2 = true := hb2.2 rfl
  have g1 := Only.of_below (S := (Own3 (w3.heap.size + 2) w3.heap.size (w3.heap.size + 1))) hb
  have T_2 := hidden (T_1.out.below hb)
  clear hb hb2
  have E_2 := hidden (E_1.out.only g1)
  have Z_2 : Hid (w3.heap.size ≤ v2.heap.size) := Nat.le_trans Z_1.out g1.size
  clear g1
  obtain ⟨⟨x20, x21, x22⟩, ⟨y20, y21, y22⟩, ⟨t20, t21, t22⟩⟩ := E_2.out.cells
  refine hK9.out _ _ (fun _ => ⟨x20, x21, x22, y20, y21, y22, t20, t21, t22⟩) ?_
  clear hK9 K9
  (try simp only [Act.put, q4, q5, q6, q1, q2, q3])
  clear x10 x11 x12 y10 y11 y12 t10 t11 t12 E_1 T_1
  refine AnyTill.take (i := 5) (v := ?_) rfl (by kernel_rfl) (by kernel_rfl) (by kernel_rfl) (by kernel_rfl) (fun _ _ _ h => h) (Or.inl ⟨by rfl, ?_⟩) ⟨x20, x21, x22, y20, y21, y22, t20, t21, t22⟩ ?_
  rotate_left
  ·(intro w hSw; (try dsimp only at hSw); go_simp; (try with_reducible rfl))
  (try simp only [Act.put, q4, q5, q6, q1, q2, q3])
  refine AnyTill.take (i := 6) (v := ?_) rfl (by kernel_rfl) (by kernel_rfl) (by kernel_rfl) (by kernel_rfl) (fun _ _ _ h => h) (Or.inl ⟨by rfl, ?_⟩) ⟨x20, x21, x22, y20, y21, y22, t20, t21, t22⟩ ?_
  rotate_left
  ·(intro w hSw; (try dsimp only at hSw); go_simp; (try with_reducible rfl))
  (try simp only [Act.put, q4, q5, q6, q1, q2, q3])
  refine AnyTill.take (i := 7) (v := ?_) rfl (by kernel_rfl) (by kernel_rfl) (by kernel_rfl) (by kernel_rfl) (fun _ _ _ h => h) (Or.inl ⟨by rfl, ?_⟩) ⟨x20, x21, x22, y20, y21, y22, t20, t21, t22⟩ ?_
  rotate_left
  ·(intro w hSw; (try dsimp only at hSw); go_simp; (try with_reducible rfl))
  (try simp only [Act.put, q4, q5, q6, q1, q2, q3])
  refine AnyTill.one (i := 8) (by kernel_rfl) rfl (fun K9 hK9 => ?_)
  (try simp only [q1, q2, q3])
  (first | rw [if_pos (by rfl)] | skip)
  go_simp
  have hh := size_n T_2.out (x := x) c1 XE.out.2.1 (by omega) XE.out.2.2 (E_2.out.x.mono (fun g hg _ e => by have h8 := HSX.out _ e; omega)) (by omega) (most := 512) (by omega)
  rw [HNX.out, HMN.out, em3, em4] at hh
  refine hh.mono ?_
  clear hh
  rintro e v3 ⟨rfl, g2, g1⟩
  have E_3 := hidden (E_2.out.only g1)
  have Z_3 : Hid (w3.heap.size ≤ v3.heap.size) := Nat.le_trans Z_2.out g1.size
  have T_3 := hidden g2
  clear g2
  clear g1
  obtain ⟨⟨x30, x31, x32⟩, ⟨y30, y31, y32⟩, ⟨t30, t31, t32⟩⟩ := E_3.out.cells
  refine hK9.out _ _ (fun _ => ⟨x30, x31, x32, y30, y31, y32, t30, t31, t32⟩) ?_
  clear hK9 K9
  (try simp only [Act.put, q4, q5, q6, q1, q2, q3])
  clear x20 x21 x22 y20 y21 y22 t20 t21 t22 E_2 T_2
  refine AnyTill.take (i := 9) (v := ?_) rfl (by kernel_rfl) (by kernel_rfl) (by kernel_rfl) (by kernel_rfl) (fun _ _ _ h => h) (Or.inl ⟨by rfl, ?_⟩) ⟨x30, x31, x32, y30, y31, y32, t30, t31, t32⟩ ?_
  rotate_left
  ·(intro w hSw; (try dsimp only at hSw); go_simp; (try with_reducible rfl))
  (try simp only [Act.put, q4, q5, q6, q1, q2, q3])
  refine AnyTill.take (i := 10) (v := ?_) rfl (by kernel_rfl) (by kernel_rfl) (by kernel_rfl) (by kernel_rfl) (fun _ _ _ h => h) (Or.inl ⟨by rfl, ?_⟩) ⟨x30, x31, x32, y30, y31, y32, t30, t31, t32⟩ ?_
  rotate_left
  ·(intro w hSw; (try dsimp only at hSw); go_simp; (try with_reducible rfl))
  (try simp only [Act.put, q4, q5, q6, q1, q2, q3])
  refine AnyTill.take (i := 11) (v := undef) rfl (by kernel_rfl) (by kernel_rfl) (by kernel_rfl) (by kernel_rfl) (fun _ _ _ h => h) (Or.inr ⟨by rfl, rfl⟩) ⟨x30, x31, x32, y30, y31, y32, t30, t31, t32⟩ ?_
  (try simp only [Act.put, q4, q5, q6, q1, q2, q3])
  refine AnyTill.take (i := 12) (v := undef) rfl (by kernel_rfl) (by kernel_rfl) (by kernel_rfl) (by kernel_rfl) (fun _ _ _ h => h) (Or.inr ⟨by rfl, rfl⟩) ⟨x30, x31, x32, y30, y31, y32, t30, t31, t32⟩ ?_
  (try simp only [Act.put, q4, q5, q6, q1, q2, q3])
  refine AnyTill.take (i := 13) (v := undef) rfl (by kernel_rfl) (by kernel_rfl) (by kernel_rfl) (by kernel_rfl) (fun _ _ _ h => h) (Or.inr ⟨by rfl, rfl⟩) ⟨x30, x31, x32, y30, y31, y32, t30, t31, t32⟩ ?_
  (try simp only [Act.put, q4, q5, q6, q1, q2, q3])
  refine AnyTill.take (i := 14) (v := undef) rfl (by kernel_rfl) (by kernel_rfl) (by kernel_rfl) (by kernel_rfl) (fun _ _ _ h => h) (Or.inr ⟨by rfl, rfl⟩) ⟨x30, x31, x32, y30, y31, y32, t30, t31, t32⟩ ?_
  (try simp only [Act.put, q4, q5, q6, q1, q2, q3])
  refine AnyTill.take (i := 15) (v := undef) rfl (by kernel_rfl) (by kernel_rfl) (by kernel_rfl) (by kernel_rfl) (fun _ _ _ h => h) (Or.inr ⟨by rfl, rfl⟩) ⟨x30, x31, x32, y30, y31, y32, t30, t31, t32⟩ ?_
  (try simp only [Act.put, q4, q5, q6, q1, q2, q3])
  refine AnyTill.take (i := 16) (v := undef) rfl (by kernel_rfl) (by kernel_rfl) (by kernel_rfl) (by kernel_rfl) (fun _ _ _ h => h) (Or.inr ⟨by rfl, rfl⟩) ⟨x30, x31, x32, y30, y31, y32, t30, t31, t32⟩ ?_
  (try simp only [Act.put, q4, q5, q6, q1, q2, q3])
  refine AnyTill.take (i := 17) (v := undef) rfl (by kernel_rfl) (by kernel_rfl) (by kernel_rfl) (by kernel_rfl) (fun _ _ _ h => h) (Or.inr ⟨by rfl, rfl⟩) ⟨x30, x31, x32, y30, y31, y32, t30, t31, t32⟩ ?_
  (try simp only [Act.put, q4, q5, q6, q1, q2, q3])
  refine AnyTill.take (i := 18) (v := undef) rfl (by kernel_rfl) (by kernel_rfl) (by kernel_rfl) (by kernel_rfl) (fun _ _ _ h => h) (Or.inr ⟨by rfl, rfl⟩) ⟨x30, x31, x32, y30, y31, y32, t30, t31, t32⟩ ?_
  (try simp only [Act.put, q4, q5, q6, q1, q2, q3])
  refine AnyTill.take (i := 19) (v := undef) rfl (by kernel_rfl) (by kernel_rfl) (by kernel_rfl) (by kernel_rfl) (fun _ _ _ h => h) (Or.inr ⟨by rfl, rfl⟩) ⟨x30, x31, x32, y30, y31, y32, t30, t31, t32⟩ ?_
  (try simp only [Act.put, q4, q5, q6, q1, q2, q3])
  refine AnyTill.take (i := 20) (v := undef) rfl (by kernel_rfl) (by kernel_rfl) (by kernel_rfl) (by kernel_rfl) (fun _ _ _ h => h) (Or.inr ⟨by rfl, rfl⟩) ⟨x30, x31, x32, y30, y31, y32, t30, t31, t32⟩ ?_
  (try simp only [Act.put, q4, q5, q6, q1, q2, q3])
  refine AnyTill.take (i := 21) (v := undef) rfl (by kernel_rfl) (by kernel_rfl) (by kernel_rfl) (by kernel_rfl) (fun _ _ _ h => h) (Or.inr ⟨by rfl, rfl⟩) ⟨x30, x31, x32, y30, y31, y32, t30, t31, t32⟩ ?_
  (try simp only [Act.put, q4, q5, q6, q1, q2, q3])
  refine AnyTill.take (i := 22) (v := undef) rfl (by kernel_rfl) (by kernel_rfl) (by kernel_rfl) (by kernel_rfl) (fun _ _ _ h => h) (Or.inr ⟨by rfl, rfl⟩) ⟨x30, x31, x32, y30, y31, y32, t30, t31, t32⟩ ?_
  (try simp only [Act.put, q4, q5, q6, q1, q2, q3])
  refine AnyTill.take (i := 23) (v := undef) rfl (by kernel_rfl) (by kernel_rfl) (by kernel_rfl) (by kernel_rfl) (fun _ _ _ h => h) (Or.inr ⟨by rfl, rfl⟩) ⟨x30, x31, x32, y30, y31, y32, t30, t31, t32⟩ ?_
  (try simp only [Act.put, q4, q5, q6, q1, q2, q3])
  refine AnyTill.take (i := 24) (v := undef) rfl (by kernel_rfl) (by kernel_rfl) (by kernel_rfl) (by kernel_rfl) (fun _ _ _ h => h) (Or.inr ⟨by rfl, rfl⟩) ⟨x30, x31, x32, y30, y31, y32, t30, t31, t32⟩ ?_
  (try simp only [Act.put, q4, q5, q6, q1, q2, q3])
  refine AnyTill.take (i := 25) (v := undef) rfl (by kernel_rfl) (by kernel_rfl) (by kernel_rfl) (by kernel_rfl) (fun _ _ _ h => h) (Or.inr ⟨by rfl, rfl⟩) ⟨x30, x31, x32, y30, y31, y32, t30, t31, t32⟩ ?_
  (try simp only [Act.put, q4, q5, q6, q1, q2, q3])
  refine AnyTill.take (i := 26) (v := undef) rfl (by kernel_rfl) (by kernel_rfl) (by kernel_rfl) (by kernel_rfl) (fun _ _ _ h => h) (Or.inr ⟨by rfl, rfl⟩) ⟨x30, x31, x32, y30, y31, y32, t30, t31, t32⟩ ?_
  (try simp only [Act.put, q4, q5, q6, q1, q2, q3])
  refine AnyTill.take (i := 27) (v := undef) rfl (by kernel_rfl) (by kernel_rfl) (by kernel_rfl) (by kernel_rfl) (fun _ _ _ h => h) (Or.inr ⟨by rfl, rfl⟩) ⟨x30, x31, x32, y30, y31, y32, t30, t31, t32⟩ ?_
  (try simp only [Act.put, q4, q5, q6, q1, q2, q3])
  refine AnyTill.take (i := 28) (v := undef) rfl (by kernel_rfl) (by kernel_rfl) (by kernel_rfl) (by kernel_rfl) (fun _ _ _ h => h) (Or.inr ⟨by rfl, rfl⟩) ⟨x30, x31, x32, y30, y31, y32, t30, t31, t32⟩ ?_
  (try simp only [Act.put, q4, q5, q6, q1, q2, q3])
  refine AnyTill.take (i := 29) (v := undef) rfl (by kernel_rfl) (by kernel_rfl) (by kernel_rfl) (by kernel_rfl) (fun _ _ _ h => h) (Or.inr ⟨by rfl, rfl⟩) ⟨x30, x31, x32, y30, y31, y32, t30, t31, t32⟩ ?_
  (try simp only [Act.put, q4, q5, q6, q1, q2, q3])
  refine AnyTill.take (i := 30) (v := ?_) rfl (by kernel_rfl) (by kernel_rfl) (by kernel_rfl) (by kernel_rfl) (fun _ _ _ h => h) (Or.inl ⟨by rfl, ?_⟩) ⟨x30, x31, x32, y30, y31, y32, t30, t31, t32⟩ ?_
  rotate_left
  ·(intro w hSw; (try dsimp only at hSw); go_simp; (try with_reducible rfl))
  (try simp only [Act.put, q4, q5, q6, q1, q2, q3])
  refine AnyTill.take (i := 31) (v := ?_) rfl (by kernel_rfl) (by kernel_rfl) (by kernel_rfl) (by kernel_rfl) (fun _ _ _ h => h) (Or.inl ⟨by rfl, ?_⟩) ⟨x30, x31, x32, y30, y31, y32, t30, t31, t32⟩ ?_
  rotate_left
  ·(intro w hSw; (try dsimp only at hSw); go_simp; (try with_reducible rfl))
  (try simp only [Act.put, q4, q5, q6, q1, q2, q3])
  refine AnyTill.one (i := 32) (by kernel_rfl) rfl (fun K9 hK9 => ?_)
  (try simp only [q1, q2, q3])
  (first | rw [if_pos (by rfl)] | skip)
  go_simp
  refine hK9.out _ _ (fun h => absurd rfl h) ?_
  clear hK9 K9
  (try simp only [Act.put, q4, q5, q6, q1, q2, q3])
  refine AnyTill.done (by kernel_rfl) ?_ _
  (try simp only [Act.put, q4, q5, q6, q1, q2, q3])
  clear x30 x31 x32 y30 y31 y32 t30 t31 t32
  go_wp2_with fail
  go_ret
  exact ⟨rfl, E_3.out.d⟩
 ·have HMN : Hid (min n (512 + 1) = n) := by show _ = _; omega
  have zc : ¬ (512 : Int) < (n : Int) := by omega
  refine region_till (S := (fun w' => w'.cell? ⟨w.heap.size, 0, none⟩ = some (.int .i64 x.V) ∧ w'.cell? ⟨w.heap.size, 1, none⟩ = some (.string ⟨x.S.toArray⟩) ∧ w'.cell? ⟨w.heap.size, 2, none⟩ = some (.slice al1 x.L.length c1) ∧ w'.cell? ⟨w.heap.size + 1, 0, none⟩ = some (.int .i64 y.V) ∧ w'.cell? ⟨w.heap.size + 1, 1, none⟩ = some (.string ⟨y.S.toArray⟩) ∧ w'.cell? ⟨w.heap.size + 1, 2, none⟩ = some (.slice al2 y.L.length c2) ∧ w'.cell? ⟨w7.heap.size, 0, none⟩ = some (.int .i64 t.V) ∧ w'.cell? ⟨w7.heap.size, 1, none⟩ = some (.string ⟨t.S.toArray⟩) ∧ w'.cell? ⟨w7.heap.size, 2, none⟩ = some (.slice al t.L.length cp))) (kz := 32) (by kernel_rfl) ⟨x00, x01, x02, y00, y01, y02, t00, t01, t02⟩ (fun hHeld => ?_)
  refine AnyTill.tk (i := 0) (v := ?_) hHeld ?_ ?_
  rotate_left
  ·(intro w hSw; (try dsimp only at hSw); go_simp; (try with_reducible rfl))
  (try simp only [Act.put, q4, q5, q6, q1, q2, q3])
  refine AnyTill.tk (i := 1) (v := ?_) hHeld ?_ ?_
  rotate_left
  ·(intro w hSw; (try dsimp only at hSw); go_simp; (try with_reducible rfl))
  (try simp only [Act.put, q4, q5, q6, q1, q2, q3])
  refine AnyTill.tk (i := 2) (v := ?_) hHeld ?_ ?_
  rotate_left
  ·(intro w hSw; (try dsimp only at hSw); go_simp; (try with_reducible rfl))
  (try simp only [Act.put, q4, q5, q6, q1, q2, q3])
  refine AnyTill.one (i := 3) (by kernel_rfl) rfl (fun K9 hK9 => ?_)
  (try simp only [q1, q2, q3])
  (first | rw [if_pos (by rfl)] | skip)
  go_simp
  refine HR1.out.mono ?_
  rintro e v1 ⟨al', cp', rfl, g2, g3, g1, g4⟩
  have E_1 := hidden (E_0.out.only g1)
  have Z_1 : Hid (w3.heap.size ≤ v1.heap.size) := Nat.le_trans Z_0.out g1.size
  have T_1 := hidden g2
  have R1 := hidden g3
  clear g2 g3 g4
  clear g1
  obtain ⟨⟨x10, x11, x12⟩, ⟨y10, y11, y12⟩, ⟨t10, t11, t12⟩⟩ := E_1.out.cells
  refine hK9.out _ _ (fun _ => ⟨x10, x11, x12, y10, y11, y12, t10, t11, t12⟩) ?_
  clear hK9 K9
  (try simp only [Act.put, q4, q5, q6, q1, q2, q3])
  clear x00 x01 x02 y00 y01 y02 t00 t01 t02 E_0 T_0
  refine AnyTill.one (i := 4) (by kernel_rfl) rfl (fun K9 hK9 => ?_)
  (try simp only [q1, q2, q3])
  (first | rw [if_pos (by rfl)] | skip)
  go_simp
  refine (rsame10 5000 t t HTS.out (by omega) v1 al al' cp cp' E_1.out.t R1.out).mono ?_
  rintro e v2 ⟨b2, rfl, hb2, hb⟩
  obtain rfl : b2 = true := hb2.2 rfl
  have g1 := Only.of_below (S := (Own3 (w3.heap.size + 2) w3.heap.size (w3.heap.size + 1))) hb
  have T_2 := hidden (T_1.out.below hb)
  clear hb hb2
  have E_2 := hidden (E_1.out.only g1)
  have Z_2 : Hid (w3.heap.size ≤ v2.heap.size) := Nat.le_trans Z_1.out g1.size
  clear g1
  obtain ⟨⟨x20, x21, x22⟩, ⟨y20, y21, y22⟩, ⟨t20, t21, t22⟩⟩ := E_2.out.cells
  refine hK9.out _ _ (fun _ => ⟨x20, x21, x22, y20, y21, y22, t20, t21, t22⟩) ?_
  clear hK9 K9
  (try simp only [Act.put, q4, q5, q6, q1, q2, q3])
  clear x10 x11 x12 y10 y11 y12 t10 t11 t12 E_1 T_1
  refine AnyTill.take (i := 5) (v := ?_) rfl (by kernel_rfl) (by kernel_rfl) (by kernel_rfl) (by kernel_rfl) (fun _ _ _ h => h) (Or.inl ⟨by rfl, ?_⟩) ⟨x20, x21, x22, y20, y21, y22, t20, t21, t22⟩ ?_
  rotate_left
  ·(intro w hSw; (try dsimp only at hSw); go_simp; (try with_reducible rfl))
  (try simp only [Act.put, q4, q5, q6, q1, q2, q3])
  refine AnyTill.take (i := 6) (v := ?_) rfl (by kernel_rfl) (by kernel_rfl) (by kernel_rfl) (by kernel_rfl) (fun _ _ _ h => h) (Or.inl ⟨by rfl, ?_⟩) ⟨x20, x21, x22, y20, y21, y22, t20, t21, t22⟩ ?_
  rotate_left
  ·(intro w hSw; (try dsimp only at hSw); go_simp; (try with_reducible rfl))
  (try simp only [Act.put, q4, q5, q6, q1, q2, q3])
  refine AnyTill.take (i := 7) (v := ?_) rfl (by kernel_rfl) (by kernel_rfl) (by kernel_rfl) (by kernel_rfl) (fun _ _ _ h => h) (Or.inl ⟨by rfl, ?_⟩) ⟨x20, x21, x22, y20, y21, y22, t20, t21, t22⟩ ?_
  rotate_left
  ·(intro w hSw; (try dsimp only at hSw); go_simp; (try with_reducible rfl))
  (try simp only [Act.put, q4, q5, q6, q1, q2, q3])
  refine AnyTill.one (i := 8) (by kernel_rfl) rfl (fun K9 hK9 => ?_)
  (try simp only [q1, q2, q3])
  (first | rw [if_pos (by rfl)] | skip)
  go_simp
  have hh := size_n T_2.out (x := x) c1 XE.out.2.1 (by omega) XE.out.2.2 (E_2.out.x.mono (fun g hg _ e => by have h8 := HSX.out _ e; omega)) (by omega) (most := 512) (by omega)
  rw [HNX.out, HMN.out, em3] at hh
  refine hh.mono ?_
  clear hh
  rintro e v3 ⟨rfl, g2, g1⟩
  have E_3 := hidden (E_2.out.only g1)
  have Z_3 : Hid (w3.heap.size ≤ v3.heap.size) := Nat.le_trans Z_2.out g1.size
  have T_3 := hidden g2
  clear g2
  clear g1
  obtain ⟨⟨x30, x31, x32⟩, ⟨y30, y31, y32⟩, ⟨t30, t31, t32⟩⟩ := E_3.out.cells
  refine hK9.out _ _ (fun _ => ⟨x30, x31, x32, y30, y31, y32, t30, t31, t32⟩) ?_
  clear hK9 K9
  (try simp only [Act.put, q4, q5, q6, q1, q2, q3])
  clear x20 x21 x22 y20 y21 y22 t20 t21 t22 E_2 T_2
  refine AnyTill.take (i := 9) (v := ?_) rfl (by kernel_rfl) (by kernel_rfl) (by kernel_rfl) (by kernel_rfl) (fun _ _ _ h => h) (Or.inl ⟨by rfl, ?_⟩) ⟨x30, x31, x32, y30, y31, y32, t30, t31, t32⟩ ?_
  rotate_left
  ·(intro w hSw; (try dsimp only at hSw); go_simp; (try with_reducible rfl))
  (try simp only [Act.put, q4, q5, q6, q1, q2, q3])
  refine AnyTill.take (i := 10) (v := ?_) rfl (by kernel_rfl) (by kernel_rfl) (by kernel_rfl) (by kernel_rfl) (fun _ _ _ h => h) (Or.inl ⟨by rfl, ?_⟩) ⟨x30, x31, x32, y30, y31, y32, t30, t31, t32⟩ ?_
  rotate_left
  ·(intro w hSw; (try dsimp only at hSw); go_simp; (try with_reducible rfl))
  (try simp only [Act.put, q4, q5, q6, q1, q2, q3])
  refine AnyTill.take (i := 11) (v := ?_) rfl (by kernel_rfl) (by kernel_rfl) (by kernel_rfl) (by kernel_rfl) (fun _ _ _ h => h) (Or.inl ⟨by rfl, ?_⟩) ⟨x30, x31, x32, y30, y31, y32, t30, t31, t32⟩ ?_
  rotate_left
  ·(intro w hSw; (try dsimp only at hSw); go_simp; (try with_reducible rfl))
  (try simp only [Act.put, q4, q5, q6, q1, q2, q3])
  refine AnyTill.take (i := 12) (v := ?_) rfl (by kernel_rfl) (by kernel_rfl) (by kernel_rfl) (by kernel_rfl) (fun _ _ _ h => h) (Or.inl ⟨by rfl, ?_⟩) ⟨x30, x31, x32, y30, y31, y32, t30, t31, t32⟩ ?_
  rotate_left
  ·(intro w hSw; (try dsimp only at hSw); go_simp; (try with_reducible rfl))
  (try simp only [Act.put, q4, q5, q6, q1, q2, q3])
  refine AnyTill.take (i := 13) (v := ?_) rfl (by kernel_rfl) (by kernel_rfl) (by kernel_rfl) (by kernel_rfl) (fun _ _ _ h => h) (Or.inl ⟨by rfl, ?_⟩) ⟨x30, x31, x32, y30, y31, y32, t30, t31, t32⟩ ?_
  rotate_left
  ·(intro w hSw; (try dsimp only at hSw); go_simp; (try with_reducible rfl))
  (try simp only [Act.put, q4, q5, q6, q1, q2, q3])
  refine AnyTill.one (i := 14) (by kernel_rfl) rfl (fun K9 hK9 => ?_)
  (try simp only [q1, q2, q3])
  (first | rw [if_pos (by rfl)] | skip)
  go_simp
  refine (unify_made (fun g hg => Nat.lt_of_lt_of_le hg Z_3.out) T_3.out (x := x) (y := y) c1 c2 XE.out.2.1 YE.out.2.1 (by omega) XE.out.2.2 YE.out.2.2 (E_3.out.x.mono (fun g hg _ e => by have h8 := HSX.out _ e; omega)) (E_3.out.y.mono (fun g hg _ e => by have h8 := HSX.out _ e; omega)) (by omega) HE.out (by rw [HNX.out]; omega)).mono ?_
  rintro e v4 ⟨rfl, g2, g1⟩
  have E_4 := hidden (E_3.out.only g1)
  have Z_4 : Hid (w3.heap.size ≤ v4.heap.size) := Nat.le_trans Z_3.out g1.size
  have T_4 := hidden g2
  clear g2
  clear g1
  obtain ⟨⟨x40, x41, x42⟩, ⟨y40, y41, y42⟩, ⟨t40, t41, t42⟩⟩ := E_4.out.cells
  refine hK9.out _ _ (fun _ => ⟨x40, x41, x42, y40, y41, y42, t40, t41, t42⟩) ?_
  clear hK9 K9
  (try simp only [Act.put, q4, q5, q6, q1, q2, q3])
  clear x30 x31 x32 y30 y31 y32 t30 t31 t32 E_3 T_3
  refine AnyTill.take (i := 15) (v := ?_) rfl (by kernel_rfl) (by kernel_rfl) (by kernel_rfl) (by kernel_rfl) (fun _ _ _ h => h) (Or.inl ⟨by rfl, ?_⟩) ⟨x40, x41, x42, y40, y41, y42, t40, t41, t42⟩ ?_
  rotate_left
  ·(intro w hSw; (try dsimp only at hSw); go_simp; (try with_reducible rfl))
  (try simp only [Act.put, q4, q5, q6, q1, q2, q3])
  refine AnyTill.take (i := 16) (v := ?_) rfl (by kernel_rfl) (by kernel_rfl) (by kernel_rfl) (by kernel_rfl) (fun _ _ _ h => h) (Or.inl ⟨by rfl, ?_⟩) ⟨x40, x41, x42, y40, y41, y42, t40, t41, t42⟩ ?_
  rotate_left
  ·(intro w hSw; (try dsimp only at hSw); go_simp; (try with_reducible rfl))
  (try simp only [Act.put, q4, q5, q6, q1, q2, q3])
  refine AnyTill.take (i := 17) (v := ?_) rfl (by kernel_rfl) (by kernel_rfl) (by kernel_rfl) (by kernel_rfl) (fun _ _ _ h => h) (Or.inl ⟨by rfl, ?_⟩) ⟨x40, x41, x42, y40, y41, y42, t40, t41, t42⟩ ?_
  rotate_left
  ·(intro w hSw; (try dsimp only at hSw); go_simp; (try with_reducible rfl))
  (try simp only [Act.put, q4, q5, q6, q1, q2, q3])
  refine AnyTill.take (i := 18) (v := ?_) rfl (by kernel_rfl) (by kernel_rfl) (by kernel_rfl) (by kernel_rfl) (fun _ _ _ h => h) (Or.inl ⟨by rfl, ?_⟩) ⟨x40, x41, x42, y40, y41, y42, t40, t41, t42⟩ ?_
  rotate_left
  ·(intro w hSw; (try dsimp only at hSw); go_simp; (try with_reducible rfl))
  (try simp only [Act.put, q4, q5, q6, q1, q2, q3])
  refine AnyTill.take (i := 20) (v := ?_) rfl (by kernel_rfl) (by kernel_rfl) (by kernel_rfl) (by kernel_rfl) (fun _ _ _ h => h) (Or.inl ⟨by rfl, ?_⟩) ⟨x40, x41, x42, y40, y41, y42, t40, t41, t42⟩ ?_
  rotate_left
  ·(intro w hSw; (try dsimp only at hSw); go_simp; (try with_reducible rfl))
  (try simp only [Act.put, q4, q5, q6, q1, q2, q3])
  refine AnyTill.one (i := 19) (by kernel_rfl) rfl (fun K9 hK9 => ?_)
  (try simp only [q1, q2, q3])
  (first | rw [if_pos (by rfl)] | skip)
  go_simp
  have hh := res_n T_4.out (x := x) c1 XE.out.2.1 (by omega) XE.out.2.2 (E_4.out.x.mono (fun g hg _ e => by have h8 := HSX.out _ e; omega)) (by omega)
  rw [HTX.out] at hh
  refine hh.mono ?_
  clear hh
  rintro e v5 ⟨al5, cp5, rfl, g2, g3, g1, g4⟩
  have E_5 := hidden (E_4.out.only g1)
  have Z_5 : Hid (w3.heap.size ≤ v5.heap.size) := Nat.le_trans Z_4.out g1.size
  have T_5 := hidden g2
  have R5 := hidden g3
  clear g2 g3 g4
  clear g1
  obtain ⟨⟨x50, x51, x52⟩, ⟨y50, y51, y52⟩, ⟨t50, t51, t52⟩⟩ := E_5.out.cells
  refine hK9.out _ _ (fun _ => ⟨x50, x51, x52, y50, y51, y52, t50, t51, t52⟩) ?_
  clear hK9 K9
  (try simp only [Act.put, q4, q5, q6, q1, q2, q3])
  clear x40 x41 x42 y40 y41 y42 t40 t41 t42 E_4 T_4
  refine AnyTill.one (i := 21) (by kernel_rfl) rfl (fun K9 hK9 => ?_)
  (try simp only [q1, q2, q3])
  (first | rw [if_pos (by rfl)] | skip)
  go_simp
  refine (rsame10 5000 t t HTS.out (by omega) v5 al5 al cp5 cp R5.out E_5.out.t).mono ?_
  rintro e v6 ⟨b6, rfl, hb2, hb⟩
  obtain rfl : b6 = true := hb2.2 rfl
  have g1 := Only.of_below (S := (Own3 (w3.heap.size + 2) w3.heap.size (w3.heap.size + 1))) hb
  have T_6 := hidden (T_5.out.below hb)
  clear hb hb2
  have E_6 := hidden (E_5.out.only g1)
  have Z_6 : Hid (w3.heap.size ≤ v6.heap.size) := Nat.le_trans Z_5.out g1.size
  clear g1
  obtain ⟨⟨x60, x61, x62⟩, ⟨y60, y61, y62⟩, ⟨t60, t61, t62⟩⟩ := E_6.out.cells
  refine hK9.out _ _ (fun _ => ⟨x60, x61, x62, y60, y61, y62, t60, t61, t62⟩) ?_
  clear hK9 K9
  (try simp only [Act.put, q4, q5, q6, q1, q2, q3])
  clear x50 x51 x52 y50 y51 y52 t50 t51 t52 E_5 T_5
  refine AnyTill.take (i := 22) (v := ?_) rfl (by kernel_rfl) (by kernel_rfl) (by kernel_rfl) (by kernel_rfl) (fun _ _ _ h => h) (Or.inl ⟨by rfl, ?_⟩) ⟨x60, x61, x62, y60, y61, y62, t60, t61, t62⟩ ?_
  rotate_left
  ·(intro w hSw; (try dsimp only at hSw); go_simp; (try with_reducible rfl))
  (try simp only [Act.put, q4, q5, q6, q1, q2, q3])
  refine AnyTill.take (i := 23) (v := ?_) rfl (by kernel_rfl) (by kernel_rfl) (by kernel_rfl) (by kernel_rfl) (fun _ _ _ h => h) (Or.inl ⟨by rfl, ?_⟩) ⟨x60, x61, x62, y60, y61, y62, t60, t61, t62⟩ ?_
  rotate_left
  ·(intro w hSw; (try dsimp only at hSw); go_simp; (try with_reducible rfl))
  (try simp only [Act.put, q4, q5, q6, q1, q2, q3])
  refine AnyTill.take (i := 24) (v := ?_) rfl (by kernel_rfl) (by kernel_rfl) (by kernel_rfl) (by kernel_rfl) (fun _ _ _ h => h) (Or.inl ⟨by rfl, ?_⟩) ⟨x60, x61, x62, y60, y61, y62, t60, t61, t62⟩ ?_
  rotate_left
  ·(intro w hSw; (try dsimp only at hSw); go_simp; (try with_reducible rfl))
  (try simp only [Act.put, q4, q5, q6, q1, q2, q3])
  refine AnyTill.take (i := 25) (v := ?_) rfl (by kernel_rfl) (by kernel_rfl) (by kernel_rfl) (by kernel_rfl) (fun _ _ _ h => h) (Or.inl ⟨by rfl, ?_⟩) ⟨x60, x61, x62, y60, y61, y62, t60, t61, t62⟩ ?_
  rotate_left
  ·(intro w hSw; (try dsimp only at hSw); go_simp; (try with_reducible rfl))
  (try simp only [Act.put, q4, q5, q6, q1, q2, q3])
  refine AnyTill.take (i := 26) (v := ?_) rfl (by kernel_rfl) (by kernel_rfl) (by kernel_rfl) (by kernel_rfl) (fun _ _ _ h => h) (Or.inl ⟨by rfl, ?_⟩) ⟨x60, x61, x62, y60, y61, y62, t60, t61, t62⟩ ?_
  rotate_left
  ·(intro w hSw; (try dsimp only at hSw); go_simp; (try with_reducible rfl))
  (try simp only [Act.put, q4, q5, q6, q1, q2, q3])
  refine AnyTill.one (i := 27) (by kernel_rfl) rfl (fun K9 hK9 => ?_)
  (try simp only [q1, q2, q3])
  (first | rw [if_pos (by rfl)] | skip)
  go_simp
  refine (unify_made (fun g hg => Nat.lt_of_lt_of_le hg Z_6.out) T_6.out (x := y) (y := x) c2 c1 YE.out.2.1 XE.out.2.1 (by omega) YE.out.2.2 XE.out.2.2 (E_6.out.y.mono (fun g hg _ e => by have h8 := HSX.out _ e; omega)) (E_6.out.x.mono (fun g hg _ e => by have h8 := HSX.out _ e; omega)) (by omega) HE.out.symm (by rw [HNY.out]; omega)).mono ?_
  rintro e v7 ⟨rfl, g2, g1⟩
  have E_7 := hidden (E_6.out.only g1)
  have Z_7 : Hid (w3.heap.size ≤ v7.heap.size) := Nat.le_trans Z_6.out g1.size
  have T_7 := hidden g2
  clear g2
  clear g1
  obtain ⟨⟨x70, x71, x72⟩, ⟨y70, y71, y72⟩, ⟨t70, t71, t72⟩⟩ := E_7.out.cells
  refine hK9.out _ _ (fun _ => ⟨x70, x71, x72, y70, y71, y72, t70, t71, t72⟩) ?_
  clear hK9 K9
  (try simp only [Act.put, q4, q5, q6, q1, q2, q3])
  clear x60 x61 x62 y60 y61 y62 t60 t61 t62 E_6 T_6
  refine AnyTill.take (i := 28) (v := ?_) rfl (by kernel_rfl) (by kernel_rfl) (by kernel_rfl) (by kernel_rfl) (fun _ _ _ h => h) (Or.inl ⟨by rfl, ?_⟩) ⟨x70, x71, x72, y70, y71, y72, t70, t71, t72⟩ ?_
  rotate_left
  ·(intro w hSw; (try dsimp only at hSw); go_simp; (try with_reducible rfl))
  (try simp only [Act.put, q4, q5, q6, q1, q2, q3])
  refine AnyTill.take (i := 29) (v := ?_) rfl (by kernel_rfl) (by kernel_rfl) (by kernel_rfl) (by kernel_rfl) (fun _ _ _ h => h) (Or.inl ⟨by rfl, ?_⟩) ⟨x70, x71, x72, y70, y71, y72, t70, t71, t72⟩ ?_
  rotate_left
  ·(intro w hSw; (try dsimp only at hSw); go_simp; (try with_reducible rfl))
  (try simp only [Act.put, q4, q5, q6, q1, q2, q3])
  refine AnyTill.take (i := 30) (v := ?_) rfl (by kernel_rfl) (by kernel_rfl) (by kernel_rfl) (by kernel_rfl) (fun _ _ _ h => h) (Or.inl ⟨by rfl, ?_⟩) ⟨x70, x71, x72, y70, y71, y72, t70, t71, t72⟩ ?_
  rotate_left
  ·(intro w hSw; (try dsimp only at hSw); go_simp; (try with_reducible rfl))
  (try simp only [Act.put, q4, q5, q6, q1, q2, q3])
  refine AnyTill.take (i := 31) (v := ?_) rfl (by kernel_rfl) (by kernel_rfl) (by kernel_rfl) (by kernel_rfl) (fun _ _ _ h => h) (Or.inl ⟨by rfl, ?_⟩) ⟨x70, x71, x72, y70, y71, y72, t70, t71, t72⟩ ?_
  rotate_left
  ·(intro w hSw; (try dsimp only at hSw); go_simp; (try with_reducible rfl))
  (try simp only [Act.put, q4, q5, q6, q1, q2, q3])
  refine AnyTill.one (i := 32) (by kernel_rfl) rfl (fun K9 hK9 => ?_)
  (try simp only [q1, q2, q3])
  (first | rw [if_pos (by rfl)] | skip)
  go_simp
  refine hK9.out _ _ (fun h => absurd rfl h) ?_
  clear hK9 K9
  (try simp only [Act.put, q4, q5, q6, q1, q2, q3])
  refine AnyTill.done (by kernel_rfl) ?_ _
  (try simp only [Act.put, q4, q5, q6, q1, q2, q3])
  clear x70 x71 x72 y70 y71 y72 t70 t71 t72
  go_wp2_with fail
  go_ret
  exact ⟨rfl, E_7.out.d⟩
end Go.Proofs.YtcfgfclapljilaaDoor
