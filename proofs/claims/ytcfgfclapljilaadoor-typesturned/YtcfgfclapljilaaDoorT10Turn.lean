/-
 Layer 10: TypesTurned, walked. No condition but that the arguments are read.
-/
import Derived.Test.YtcfgfclapljilaaDoorL10Awake
import Derived.Test.YtcfgfclapljilaaDoorL10Tbn
import Derived.Test.YtcfgfclapljilaaDoorP10Can
import Derived.Test.YtcfgfclapljilaaDoorX10Good
import Derived.Test.YtcfgfclapljilaaDoorT10Till
namespace Go.Proofs.YtcfgfclapljilaaDoor
open Go.ChangeShapes Go.WideShapes Go.ChangeAt Go.RowKit Go.Deep
set_option linter.unusedVariables false
set_option linter.unusedSimpArgs false
set_option maxHeartbeats 8000000
set_option maxRecDepth 100000
/-- What Unify tells, its number a letter. -/
theorem UnifyN.num {A : Nat → Prop} {tb q r n : Nat} {ρ : Nat → Ty} {x y : Rw} {w w' : World} {e : Ending} (h : UnifyN A tb q r n ρ x y w e w') : ∃ ev : Int, e = .returned (.int .i64 ev) ∧ Only (Own3 tb q r) w w' ∧ ((ev = 3 ∧ (512 < (x.ty.ap ρ).sz ∨ 512 < (y.ty.ap ρ).sz)) ∨ ((x.ty.ap ρ).sz ≤ 512 ∧ (y.ty.ap ρ).sz ≤ 512 ∧ ((∃ c, Un ρ [(x.ty, y.ty)] (.error c) ∧ (ev = 25 ∨ ev = 26) ∧ ev = if c = 1 then 26 else 25) ∨ ∃ ρ', Un ρ [(x.ty, y.ty)] (.ok ρ') ∧ ev = 0 ∧ TBn A w' tb q r (n + (x.sz + y.sz)) ρ'))) := by
 obtain ⟨h1, ⟨rfl, h2⟩ | ⟨h2, h3, ⟨c, h4, rfl⟩ | ⟨ρ', h4, rfl, h5⟩⟩⟩ := h
 ·exact ⟨3, rfl, h1, Or.inl ⟨rfl, h2⟩⟩
 ·refine ⟨_, rfl, h1, Or.inr ⟨h2, h3, Or.inl ⟨c, h4, ?_, rfl⟩⟩⟩
  split
  ·exact Or.inr rfl
  ·exact Or.inl rfl
 ·exact ⟨0, rfl, h1, Or.inr ⟨h2, h3, Or.inr ⟨ρ', h4, rfl, h5⟩⟩⟩
/-- The box of one type, while tables are at work. -/
structure EnvB (Sx : Nat → Prop) (w : World) (pr : Nat) (z : Rw) (zl : Option Addr) (zc : Nat) (w' : World) : Prop where
 r : B3 w' pr z.V ⟨z.S.toArray⟩ (.slice zl z.L.length zc)
 t : RT (fun g => ¬ Sx g) w' z.L zl
 d : Below w.heap.size w w'
 s : ∀ g, Sx g → w.heap.size ≤ g ∧ g ≠ pr
theorem EnvB.only {Sx : Nat → Prop} {w : World} {pr : Nat} {z : Rw} {zl : Option Addr} {zc : Nat} {w' w'' : World} (h : EnvB Sx w pr z zl zc w') {S : Nat → Prop} (k : Only S w' w'') (hS : ∀ g, S g → Sx g) : EnvB Sx w pr z zl zc w'' :=
 ⟨h.r.keep (k.block _ h.r.lt (fun e => (h.s _ (hS _ e)).2 rfl)), h.t.keep (fun g hg hl => k.block g hl (fun e => hg (hS g e))), ((Only.of_below h.d).trans (k.mono (S' := fun g => w.heap.size ≤ g) (fun g _ e => (h.s g (hS g e)).1))).toBelow (fun g hg => hg), h.s⟩
theorem EnvB.below {Sx : Nat → Prop} {w : World} {pr : Nat} {z : Rw} {zl : Option Addr} {zc : Nat} {w' w'' : World} (h : EnvB Sx w pr z zl zc w') (k : Below w'.heap.size w' w'') : EnvB Sx w pr z zl zc w'' := h.only (S := fun _ => False) (Only.of_below k) (fun g c => c.elim)
theorem EnvB.cells {Sx : Nat → Prop} {w : World} {pr : Nat} {z : Rw} {zl : Option Addr} {zc : Nat} {w' : World} (h : EnvB Sx w pr z zl zc w') : w'.cell? ⟨pr, 0, none⟩ = some (.int .i64 z.V) ∧ w'.cell? ⟨pr, 1, none⟩ = some (.string ⟨z.S.toArray⟩) ∧ w'.cell? ⟨pr, 2, none⟩ = some (.slice zl z.L.length zc) := by
 obtain ⟨a, b, c, _⟩ := h.r.cells
 exact ⟨a, b, c⟩
def both (x y : Rw) : Rw := .mk 0 [42] [x, y]
theorem both_may {x y : Rw} (hx : x.may = true) (hy : y.may = true) : (both x y).may = true := by
 unfold both
 rw [Rw.may, mayL, mayL, mayL, hx, hy]
 rfl
theorem both_sz (x y : Rw) : (both x y).sz = 1 + (x.sz + y.sz) := by
 unfold both
 rw [Rw.sz, szRL, szRL, szRL]
 omega
theorem both_bd (x y : Rw) : Bd (both x y) := bd_c (by show (0 : Int) ≤ 0; omega) (by show (0 : Int) ≤ 100; omega) (by show 1 ≤ 100; omega)
theorem typesTurned_walk (cs0 cs1 : Array Value) (w : World) (k0 : TOk (fun g => g < w.heap.size) w 2001 cs0.toList) (k1 : TOk (fun g => g < w.heap.size) w 2001 cs1.toList) : Calls Tryd.prog 5 #[.agg cs0, .agg cs1] w fun e w' => e = .returned (.bool true) ∧ Below w.heap.size w w' := by
 obtain ⟨V1, s1, al1, n1, c1, e1, _⟩ := id k0
 obtain ⟨V2, s2, al2, n2, c2, e2, _⟩ := id k1
 have ec1 : cs0 = #[.int .i64 V1, .string s1, .slice al1 n1 c1] := Array.ext' (by rw [e1])
 have ec2 : cs1 = #[.int .i64 V2, .string s2, .slice al2 n2 c2] := Array.ext' (by rw [e2])
 subst ec1 ec2
 clear e1 e2
 have K0 := hidden k0
 have K1 := hidden k1
 clear k0 k1
 go_enter Tryd.func5, Tryd.ntmps5
 go_upto_region 1 with fail
 obtain ⟨a1, a2, a3⟩ := two_box w V1 V2 s1 s2 (.slice al1 n1 c1) (.slice al2 n2 c2)
 have A_0 := hidden a1
 have C_0 := hidden a2
 have D_0 := hidden a3
 have S_0 : Hid (((w.alloc (.cells #[.int .i64 V1, .string s1, .slice al1 n1 c1] 24)).alloc (.cells #[.int .i64 V2, .string s2, .slice al2 n2 c2] 24)).heap.size = w.heap.size + 2) := by show _ = _; rw [nblk_alloc, nblk_alloc]
 clear a1 a2 a3
 generalize (w.alloc (.cells #[.int .i64 V1, .string s1, .slice al1 n1 c1] 24)).alloc (.cells #[.int .i64 V2, .string s2, .slice al2 n2 c2] 24) = w0 at *
 go_wp2_with fail
 refine (awake_any w0).mono ?_
 rintro e w1 ⟨rfl, hb⟩
 have A_1 := hidden (A_0.out.below hb (Nat.le_refl _))
 have C_1 := hidden (C_0.out.below hb (Nat.le_refl _))
 have D_1 := hidden (D_0.out.trans (hb.mono D_0.out.size))
 have S_1 : Hid (w.heap.size + 2 ≤ w1.heap.size) := by have h9 := S_0.out; have h8 := hb.size; show _ ≤ _; omega
 clear hb A_0 C_0 D_0 S_0
 obtain ⟨a0, a1, a2, af⟩ := A_1.out.cells
 obtain ⟨b0, b1, b2, bf⟩ := C_1.out.cells
 have HS1 := hidden (small_any w1 V1 s1 al1 n1 c1 (TOk.below D_1.out 2001 K0.out))
 go_wp2_with fail
 refine HS1.out.mono ?_
 rintro e w2 ⟨hb, rfl | ⟨L1, hl1, hr1, hz1, hm1, hd1, rfl⟩⟩
 ·have D_2 := hidden (D_1.out.trans (hb.mono D_1.out.size))
  clear hb a0 a1 a2 af b0 b1 b2 bf
  go_wp2_with fail
  go_ret
  exact ⟨rfl, D_2.out⟩
 subst hl1
 have A_2 := hidden (A_1.out.below hb (Nat.le_refl _))
 have C_2 := hidden (C_1.out.below hb (Nat.le_refl _))
 have D_2 := hidden (D_1.out.trans (hb.mono D_1.out.size))
 have S_2 : Hid (w.heap.size + 2 ≤ w2.heap.size) := by have h9 := S_1.out; have h8 := hb.size; show _ ≤ _; omega
 have X_2 := hidden hr1
 have XF := hidden (And.intro hz1 (And.intro hm1 hd1))
 clear hb a0 a1 a2 af b0 b1 b2 bf A_1 C_1 D_1 S_1 HS1 hr1 hz1 hm1 hd1
 obtain ⟨a0, a1, a2, af⟩ := A_2.out.cells
 obtain ⟨b0, b1, b2, bf⟩ := C_2.out.cells
 have HS2 := hidden (small_any w2 V2 s2 al2 n2 c2 (TOk.below D_2.out 2001 K1.out))
 go_wp2_with fail
 refine HS2.out.mono ?_
 rintro e w3 ⟨hb, rfl | ⟨L2, hl2, hr2, hz2, hm2, hd2, rfl⟩⟩
 ·have D_3 := hidden (D_2.out.trans (hb.mono D_2.out.size))
  clear hb a0 a1 a2 af b0 b1 b2 bf
  go_wp2_with fail
  go_ret
  exact ⟨rfl, D_3.out⟩
 subst hl2
 have es1 : s1 = (⟨s1.toList.toArray⟩ : ByteArray) := by rw [Go.ByteArray.toList_eq]
 have es2 : s2 = (⟨s2.toList.toArray⟩ : ByteArray) := by rw [Go.ByteArray.toList_eq]
 obtain ⟨x, hx⟩ : ∃ x, Rw.mk V1 s1.toList L1 = x := ⟨_, rfl⟩
 obtain ⟨y, hy⟩ : ∃ y, Rw.mk V2 s2.toList L2 = y := ⟨_, rfl⟩
 have A_3 : Hid (B3 w3 w.heap.size x.V ⟨x.S.toArray⟩ (.slice al1 x.L.length c1)) := by
  have h9 := A_2.out.below hb (Nat.le_refl _)
  rw [es1] at h9
  rw [← hx]
  exact h9
 have C_3 : Hid (B3 w3 (w.heap.size + 1) y.V ⟨y.S.toArray⟩ (.slice al2 y.L.length c2)) := by
  have h9 := C_2.out.below hb (Nat.le_refl _)
  rw [es2] at h9
  rw [← hy]
  exact h9
 have X_3 : Hid (RT (fun g => g < w.heap.size) w3 x.L al1) := by rw [← hx]; exact X_2.out.beneath hb (Nat.le_refl _)
 have Y_3 : Hid (RT (fun g => g < w.heap.size) w3 y.L al2) := by rw [← hy]; exact hr2
 have XE : Hid (x.sz ≤ 2000 ∧ x.may = true ∧ Bd x) := by rw [← hx]; exact XF.out
 have YE : Hid (y.sz ≤ 2000 ∧ y.may = true ∧ Bd y) := by rw [← hy]; exact ⟨hz2, hm2, hd2⟩
 have D_3 := hidden (D_2.out.trans (hb.mono D_2.out.size))
 have S_3 : Hid (w.heap.size + 2 ≤ w3.heap.size) := by have h9 := S_2.out; have h8 := hb.size; show _ ≤ _; omega
 have hxs : x.sz ≤ 2000 := XE.out.1
 have hys : y.sz ≤ 2000 := YE.out.1
 clear hb a0 a1 a2 af b0 b1 b2 bf A_2 C_2 D_2 S_2 X_2 XF HS2 hr2 hz2 hm2 hd2 hx hy es1 es2 K0 K1
 have HN := hidden (new_n w3 (A := fun g => g < w3.heap.size) (fun g hg => hg))
 go_wp2_with fail
 refine HN.out.mono ?_
 rintro e w4 ⟨rfl, g1, hb⟩
 have HOW1 : Hid (∀ g, Own3 (w3.heap.size + 2) w3.heap.size (w3.heap.size + 1) g → w3.heap.size ≤ g) := fun g hg => by rcases hg with h9 | h9 | h9 <;> omega
 have HOL1 : Hid (∀ g, Own3 (w3.heap.size + 2) w3.heap.size (w3.heap.size + 1) g → g < w4.heap.size) := g1.lt
 have hs34 := hb.size
 have hb4 := Only.of_below (S := (Own3 (w3.heap.size + 2) w3.heap.size (w3.heap.size + 1))) hb
 have A_4 : Hid (B3 w4 w.heap.size x.V ⟨x.S.toArray⟩ (.slice al1 x.L.length c1)) := A_3.out.keep (hb4.block _ A_3.out.lt (fun e => by have h8 := HOW1.out _ e; have h7 := S_3.out; omega))
 have C_4 : Hid (B3 w4 (w.heap.size + 1) y.V ⟨y.S.toArray⟩ (.slice al2 y.L.length c2)) := C_3.out.keep (hb4.block _ C_3.out.lt (fun e => by have h8 := HOW1.out _ e; have h7 := S_3.out; omega))
 have X_4 : Hid (RT (fun g => g < w.heap.size) w4 x.L al1) := X_3.out.keep (fun g hg hl => hb4.block g hl (fun e => by have h8 := HOW1.out _ e; have h7 := S_3.out; omega))
 have Y_4 : Hid (RT (fun g => g < w.heap.size) w4 y.L al2) := Y_3.out.keep (fun g hg hl => hb4.block g hl (fun e => by have h8 := HOW1.out _ e; have h7 := S_3.out; omega))
 have D_4 : Hid (Below w.heap.size w w4) := ((Only.of_below D_3.out).trans (hb4.mono (S' := fun g => w.heap.size ≤ g) (fun g _ e => by have h8 := HOW1.out _ e; have h7 := S_3.out; omega))).toBelow (fun g hg => hg)
 have T_4 := hidden g1
 clear g1 hb hb4 A_3 C_3 X_3 Y_3 D_3 HN
 have HN := hidden (new_n w4 (A := fun g => g < w4.heap.size) (fun g hg => hg))
 go_wp2_with fail
 refine HN.out.mono ?_
 rintro e w5 ⟨rfl, g1, hb⟩
 have HOW2 : Hid (∀ g, Own3 (w4.heap.size + 2) w4.heap.size (w4.heap.size + 1) g → w4.heap.size ≤ g) := fun g hg => by rcases hg with h9 | h9 | h9 <;> omega
 have HOW2b : Hid (∀ g, Own3 (w4.heap.size + 2) w4.heap.size (w4.heap.size + 1) g → w3.heap.size ≤ g) := fun g hg => by have h9 := HOW2.out g hg; omega
 have HOL2 : Hid (∀ g, Own3 (w4.heap.size + 2) w4.heap.size (w4.heap.size + 1) g → g < w5.heap.size) := g1.lt
 have hs45 := hb.size
 have T_5 := hidden ((T_4.out.aug (A' := fun g => g < w3.heap.size ∨ (w4.heap.size ≤ g ∧ g < w5.heap.size)) (fun g hg => hg.imp id (fun h9 => h9.1))).below hb)
 have U_5 := hidden g1
 have hb5 := Only.of_below (S := (Own3 (w3.heap.size + 2) w3.heap.size (w3.heap.size + 1))) hb
 have A_5 : Hid (B3 w5 w.heap.size x.V ⟨x.S.toArray⟩ (.slice al1 x.L.length c1)) := A_4.out.keep (hb5.block _ A_4.out.lt (fun e => by have h8 := HOW1.out _ e; have h7 := S_3.out; omega))
 have C_5 : Hid (B3 w5 (w.heap.size + 1) y.V ⟨y.S.toArray⟩ (.slice al2 y.L.length c2)) := C_4.out.keep (hb5.block _ C_4.out.lt (fun e => by have h8 := HOW1.out _ e; have h7 := S_3.out; omega))
 have X_5 : Hid (RT (fun g => g < w.heap.size) w5 x.L al1) := X_4.out.keep (fun g hg hl => hb5.block g hl (fun e => by have h8 := HOW1.out _ e; have h7 := S_3.out; omega))
 have Y_5 : Hid (RT (fun g => g < w.heap.size) w5 y.L al2) := Y_4.out.keep (fun g hg hl => hb5.block g hl (fun e => by have h8 := HOW1.out _ e; have h7 := S_3.out; omega))
 have D_5 : Hid (Below w.heap.size w w5) := ((Only.of_below D_4.out).trans (hb5.mono (S' := fun g => w.heap.size ≤ g) (fun g _ e => by have h8 := HOW1.out _ e; have h7 := S_3.out; omega))).toBelow (fun g hg => hg)
 clear g1 hb hb5 A_4 C_4 X_4 Y_4 D_4 HN T_4
 obtain ⟨a0, a1, a2, af⟩ := A_5.out.cells
 obtain ⟨b0, b1, b2, bf⟩ := C_5.out.cells
 have HU := hidden (unify_n (A := fun g => g < w3.heap.size ∨ (w4.heap.size ≤ g ∧ g < w5.heap.size)) (fun g hg => by omega) T_5.out (x := x) (y := y) c1 c2 XE.out.2.1 YE.out.2.1 (by omega) XE.out.2.2 YE.out.2.2 (X_5.out.mono (fun g hg _ e => by have h8 := HOW1.out _ e; have h7 := S_3.out; omega)) (Y_5.out.mono (fun g hg _ e => by have h8 := HOW1.out _ e; have h7 := S_3.out; omega)) (by omega))
 go_wp2_with fail
 refine HU.out.mono ?_
 intro e w6 h9
 obtain ⟨e1, rfl, g1, h9⟩ := h9.num
 have U_6 := hidden (U_5.out.only g1 (fun g hg => HOL1.out g hg))
 have A_6 : Hid (B3 w6 w.heap.size x.V ⟨x.S.toArray⟩ (.slice al1 x.L.length c1)) := A_5.out.keep (g1.block _ A_5.out.lt (fun e => by have h8 := HOW1.out _ e; have h7 := S_3.out; omega))
 have C_6 : Hid (B3 w6 (w.heap.size + 1) y.V ⟨y.S.toArray⟩ (.slice al2 y.L.length c2)) := C_5.out.keep (g1.block _ C_5.out.lt (fun e => by have h8 := HOW1.out _ e; have h7 := S_3.out; omega))
 have X_6 : Hid (RT (fun g => g < w.heap.size) w6 x.L al1) := X_5.out.keep (fun g hg hl => g1.block g hl (fun e => by have h8 := HOW1.out _ e; have h7 := S_3.out; omega))
 have Y_6 : Hid (RT (fun g => g < w.heap.size) w6 y.L al2) := Y_5.out.keep (fun g hg hl => g1.block g hl (fun e => by have h8 := HOW1.out _ e; have h7 := S_3.out; omega))
 have D_6 : Hid (Below w.heap.size w w6) := ((Only.of_below D_5.out).trans (g1.mono (S' := fun g => w.heap.size ≤ g) (fun g _ e => by have h8 := HOW1.out _ e; have h7 := S_3.out; omega))).toBelow (fun g hg => hg)
 have hs56 := g1.size
 have H1 := hidden h9
 clear g1 h9 HU A_5 C_5 X_5 Y_5 D_5 T_5 U_5
 clear a0 a1 a2 af b0 b1 b2 bf
 obtain ⟨a0, a1, a2, af⟩ := A_6.out.cells
 obtain ⟨b0, b1, b2, bf⟩ := C_6.out.cells
 have HU := hidden (unify_n (A := fun g => g < w4.heap.size) (fun g hg => by omega) U_6.out (x := y) (y := x) c2 c1 YE.out.2.1 XE.out.2.1 (by omega) YE.out.2.2 XE.out.2.2 (Y_6.out.mono (fun g hg _ e => by have h8 := HOW2b.out _ e; have h7 := S_3.out; omega)) (X_6.out.mono (fun g hg _ e => by have h8 := HOW2b.out _ e; have h7 := S_3.out; omega)) (by omega))
 go_wp2_with fail
 refine HU.out.mono ?_
 intro e w7 h9
 obtain ⟨e2, rfl, g1, h9⟩ := h9.num
 have A_7 : Hid (B3 w7 w.heap.size x.V ⟨x.S.toArray⟩ (.slice al1 x.L.length c1)) := A_6.out.keep (g1.block _ A_6.out.lt (fun e => by have h8 := HOW2b.out _ e; have h7 := S_3.out; omega))
 have C_7 : Hid (B3 w7 (w.heap.size + 1) y.V ⟨y.S.toArray⟩ (.slice al2 y.L.length c2)) := C_6.out.keep (g1.block _ C_6.out.lt (fun e => by have h8 := HOW2b.out _ e; have h7 := S_3.out; omega))
 have X_7 : Hid (RT (fun g => g < w.heap.size) w7 x.L al1) := X_6.out.keep (fun g hg hl => g1.block g hl (fun e => by have h8 := HOW2b.out _ e; have h7 := S_3.out; omega))
 have Y_7 : Hid (RT (fun g => g < w.heap.size) w7 y.L al2) := Y_6.out.keep (fun g hg hl => g1.block g hl (fun e => by have h8 := HOW2b.out _ e; have h7 := S_3.out; omega))
 have D_7 : Hid (Below w.heap.size w w7) := ((Only.of_below D_6.out).trans (g1.mono (S' := fun g => w.heap.size ≤ g) (fun g _ e => by have h8 := HOW2b.out _ e; have h7 := S_3.out; omega))).toBelow (fun g hg => hg)
 have HG7 := hidden g1
 have hs67 := g1.size
 have H2 := hidden h9
 clear g1 h9 HU A_6 C_6 X_6 Y_6 D_6 U_6
 clear a0 a1 a2 af b0 b1 b2 bf
 rcases H1.out with ⟨hev, hbig⟩ | ⟨hsx, hsy, ⟨c, hu1, hev, hx1⟩ | ⟨ρ, hu1, hev, hT⟩⟩
 ·rcases H2.out with ⟨hev2, _⟩ | ⟨k1, k2, _⟩
  ·subst hev hev2
   clear hbig H1 H2
   go_wp2_with fail
   go_ret
   exact ⟨rfl, D_7.out⟩
  ·exfalso
   omega
 ·rcases H2.out with ⟨_, k1⟩ | ⟨_, _, ⟨c2', hu2, hev2, hx2⟩ | ⟨ρ2, hu2, _, _⟩⟩
  ·exfalso
   omega
  ·clear H1 H2 hu1 hu2 hsx hsy hx1 hx2
   have q1 : (e1 == 3) = false := beq_eq_false_iff_ne.2 (by omega)
   have q2 : (e2 == 3) = false := beq_eq_false_iff_ne.2 (by omega)
   have q3 : (e1 != 0) = true := bne_iff_ne.2 (by omega)
   have q4 : (e2 != 0) = true := bne_iff_ne.2 (by omega)
   have q5 : (e1 == 0) = false := beq_eq_false_iff_ne.2 (by omega)
   have q6 : (e2 == 0) = false := beq_eq_false_iff_ne.2 (by omega)
   have q7 : ¬ e1 = 0 := by omega
   have q8 : ¬ e2 = 0 := by omega
   clear hev hev2
   go_wp2_with fail
   go_ret
   exact ⟨rfl, D_7.out⟩
  ·exfalso
   rw [ap_v, ap_v] at *
   obtain ⟨u, hu⟩ := un_turned_fails hu2 hu1
   cases hu
 rcases H2.out with ⟨_, k1⟩ | ⟨_, _, ⟨c2', hu2, hev2, _⟩ | ⟨ρ2, hu2, hev2, hU⟩⟩
 ·exfalso
  omega
 ·exfalso
  obtain ⟨u, hu⟩ := un_turned_fails hu1 hu2
  cases hu
 subst hev hev2
 have T_7 := hidden (TBn.only hT HG7.out (fun g hg => Or.inr ⟨HOW2.out g hg, HOL2.out g hg⟩))
 have U_7 := hidden hU
 have HU1 := hidden hu1
 have HU2 := hidden hu2
 clear H1 H2 hu1 hu2 hT hU hsx hsy HG7
 obtain ⟨a0, a1, a2, af⟩ := A_7.out.cells
 obtain ⟨b0, b1, b2, bf⟩ := C_7.out.cells
 have h37 : w5.heap.size ≤ w7.heap.size := by omega
 have Z_8 : Hid (RT (fun g => ¬ (Own3 (w3.heap.size + 2) w3.heap.size (w3.heap.size + 1) g ∨ Own3 (w4.heap.size + 2) w4.heap.size (w4.heap.size + 1) g)) (w7.alloc (.cells #[.int .i64 x.V, .string ⟨x.S.toArray⟩, .slice al1 x.L.length c1, .int .i64 y.V, .string ⟨y.S.toArray⟩, .slice al2 y.L.length c2] 24)) [x, y] (some ⟨w7.heap.size, 0, none⟩)) := by
  refine rt_mk2 (w := w7) (x := x) (y := y) (c := c1) (d := c2) ?_ (X_7.out.mono (fun g hg _ e => ?_)) (Y_7.out.mono (fun g hg _ e => ?_)) XE.out.2.2 YE.out.2.2
  ·rintro (e | e)
   ·have h8 := HOL1.out _ e; omega
   ·have h8 := HOL2.out _ e; omega
  ·have h7 := S_3.out
   rcases e with e | e
   ·have h8 := HOW1.out _ e; omega
   ·have h8 := HOW2b.out _ e; omega
  ·have h7 := S_3.out
   rcases e with e | e
   ·have h8 := HOW1.out _ e; omega
   ·have h8 := HOW2b.out _ e; omega
 have T_8 := hidden (T_7.out.alloc (.cells #[.int .i64 x.V, .string ⟨x.S.toArray⟩, .slice al1 x.L.length c1, .int .i64 y.V, .string ⟨y.S.toArray⟩, .slice al2 y.L.length c2] 24))
 have U_8 := hidden (U_7.out.alloc (.cells #[.int .i64 x.V, .string ⟨x.S.toArray⟩, .slice al1 x.L.length c1, .int .i64 y.V, .string ⟨y.S.toArray⟩, .slice al2 y.L.length c2] 24))
 have D_8 := hidden (D_7.out.alloc D_7.out.size (.cells #[.int .i64 x.V, .string ⟨x.S.toArray⟩, .slice al1 x.L.length c1, .int .i64 y.V, .string ⟨y.S.toArray⟩, .slice al2 y.L.length c2] 24))
 have hs78 := Nat.le_of_lt (show w7.heap.size < (w7.alloc (.cells #[.int .i64 x.V, .string ⟨x.S.toArray⟩, .slice al1 x.L.length c1, .int .i64 y.V, .string ⟨y.S.toArray⟩, .slice al2 y.L.length c2] 24)).heap.size by rw [nblk_alloc]; omega)
 go_wp2_with fail
 generalize w7.alloc (.cells #[.int .i64 x.V, .string ⟨x.S.toArray⟩, .slice al1 x.L.length c1, .int .i64 y.V, .string ⟨y.S.toArray⟩, .slice al2 y.L.length c2] 24) = w8 at *
 refine (named_any w8 ⟨#[42]⟩ _ 2 2).mono ?_
 rintro e w9 ⟨rfl, hb⟩
 have T_9 := hidden (T_8.out.below hb)
 have U_9 := hidden (U_8.out.below hb)
 have Z_9 := hidden (Z_8.out.beneath hb (Nat.le_refl _))
 have D_9 := hidden (D_8.out.trans (hb.mono D_8.out.size))
 have hs89 := hb.size
 clear hb T_8 U_8 Z_8 D_8 T_7 U_7 A_7 C_7 X_7 Y_7 D_7
 clear a0 a1 a2 af b0 b1 b2 bf
 go_upto_region 14 with fail
 obtain ⟨z, hz⟩ : ∃ z, both x y = z := ⟨_, rfl⟩
 have HZM : Hid (z.may = true) := by show _ = _; rw [← hz]; exact both_may XE.out.2.1 YE.out.2.1
 have HZB : Hid (Bd z) := by rw [← hz]; exact both_bd x y
 have hzs : z.sz ≤ 4001 := by rw [← hz, both_sz]; omega
 obtain ⟨zl, hzl⟩ : ∃ zl : Option Addr, some ⟨w7.heap.size, 0, none⟩ = zl := ⟨_, rfl⟩
 obtain ⟨zc, hzc⟩ : ∃ zc : Nat, 2 = zc := ⟨_, rfl⟩
 have E_0 : Hid (EnvB (fun g => Own3 (w3.heap.size + 2) w3.heap.size (w3.heap.size + 1) g ∨ Own3 (w4.heap.size + 2) w4.heap.size (w4.heap.size + 1) g) w w9.heap.size z zl zc (w9.alloc (.cells #[.int .i64 0, .string ⟨#[42]⟩, .slice (some ⟨w7.heap.size, 0, none⟩) 2 2] 24)).drew) := by
  have e0 : EnvB (fun g => Own3 (w3.heap.size + 2) w3.heap.size (w3.heap.size + 1) g ∨ Own3 (w4.heap.size + 2) w4.heap.size (w4.heap.size + 1) g) w w9.heap.size z zl zc (w9.alloc (.cells #[.int .i64 0, .string ⟨#[42]⟩, .slice (some ⟨w7.heap.size, 0, none⟩) 2 2] 24)) := by
   refine ⟨?_, ?_, D_9.out.alloc D_9.out.size _, fun g hg => ?_⟩
   ·rw [← hz, ← hzl, ← hzc]
    exact B3.new w9 _ _ _
   ·rw [← hz, ← hzl]
    exact Z_9.out.alloc _
   ·have h7 := S_3.out
    rcases hg with e | e
    ·have h8 := HOW1.out _ e; have h9 := HOL1.out _ e; omega
    ·have h8 := HOW2b.out _ e; have h9 := HOL2.out _ e; omega
  exact e0.below (drew_below10 _)
 have T_0 := hidden (T_9.out.alloc (.cells #[.int .i64 0, .string ⟨#[42]⟩, .slice (some ⟨w7.heap.size, 0, none⟩) 2 2] 24)).drew
 have U_0 := hidden (U_9.out.alloc (.cells #[.int .i64 0, .string ⟨#[42]⟩, .slice (some ⟨w7.heap.size, 0, none⟩) 2 2] 24)).drew
 have hz0 : w5.heap.size ≤ (w9.alloc (.cells #[.int .i64 0, .string ⟨#[42]⟩, .slice (some ⟨w7.heap.size, 0, none⟩) 2 2] 24)).drew.heap.size := by
  have h9 := nblk_alloc w9 (.cells #[.int .i64 0, .string ⟨#[42]⟩, .slice (some ⟨w7.heap.size, 0, none⟩) 2 2] 24)
  show _ ≤ (w9.alloc (.cells #[.int .i64 0, .string ⟨#[42]⟩, .slice (some ⟨w7.heap.size, 0, none⟩) 2 2] 24)).heap.size
  omega
 clear T_9 U_9 Z_9 D_9
 generalize w9.alloc (.cells #[.int .i64 0, .string ⟨#[42]⟩, .slice (some ⟨w7.heap.size, 0, none⟩) 2 2] 24) = w10 at *
 obtain ⟨z00, z01, z02⟩ : w10.cell? ⟨w9.heap.size, 0, none⟩ = some (.int .i64 z.V) ∧ w10.cell? ⟨w9.heap.size, 1, none⟩ = some (.string ⟨z.S.toArray⟩) ∧ w10.cell? ⟨w9.heap.size, 2, none⟩ = some (.slice zl z.L.length zc) := E_0.out.cells
 obtain ⟨n, hn⟩ : ∃ n, (z.ty.ap ρ).sz = n := ⟨_, rfl⟩
 have HNZ := hidden hn
 have HGR := hidden (un_good1 HU1.out (x.good XE.out.2.1) (y.good YE.out.2.1))
 have HGR2 := hidden (un_good1 HU2.out (y.good YE.out.2.1) (x.good XE.out.2.1))
 have HCC : Hid (canT (z.ty.ap ρ) = canT (z.ty.ap ρ2)) := un_turned HU1.out HU2.out z.ty
 have HQT0 := hidden (Ty.rw_ty _ (z.ty.good_ap HGR.out (z.good HZM.out)))
 have HQM0 := hidden (Ty.rw_may _ (z.ty.good_ap HGR.out (z.good HZM.out)))
 have HQT20 := hidden (Ty.rw_ty _ (z.ty.good_ap HGR2.out (z.good HZM.out)))
 have HQM20 := hidden (Ty.rw_may _ (z.ty.good_ap HGR2.out (z.good HZM.out)))
 have hn2 : (z.ty.ap ρ2).sz = n := by rw [← canT_sz, ← HCC.out, canT_sz]; exact hn
 obtain ⟨qz, hqz⟩ : ∃ qz, (z.ty.ap ρ).rw = qz := ⟨_, rfl⟩
 obtain ⟨qy, hqy⟩ : ∃ qy, (z.ty.ap ρ2).rw = qy := ⟨_, rfl⟩
 have HR1 := hidden hqz
 have HR2 := hidden hqy
 have HQT : Hid (qz.ty = z.ty.ap ρ) := by show _ = _; rw [← hqz]; exact HQT0.out
 have HQM : Hid (qz.may = true) := by show _ = _; rw [← hqz]; exact HQM0.out
 have HQT2 : Hid (qy.ty = z.ty.ap ρ2) := by show _ = _; rw [← hqy]; exact HQT20.out
 have HQM2 : Hid (qy.may = true) := by show _ = _; rw [← hqy]; exact HQM20.out
 have HQN : Hid (qz.sz = n) := by show _ = _; rw [← hqz, Ty.sz_rw]; exact hn
 have HQN2 : Hid (qy.sz = n) := by show _ = _; rw [← hqy, Ty.sz_rw]; exact hn2
 have HCN : Hid ((z.ty.ap ρ).sz ≤ n) := Nat.le_of_eq hn
 clear hn hn2 hqz hqy hz hzl hzc HQT0 HQM0 HQT20 HQM20 HGR HGR2
 have em1 : ((4000 : Nat) : Int) = 4000 := rfl
 by_cases cn : 4000 < n
 ·have HMN : Hid (min n (4000 + 1) = 4001) := by show _ = _; omega
  have em2 : ((4001 : Nat) : Int) = 4001 := rfl
  refine region_till (S := (fun w' => w'.cell? ⟨w9.heap.size, 0, none⟩ = some (.int .i64 z.V) ∧ w'.cell? ⟨w9.heap.size, 1, none⟩ = some (.string ⟨z.S.toArray⟩) ∧ w'.cell? ⟨w9.heap.size, 2, none⟩ = some (.slice zl z.L.length zc))) (kz := 15) (by kernel_rfl) ⟨z00, z01, z02⟩ (fun hHeld => ?_)
  refine AnyTill.tk (i := 0) (v := ?_) hHeld ?_ ?_
  rotate_left
  ·(intro w hSw; (try dsimp only at hSw); go_simp; (try with_reducible rfl))
  (try simp only [Act.put, q4, q5, q6, q1, q2, q3])
  refine AnyTill.tk (i := 1) (v := ?_) hHeld ?_ ?_
  rotate_left
  ·(intro w hSw; (try dsimp only at hSw); go_simp; (try with_reducible rfl))
  (try simp only [Act.put, q4, q5, q6, q1, q2, q3])
  refine AnyTill.one (i := 2) (by kernel_rfl) rfl (fun K9 hK9 => ?_)
  (try simp only [q1, q2, q3])
  (first | rw [if_pos (by rfl)] | skip)
  go_simp
  have hh := size_n T_0.out (x := z) zc HZM.out (by omega) HZB.out (E_0.out.t.mono (fun g hg _ e => hg (Or.inl e))) (by omega) (most := 4000) (by omega)
  rw [HNZ.out, HMN.out, em1, em2] at hh
  refine hh.mono ?_
  clear hh
  rintro e v1 ⟨rfl, g2, g1⟩
  have E_1 := hidden (E_0.out.only g1 (fun g h => Or.inl h))
  have U_1 := hidden (U_0.out.only g1 (fun g hg => HOL1.out g hg))
  have T_1 := hidden g2
  have hz1 : w5.heap.size ≤ v1.heap.size := Nat.le_trans hz0 g1.size
  clear g2 g1
  obtain ⟨z10, z11, z12⟩ := E_1.out.cells
  refine hK9.out _ _ (fun _ => ⟨z10, z11, z12⟩) ?_
  clear hK9 K9
  (try simp only [Act.put, q4, q5, q6, q1, q2, q3])
  clear z00 z01 z02
  refine AnyTill.take (i := 3) (v := ?_) rfl (by kernel_rfl) (by kernel_rfl) (by kernel_rfl) (by kernel_rfl) (fun _ _ _ h => h) (Or.inl ⟨by rfl, ?_⟩) ⟨z10, z11, z12⟩ ?_
  rotate_left
  ·(intro w hSw; (try dsimp only at hSw); go_simp; (try with_reducible rfl))
  (try simp only [Act.put, q4, q5, q6, q1, q2, q3])
  refine AnyTill.take (i := 4) (v := ?_) rfl (by kernel_rfl) (by kernel_rfl) (by kernel_rfl) (by kernel_rfl) (fun _ _ _ h => h) (Or.inl ⟨by rfl, ?_⟩) ⟨z10, z11, z12⟩ ?_
  rotate_left
  ·(intro w hSw; (try dsimp only at hSw); go_simp; (try with_reducible rfl))
  (try simp only [Act.put, q4, q5, q6, q1, q2, q3])
  refine AnyTill.take (i := 5) (v := undef) rfl (by kernel_rfl) (by kernel_rfl) (by kernel_rfl) (by kernel_rfl) (fun _ _ _ h => h) (Or.inr ⟨by rfl, rfl⟩) ⟨z10, z11, z12⟩ ?_
  (try simp only [Act.put, q4, q5, q6, q1, q2, q3])
  refine AnyTill.take (i := 6) (v := undef) rfl (by kernel_rfl) (by kernel_rfl) (by kernel_rfl) (by kernel_rfl) (fun _ _ _ h => h) (Or.inr ⟨by rfl, rfl⟩) ⟨z10, z11, z12⟩ ?_
  (try simp only [Act.put, q4, q5, q6, q1, q2, q3])
  refine AnyTill.take (i := 7) (v := undef) rfl (by kernel_rfl) (by kernel_rfl) (by kernel_rfl) (by kernel_rfl) (fun _ _ _ h => h) (Or.inr ⟨by rfl, rfl⟩) ⟨z10, z11, z12⟩ ?_
  (try simp only [Act.put, q4, q5, q6, q1, q2, q3])
  refine AnyTill.take (i := 8) (v := undef) rfl (by kernel_rfl) (by kernel_rfl) (by kernel_rfl) (by kernel_rfl) (fun _ _ _ h => h) (Or.inr ⟨by rfl, rfl⟩) ⟨z10, z11, z12⟩ ?_
  (try simp only [Act.put, q4, q5, q6, q1, q2, q3])
  refine AnyTill.take (i := 9) (v := undef) rfl (by kernel_rfl) (by kernel_rfl) (by kernel_rfl) (by kernel_rfl) (fun _ _ _ h => h) (Or.inr ⟨by rfl, rfl⟩) ⟨z10, z11, z12⟩ ?_
  (try simp only [Act.put, q4, q5, q6, q1, q2, q3])
  refine AnyTill.take (i := 10) (v := undef) rfl (by kernel_rfl) (by kernel_rfl) (by kernel_rfl) (by kernel_rfl) (fun _ _ _ h => h) (Or.inr ⟨by rfl, rfl⟩) ⟨z10, z11, z12⟩ ?_
  (try simp only [Act.put, q4, q5, q6, q1, q2, q3])
  refine AnyTill.take (i := 11) (v := undef) rfl (by kernel_rfl) (by kernel_rfl) (by kernel_rfl) (by kernel_rfl) (fun _ _ _ h => h) (Or.inr ⟨by rfl, rfl⟩) ⟨z10, z11, z12⟩ ?_
  (try simp only [Act.put, q4, q5, q6, q1, q2, q3])
  refine AnyTill.take (i := 12) (v := undef) rfl (by kernel_rfl) (by kernel_rfl) (by kernel_rfl) (by kernel_rfl) (fun _ _ _ h => h) (Or.inr ⟨by rfl, rfl⟩) ⟨z10, z11, z12⟩ ?_
  (try simp only [Act.put, q4, q5, q6, q1, q2, q3])
  refine AnyTill.take (i := 13) (v := undef) rfl (by kernel_rfl) (by kernel_rfl) (by kernel_rfl) (by kernel_rfl) (fun _ _ _ h => h) (Or.inr ⟨by rfl, rfl⟩) ⟨z10, z11, z12⟩ ?_
  (try simp only [Act.put, q4, q5, q6, q1, q2, q3])
  refine AnyTill.take (i := 14) (v := ?_) rfl (by kernel_rfl) (by kernel_rfl) (by kernel_rfl) (by kernel_rfl) (fun _ _ _ h => h) (Or.inl ⟨by rfl, ?_⟩) ⟨z10, z11, z12⟩ ?_
  rotate_left
  ·(intro w hSw; (try dsimp only at hSw); go_simp; (try with_reducible rfl))
  (try simp only [Act.put, q4, q5, q6, q1, q2, q3])
  refine AnyTill.one (i := 15) (by kernel_rfl) rfl (fun K9 hK9 => ?_)
  (try simp only [q1, q2, q3])
  (first | rw [if_pos (by rfl)] | skip)
  go_simp
  refine hK9.out _ _ (fun h => absurd rfl h) ?_
  clear hK9 K9
  (try simp only [Act.put, q4, q5, q6, q1, q2, q3])
  refine AnyTill.done (by kernel_rfl) ?_ _
  (try simp only [Act.put, q4, q5, q6, q1, q2, q3])
  clear z10 z11 z12
  go_wp2_with fail
  go_ret
  exact ⟨rfl, E_1.out.d⟩
 ·have HMN : Hid (min n (4000 + 1) = n) := by show _ = _; omega
  have zc9 : ¬ (4000 : Int) < (n : Int) := by omega
  have HQZ : Hid (qz.sz ≤ 1000000) := by show _ ≤ _; rw [HQN.out]; omega
  have HQZ2 : Hid (qy.sz ≤ 1000000) := by show _ ≤ _; rw [HQN2.out]; omega
  have HNS : Hid ((z.ty.ap ρ).sz ≤ 4001) := by show _ ≤ _; have h9 := HCN.out; omega
  refine region_till (S := (fun w' => w'.cell? ⟨w9.heap.size, 0, none⟩ = some (.int .i64 z.V) ∧ w'.cell? ⟨w9.heap.size, 1, none⟩ = some (.string ⟨z.S.toArray⟩) ∧ w'.cell? ⟨w9.heap.size, 2, none⟩ = some (.slice zl z.L.length zc))) (kz := 15) (by kernel_rfl) ⟨z00, z01, z02⟩ (fun hHeld => ?_)
  refine AnyTill.tk (i := 0) (v := ?_) hHeld ?_ ?_
  rotate_left
  ·(intro w hSw; (try dsimp only at hSw); go_simp; (try with_reducible rfl))
  (try simp only [Act.put, q4, q5, q6, q1, q2, q3])
  refine AnyTill.tk (i := 1) (v := ?_) hHeld ?_ ?_
  rotate_left
  ·(intro w hSw; (try dsimp only at hSw); go_simp; (try with_reducible rfl))
  (try simp only [Act.put, q4, q5, q6, q1, q2, q3])
  refine AnyTill.one (i := 2) (by kernel_rfl) rfl (fun K9 hK9 => ?_)
  (try simp only [q1, q2, q3])
  (first | rw [if_pos (by rfl)] | skip)
  go_simp
  have hh := size_n T_0.out (x := z) zc HZM.out (by omega) HZB.out (E_0.out.t.mono (fun g hg _ e => hg (Or.inl e))) (by omega) (most := 4000) (by omega)
  rw [HNZ.out, HMN.out, em1] at hh
  refine hh.mono ?_
  clear hh
  rintro e v1 ⟨rfl, g2, g1⟩
  have E_1 := hidden (E_0.out.only g1 (fun g h => Or.inl h))
  have U_1 := hidden (U_0.out.only g1 (fun g hg => HOL1.out g hg))
  have T_1 := hidden g2
  have hz1 : w5.heap.size ≤ v1.heap.size := Nat.le_trans hz0 g1.size
  clear g2 g1
  obtain ⟨z10, z11, z12⟩ := E_1.out.cells
  refine hK9.out _ _ (fun _ => ⟨z10, z11, z12⟩) ?_
  clear hK9 K9
  (try simp only [Act.put, q4, q5, q6, q1, q2, q3])
  clear z00 z01 z02
  refine AnyTill.take (i := 3) (v := ?_) rfl (by kernel_rfl) (by kernel_rfl) (by kernel_rfl) (by kernel_rfl) (fun _ _ _ h => h) (Or.inl ⟨by rfl, ?_⟩) ⟨z10, z11, z12⟩ ?_
  rotate_left
  ·(intro w hSw; (try dsimp only at hSw); go_simp; (try with_reducible rfl))
  (try simp only [Act.put, q4, q5, q6, q1, q2, q3])
  refine AnyTill.take (i := 4) (v := ?_) rfl (by kernel_rfl) (by kernel_rfl) (by kernel_rfl) (by kernel_rfl) (fun _ _ _ h => h) (Or.inl ⟨by rfl, ?_⟩) ⟨z10, z11, z12⟩ ?_
  rotate_left
  ·(intro w hSw; (try dsimp only at hSw); go_simp; (try with_reducible rfl))
  (try simp only [Act.put, q4, q5, q6, q1, q2, q3])
  refine AnyTill.take (i := 5) (v := ?_) rfl (by kernel_rfl) (by kernel_rfl) (by kernel_rfl) (by kernel_rfl) (fun _ _ _ h => h) (Or.inl ⟨by rfl, ?_⟩) ⟨z10, z11, z12⟩ ?_
  rotate_left
  ·(intro w hSw; (try dsimp only at hSw); go_simp; (try with_reducible rfl))
  (try simp only [Act.put, q4, q5, q6, q1, q2, q3])
  refine AnyTill.take (i := 6) (v := ?_) rfl (by kernel_rfl) (by kernel_rfl) (by kernel_rfl) (by kernel_rfl) (fun _ _ _ h => h) (Or.inl ⟨by rfl, ?_⟩) ⟨z10, z11, z12⟩ ?_
  rotate_left
  ·(intro w hSw; (try dsimp only at hSw); go_simp; (try with_reducible rfl))
  (try simp only [Act.put, q4, q5, q6, q1, q2, q3])
  refine AnyTill.take (i := 9) (v := ?_) rfl (by kernel_rfl) (by kernel_rfl) (by kernel_rfl) (by kernel_rfl) (fun _ _ _ h => h) (Or.inl ⟨by rfl, ?_⟩) ⟨z10, z11, z12⟩ ?_
  rotate_left
  ·(intro w hSw; (try dsimp only at hSw); go_simp; (try with_reducible rfl))
  (try simp only [Act.put, q4, q5, q6, q1, q2, q3])
  refine AnyTill.take (i := 10) (v := ?_) rfl (by kernel_rfl) (by kernel_rfl) (by kernel_rfl) (by kernel_rfl) (fun _ _ _ h => h) (Or.inl ⟨by rfl, ?_⟩) ⟨z10, z11, z12⟩ ?_
  rotate_left
  ·(intro w hSw; (try dsimp only at hSw); go_simp; (try with_reducible rfl))
  (try simp only [Act.put, q4, q5, q6, q1, q2, q3])
  refine AnyTill.one (i := 7) (by kernel_rfl) rfl (fun K9 hK9 => ?_)
  (try simp only [q1, q2, q3])
  (first | rw [if_pos (by rfl)] | skip)
  go_simp
  have hh := res_n T_1.out (x := z) zc HZM.out (by omega) HZB.out (E_1.out.t.mono (fun g hg _ e => hg (Or.inl e))) (by omega)
  rw [HR1.out] at hh
  refine hh.mono ?_
  clear hh
  rintro e v2 ⟨al2', cp2', rfl, g2, g3, g1, g4⟩
  have E_2 := hidden (E_1.out.only g1 (fun g h => Or.inl h))
  have U_2 := hidden (U_1.out.only g1 (fun g hg => HOL1.out g hg))
  have Q_2 := hidden g3
  have BQ := hidden g4
  have hz2 : w5.heap.size ≤ v2.heap.size := Nat.le_trans hz1 g1.size
  clear g1 g2 g3 g4
  obtain ⟨z20, z21, z22⟩ := E_2.out.cells
  refine hK9.out _ _ (fun _ => ⟨z20, z21, z22⟩) ?_
  clear hK9 K9
  (try simp only [Act.put, q4, q5, q6, q1, q2, q3])
  clear z10 z11 z12
  refine AnyTill.one (i := 8) (by kernel_rfl) rfl (fun K9 hK9 => ?_)
  (try simp only [q1, q2, q3])
  (first | rw [if_pos (by rfl)] | skip)
  go_simp
  refine (canon_any cp2' HQZ.out HQM.out BQ.out Q_2.out).mono ?_
  rintro e v3 ⟨al3, cp3, c3, hc3, rfl, g3, hb, g4⟩
  rw [HQT.out] at hc3
  have HC3 := hidden hc3
  have E_3 := hidden (E_2.out.below hb)
  have U_3 := hidden (U_2.out.below hb)
  have P_3 : Hid (RT (fun g => w5.heap.size ≤ g) v3 c3.L al3) := g3.mono (fun g hg _ => by omega)
  clear hb g3 g4 hc3
  obtain ⟨z30, z31, z32⟩ := E_3.out.cells
  refine hK9.out _ _ (fun _ => ⟨z30, z31, z32⟩) ?_
  clear hK9 K9
  (try simp only [Act.put, q4, q5, q6, q1, q2, q3])
  clear z20 z21 z22
  refine AnyTill.one (i := 11) (by kernel_rfl) rfl (fun K9 hK9 => ?_)
  (try simp only [q1, q2, q3])
  (first | rw [if_pos (by rfl)] | skip)
  go_simp
  have hh := res_n U_3.out (x := z) zc HZM.out (by omega) HZB.out (E_3.out.t.mono (fun g hg _ e => hg (Or.inr e))) (by omega)
  rw [HR2.out] at hh
  refine hh.mono ?_
  clear hh
  rintro e v4 ⟨al4, cp4, rfl, g2, g3, g1, g4⟩
  have E_4 := hidden (E_3.out.only g1 (fun g h => Or.inr h))
  have P_4 : Hid (RT (fun g => w5.heap.size ≤ g) v4 c3.L al3) := P_3.out.keep (fun g hg hl => g1.block g hl (fun e => by have h9 := HOL2.out g e; omega))
  have Q_4 := hidden g3
  have BQ4 := hidden g4
  clear g1 g2 g3 g4
  obtain ⟨z40, z41, z42⟩ := E_4.out.cells
  refine hK9.out _ _ (fun _ => ⟨z40, z41, z42⟩) ?_
  clear hK9 K9
  (try simp only [Act.put, q4, q5, q6, q1, q2, q3])
  clear z30 z31 z32
  refine AnyTill.one (i := 12) (by kernel_rfl) rfl (fun K9 hK9 => ?_)
  (try simp only [q1, q2, q3])
  (first | rw [if_pos (by rfl)] | skip)
  go_simp
  refine (canon_any cp4 HQZ2.out HQM2.out BQ4.out Q_4.out).mono ?_
  rintro e v5 ⟨al5, cp5, c5, hc5, rfl, g3, hb, g4⟩
  rw [HQT2.out] at hc5
  have E_5 := hidden (E_4.out.below hb)
  have P_5 := hidden (P_4.out.beneath hb (Nat.le_refl _))
  have P5b := hidden g3
  obtain rfl : c3 = c5 := by rw [HC3.out, hc5, HCC.out]
  clear hb g3 g4 hc5
  obtain ⟨z50, z51, z52⟩ := E_5.out.cells
  refine hK9.out _ _ (fun _ => ⟨z50, z51, z52⟩) ?_
  clear hK9 K9
  (try simp only [Act.put, q4, q5, q6, q1, q2, q3])
  clear z40 z41 z42
  refine AnyTill.one (i := 13) (by kernel_rfl) rfl (fun K9 hK9 => ?_)
  (try simp only [q1, q2, q3])
  (first | rw [if_pos (by rfl)] | skip)
  go_simp
  refine (rsame10 4001 c3 c3 (by rw [HC3.out, Ty.sz_rw, canT_sz]; exact HNS.out) (by omega) v5 al3 al5 cp3 cp5 P_5.out P5b.out).mono ?_
  rintro e v6 ⟨b6, rfl, hb2, hb⟩
  obtain rfl : b6 = true := hb2.2 rfl
  have E_6 := hidden (E_5.out.below hb)
  clear hb hb2
  obtain ⟨z60, z61, z62⟩ := E_6.out.cells
  refine hK9.out _ _ (fun _ => ⟨z60, z61, z62⟩) ?_
  clear hK9 K9
  (try simp only [Act.put, q4, q5, q6, q1, q2, q3])
  clear z50 z51 z52
  refine AnyTill.take (i := 14) (v := ?_) rfl (by kernel_rfl) (by kernel_rfl) (by kernel_rfl) (by kernel_rfl) (fun _ _ _ h => h) (Or.inl ⟨by rfl, ?_⟩) ⟨z60, z61, z62⟩ ?_
  rotate_left
  ·(intro w hSw; (try dsimp only at hSw); go_simp; (try with_reducible rfl))
  (try simp only [Act.put, q4, q5, q6, q1, q2, q3])
  refine AnyTill.one (i := 15) (by kernel_rfl) rfl (fun K9 hK9 => ?_)
  (try simp only [q1, q2, q3])
  (first | rw [if_pos (by rfl)] | skip)
  go_simp
  refine hK9.out _ _ (fun h => absurd rfl h) ?_
  clear hK9 K9
  (try simp only [Act.put, q4, q5, q6, q1, q2, q3])
  refine AnyTill.done (by kernel_rfl) ?_ _
  (try simp only [Act.put, q4, q5, q6, q1, q2, q3])
  clear z60 z61 z62
  go_wp2_with fail
  go_ret
  exact ⟨rfl, E_6.out.d⟩
end Go.Proofs.YtcfgfclapljilaaDoor
