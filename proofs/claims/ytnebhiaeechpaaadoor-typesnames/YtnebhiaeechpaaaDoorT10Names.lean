/-
 Layer 10: TypesNames, walked. No condition but that the arguments are read.
-/
import Derived.Test.YtnebhiaeechpaaaDoorL10Awake
import Derived.Test.YtnebhiaeechpaaaDoorL10Tbn
import Derived.Test.YtnebhiaeechpaaaDoorX10Names
import Derived.Test.YtnebhiaeechpaaaDoorT10Till
namespace Go.Proofs.YtnebhiaeechpaaaDoor
open Go.ChangeShapes Go.WideShapes Go.ChangeAt Go.RowKit Go.Deep
set_option linter.unusedVariables false
set_option linter.unusedSimpArgs false
set_option maxHeartbeats 8000000
set_option maxRecDepth 100000
structure EnvL (w : World) (x y z : Rw) (xl yl zl : Option Addr) (xc yc zc pz : Nat) (fv : Value) (F : List Nat) (B : Nat) (w' : World) : Prop where
 a : B3 w' w.heap.size x.V ⟨x.S.toArray⟩ (.slice xl x.L.length xc)
 b : B3 w' (w.heap.size + 1) y.V ⟨y.S.toArray⟩ (.slice yl y.L.length yc)
 c : B3 w' pz z.V ⟨z.S.toArray⟩ (.slice zl z.L.length zc)
 xt : RT (fun g => g < B) w' x.L xl
 yt : RT (fun g => g < B) w' y.L yl
 zt : RT (fun g => g < B) w' z.L zl
 f : IW w' 0 fv (intsV F)
 fo : ∀ g, fv.ownBlock = some g → g < B
 d : Below w.heap.size w w'
 s : w.heap.size + 1 < B ∧ pz < B ∧ B ≤ w'.heap.size
section
variable {w : World} {x y z : Rw} {xl yl zl : Option Addr} {xc yc zc pz : Nat} {fv tv : Value} {F T : List Nat} {B : Nat} {w' w'' : World}
theorem EnvL.only (h : EnvL w x y z xl yl zl xc yc zc pz fv F B w') {S : Nat → Prop} (k : Only S w' w'') (hS : ∀ g, S g → B ≤ g) : EnvL w x y z xl yl zl xc yc zc pz fv F B w'' := by
 have hB := h.s.2.2
 have q : ∀ g, g < B → w''.heap[g]? = w'.heap[g]? := fun g hg => k.block g (by omega) (fun e => by have h9 := hS g e; omega)
 have h1 := h.s.1
 have h2 := h.s.2.1
 have hz := k.size
 exact ⟨h.a.keep (q _ (by omega)), h.b.keep (q _ (by omega)), h.c.keep (q _ (by omega)), h.xt.keep (fun g hg _ => q g hg), h.yt.keep (fun g hg _ => q g hg), h.zt.keep (fun g hg _ => q g hg), h.f.keep (fun g hg => q g (h.fo g hg)), h.fo, ((Only.of_below h.d).trans (k.mono (S' := fun g => w.heap.size ≤ g) (fun g _ e => by have h9 := hS g e; show _ ≤ _; omega))).toBelow (fun g hg => hg), h1, h2, by omega⟩
theorem EnvL.below (h : EnvL w x y z xl yl zl xc yc zc pz fv F B w') (k : Below w'.heap.size w' w'') : EnvL w x y z xl yl zl xc yc zc pz fv F B w'' := h.only (S := fun _ => False) (Only.of_below k) (fun g c => c.elim)
theorem EnvL.up (h : EnvL w x y z xl yl zl xc yc zc pz fv F B w') : EnvL w x y z xl yl zl xc yc zc pz fv F w'.heap.size w' := by
 have h1 := h.s
 exact ⟨h.a, h.b, h.c, h.xt.mono (fun g _ hl => hl), h.yt.mono (fun g _ hl => hl), h.zt.mono (fun g _ hl => hl), h.f, fun g hg => by have h9 := h.fo g hg; omega, h.d, by omega, by omega, Nat.le_refl _⟩
/-- The same, with the row of new numbers. -/
structure EnvN (w : World) (x y z : Rw) (xl yl zl : Option Addr) (xc yc zc pz : Nat) (fv tv : Value) (F T : List Nat) (B : Nat) (w' : World) : Prop where
 e : EnvL w x y z xl yl zl xc yc zc pz fv F B w'
 t : IW w' 0 tv (intsV T)
 to : ∀ g, tv.ownBlock = some g → g < B
theorem EnvN.only (h : EnvN w x y z xl yl zl xc yc zc pz fv tv F T B w') {S : Nat → Prop} (k : Only S w' w'') (hS : ∀ g, S g → B ≤ g) : EnvN w x y z xl yl zl xc yc zc pz fv tv F T B w'' := by
 have hB := h.e.s.2.2
 exact ⟨h.e.only k hS, h.t.keep (fun g hg => k.block g (by have h9 := h.to g hg; omega) (fun e => by have h9 := hS g e; have h8 := h.to g hg; omega)), h.to⟩
theorem EnvN.below (h : EnvN w x y z xl yl zl xc yc zc pz fv tv F T B w') (k : Below w'.heap.size w' w'') : EnvN w x y z xl yl zl xc yc zc pz fv tv F T B w'' := h.only (S := fun _ => False) (Only.of_below k) (fun g c => c.elim)
end
def both (x y : Rw) : Rw := .mk 0 [42] [x, y]
theorem both_may {x y : Rw} (hx : x.may = true) (hy : y.may = true) : (both x y).may = true := by
 unfold both
 rw [Rw.may, mayL, mayL, mayL, hx, hy]
 rfl
theorem both_sz (x y : Rw) : (both x y).sz = 1 + (x.sz + y.sz) := by
 unfold both
 rw [Rw.sz, szRL, szRL, szRL]
 omega
theorem both_ty (x y : Rw) : (both x y).ty = .c [42] [x.ty, y.ty] := by
 unfold both
 rw [Rw.ty, if_neg (by omega), tyL, tyL, tyL]
theorem both_bd (x y : Rw) : Bd (both x y) := bd_c (by show (0 : Int) ≤ 0; omega) (by show (0 : Int) ≤ 100; omega) (by show 1 ≤ 100; omega)
def InRn (w : World) (x y z : Rw) (xl yl zl : Option Addr) (xc yc zc pz : Nat) (fv : Value) (F : List Nat) (B : Nat) (tv iv : Value) (wr : World) : Prop := ∃ k : Nat, k ≤ F.length ∧ iv = .int .i64 (k : Int) ∧ IW wr B tv (intsV ((F.take k).map pi5)) ∧ EnvL w x y z xl yl zl xc yc zc pz fv F B wr ∧ (∀ m, m ∈ F.take k → m ≤ 1099511627776)
theorem unify_num {A : Nat → Prop} {tb q r n : Nat} {x y : Rw} {w w' : World} {e : Ending} (h : UnifyN A tb q r n Ty.v x y w e w') : ∃ ev : Int, e = .returned (.int .i64 ev) ∧ Only (Own3 tb q r) w w' ∧ UNum x.ty y.ty ev (fun ρ' => TBn A w' tb q r (n + (x.sz + y.sz)) ρ') := by
 unfold UNum
 obtain ⟨h1, ⟨rfl, h2⟩ | ⟨h2, h3, ⟨c, h4, rfl⟩ | ⟨ρ', h4, rfl, h5⟩⟩⟩ := h
 ·exact ⟨3, rfl, h1, Or.inl ⟨rfl, h2⟩⟩
 ·refine ⟨_, rfl, h1, Or.inr ⟨h2, h3, Or.inl ⟨c, h4, ?_, rfl⟩⟩⟩
  split
  ·exact Or.inr rfl
  ·exact Or.inl rfl
 ·exact ⟨0, rfl, h1, Or.inr ⟨h2, h3, Or.inr ⟨ρ', h4, rfl, h5⟩⟩⟩
theorem typesNames_walk (cs0 cs1 : Array Value) (w : World) (k0 : TOk (fun g => g < w.heap.size) w 2001 cs0.toList) (k1 : TOk (fun g => g < w.heap.size) w 2001 cs1.toList) : Calls Tryd.prog 6 #[.agg cs0, .agg cs1] w fun e w' => e = .returned (.bool true) ∧ Below w.heap.size w w' := by
 obtain ⟨V1, s1, al1, n1, c1, e1, _⟩ := id k0
 obtain ⟨V2, s2, al2, n2, c2, e2, _⟩ := id k1
 have ec1 : cs0 = #[.int .i64 V1, .string s1, .slice al1 n1 c1] := Array.ext' (by rw [e1])
 have ec2 : cs1 = #[.int .i64 V2, .string s2, .slice al2 n2 c2] := Array.ext' (by rw [e2])
 subst ec1 ec2
 clear e1 e2
 have K0 := hidden k0
 have K1 := hidden k1
 clear k0 k1
 go_enter Tryd.func6, Tryd.ntmps6
 go_upto_region 1 with fail
 obtain ⟨a1, a2, a3⟩ := two_box w V1 V2 s1 s2 (.slice al1 n1 c1) (.slice al2 n2 c2)
 have A_0 := hidden a1
 have C_0 := hidden a2
 have D_0 := hidden a3
 have S_0 : Hid (((w.alloc (.cells #[.int .i64 V1, .string s1, .slice al1 n1 c1] 24)).alloc (.cells #[.int .i64 V2, .string s2, .slice al2 n2 c2] 24)).heap.size = w.heap.size + 2) := by show _ = _; rw [nblk_alloc, nblk_alloc]
 clear a1 a2 a3
 generalize (w.alloc (.cells #[.int .i64 V1, .string s1, .slice al1 n1 c1] 24)).alloc (.cells #[.int .i64 V2, .string s2, .slice al2 n2 c2] 24) = w0 at *
 go_wp2_with fail
 refine (awake_any w0).mono ?_
 rintro e w1 ⟨rfl, hb⟩
 have A_1 := hidden (A_0.out.below hb (Nat.le_refl _))
 have C_1 := hidden (C_0.out.below hb (Nat.le_refl _))
 have D_1 := hidden (D_0.out.trans (hb.mono D_0.out.size))
 have S_1 : Hid (w.heap.size + 2 ≤ w1.heap.size) := by have h9 := S_0.out; have h8 := hb.size; show _ ≤ _; omega
 clear hb A_0 C_0 D_0 S_0
 obtain ⟨a0, a1, a2, af⟩ := A_1.out.cells
 obtain ⟨b0, b1, b2, bf⟩ := C_1.out.cells
 have HS1 := hidden (small_any w1 V1 s1 al1 n1 c1 (TOk.below D_1.out 2001 K0.out))
 go_wp2_with fail
 refine HS1.out.mono ?_
 rintro e w2 ⟨hb, rfl | ⟨L1, hl1, hr1, hz1, hm1, hd1, rfl⟩⟩
 ·have D_2 := hidden (D_1.out.trans (hb.mono D_1.out.size))
  clear hb a0 a1 a2 af b0 b1 b2 bf
  go_wp2_with fail
  go_ret
  exact ⟨rfl, D_2.out⟩
 subst hl1
 have A_2 := hidden (A_1.out.below hb (Nat.le_refl _))
 have C_2 := hidden (C_1.out.below hb (Nat.le_refl _))
 have D_2 := hidden (D_1.out.trans (hb.mono D_1.out.size))
 have S_2 : Hid (w.heap.size + 2 ≤ w2.heap.size) := by have h9 := S_1.out; have h8 := hb.size; show _ ≤ _; omega
 have X_2 := hidden hr1
 have XF := hidden (And.intro hz1 (And.intro hm1 hd1))
 clear hb a0 a1 a2 af b0 b1 b2 bf A_1 C_1 D_1 S_1 HS1 hr1 hz1 hm1 hd1
 obtain ⟨a0, a1, a2, af⟩ := A_2.out.cells
 obtain ⟨b0, b1, b2, bf⟩ := C_2.out.cells
 have HS2 := hidden (small_any w2 V2 s2 al2 n2 c2 (TOk.below D_2.out 2001 K1.out))
 go_wp2_with fail
 refine HS2.out.mono ?_
 rintro e w3 ⟨hb, rfl | ⟨L2, hl2, hr2, hz2, hm2, hd2, rfl⟩⟩
 ·have D_3 := hidden (D_2.out.trans (hb.mono D_2.out.size))
  clear hb a0 a1 a2 af b0 b1 b2 bf
  go_wp2_with fail
  go_ret
  exact ⟨rfl, D_3.out⟩
 subst hl2
 have es1 : s1 = (⟨s1.toList.toArray⟩ : ByteArray) := by rw [Go.ByteArray.toList_eq]
 have es2 : s2 = (⟨s2.toList.toArray⟩ : ByteArray) := by rw [Go.ByteArray.toList_eq]
 obtain ⟨x, hx⟩ : ∃ x, Rw.mk V1 s1.toList L1 = x := ⟨_, rfl⟩
 obtain ⟨y, hy⟩ : ∃ y, Rw.mk V2 s2.toList L2 = y := ⟨_, rfl⟩
 have A_3 : Hid (B3 w3 w.heap.size x.V ⟨x.S.toArray⟩ (.slice al1 x.L.length c1)) := by
  have h9 := A_2.out.below hb (Nat.le_refl _)
  rw [es1] at h9
  rw [← hx]
  exact h9
 have C_3 : Hid (B3 w3 (w.heap.size + 1) y.V ⟨y.S.toArray⟩ (.slice al2 y.L.length c2)) := by
  have h9 := C_2.out.below hb (Nat.le_refl _)
  rw [es2] at h9
  rw [← hy]
  exact h9
 have X_3 : Hid (RT (fun g => g < w.heap.size) w3 x.L al1) := by rw [← hx]; exact X_2.out.beneath hb (Nat.le_refl _)
 have Y_3 : Hid (RT (fun g => g < w.heap.size) w3 y.L al2) := by rw [← hy]; exact hr2
 have XE : Hid (x.sz ≤ 2000 ∧ x.may = true ∧ Bd x) := by rw [← hx]; exact XF.out
 have YE : Hid (y.sz ≤ 2000 ∧ y.may = true ∧ Bd y) := by rw [← hy]; exact ⟨hz2, hm2, hd2⟩
 have D_3 := hidden (D_2.out.trans (hb.mono D_2.out.size))
 have S_3 : Hid (w.heap.size + 2 ≤ w3.heap.size) := by have h9 := S_2.out; have h8 := hb.size; show _ ≤ _; omega
 have hxs : x.sz ≤ 2000 := XE.out.1
 have hys : y.sz ≤ 2000 := YE.out.1
 clear hb a0 a1 a2 af b0 b1 b2 bf A_2 C_2 D_2 S_2 X_2 XF HS2 hr2 hz2 hm2 hd2 hx hy es1 es2 K0 K1
 obtain ⟨a0, a1, a2, af⟩ := A_3.out.cells
 obtain ⟨b0, b1, b2, bf⟩ := C_3.out.cells
 have Z_4 : Hid (RT (fun g => g < w3.heap.size + 1) (w3.alloc (.cells #[.int .i64 x.V, .string ⟨x.S.toArray⟩, .slice al1 x.L.length c1, .int .i64 y.V, .string ⟨y.S.toArray⟩, .slice al2 y.L.length c2] 24)) [x, y] (some ⟨w3.heap.size, 0, none⟩)) := by
  have h7 := S_3.out
  exact rt_mk2 (w := w3) (x := x) (y := y) (c := c1) (d := c2) (Nat.lt_succ_self _) (X_3.out.mono (fun g hg _ => by omega)) (Y_3.out.mono (fun g hg _ => by omega)) XE.out.2.2 YE.out.2.2
 have D_4 : Hid (Below w3.heap.size w3 (w3.alloc (.cells #[.int .i64 x.V, .string ⟨x.S.toArray⟩, .slice al1 x.L.length c1, .int .i64 y.V, .string ⟨y.S.toArray⟩, .slice al2 y.L.length c2] 24))) := (Below.refl _ _).alloc (Nat.le_refl _) _
 have hs34 : (w3.alloc (.cells #[.int .i64 x.V, .string ⟨x.S.toArray⟩, .slice al1 x.L.length c1, .int .i64 y.V, .string ⟨y.S.toArray⟩, .slice al2 y.L.length c2] 24)).heap.size = w3.heap.size + 1 := nblk_alloc _ _
 have HS4 := hidden hs34
 clear hs34
 go_wp2_with fail
 generalize w3.alloc (.cells #[.int .i64 x.V, .string ⟨x.S.toArray⟩, .slice al1 x.L.length c1, .int .i64 y.V, .string ⟨y.S.toArray⟩, .slice al2 y.L.length c2] 24) = w4 at *
 refine (named_any w4 ⟨#[42]⟩ _ 2 2).mono ?_
 rintro e w5 ⟨rfl, hb⟩
 clear a0 a1 a2 af b0 b1 b2 bf
 have D_5 : Hid (Below w3.heap.size w3 (w5.alloc (.cells #[.int .i64 0, .string ⟨#[42]⟩, .slice (some ⟨w3.heap.size, 0, none⟩) 2 2] 24))) := by
  have h8 := HS4.out
  have h9 : Below w3.heap.size w3 w5 := D_4.out.trans (hb.mono (by omega))
  exact h9.alloc h9.size _
 have hs5 : w3.heap.size + 1 ≤ w5.heap.size := by have h8 := HS4.out; have h9 := hb.size; omega
 have Z_5 := hidden ((Z_4.out.beneath hb (Nat.le_refl _)).alloc (.cells #[.int .i64 0, .string ⟨#[42]⟩, .slice (some ⟨w3.heap.size, 0, none⟩) 2 2] 24))
 have C_5 := hidden (B3.new w5 0 ⟨#[42]⟩ (.slice (some ⟨w3.heap.size, 0, none⟩) 2 2))
 have HS5 := hidden (nblk_alloc w5 (.cells #[.int .i64 0, .string ⟨#[42]⟩, .slice (some ⟨w3.heap.size, 0, none⟩) 2 2] 24))
 clear hb Z_4 D_4
 go_upto_region 6 with fail
 generalize w5.alloc (.cells #[.int .i64 0, .string ⟨#[42]⟩, .slice (some ⟨w3.heap.size, 0, none⟩) 2 2] 24) = w6 at *
 obtain ⟨pz, hpz⟩ : ∃ pz, w5.heap.size = pz := ⟨_, rfl⟩
 rw [hpz] at C_5 HS5 hs5 ⊢
 clear hpz
 obtain ⟨z, hz⟩ : ∃ z, both x y = z := ⟨_, rfl⟩
 obtain ⟨zl, hzl⟩ : ∃ zl : Option Addr, some ⟨w3.heap.size, 0, none⟩ = zl := ⟨_, rfl⟩
 obtain ⟨zc, hzc⟩ : ∃ zc : Nat, 2 = zc := ⟨_, rfl⟩
 have HZM : Hid (z.may = true) := by show _ = _; rw [← hz]; exact both_may XE.out.2.1 YE.out.2.1
 have HZB : Hid (Bd z) := by rw [← hz]; exact both_bd x y
 have hzs : z.sz ≤ 4001 := by rw [← hz, both_sz]; omega
 have HOX : Hid (∀ n, x.ty.occ n → n ∈ z.ty.vs []) := fun n hn => (Ty.mem_vs z.ty []).2 (Or.inr (by rw [← hz, both_ty]; exact both_occ (Or.inl hn)))
 have HOY : Hid (∀ n, y.ty.occ n → n ∈ z.ty.vs []) := fun n hn => (Ty.mem_vs z.ty []).2 (Or.inr (by rw [← hz, both_ty]; exact both_occ (Or.inr hn)))
 have HOZ : Hid (∀ n, z.ty.occ n → n ∈ z.ty.vs []) := fun n hn => (Ty.mem_vs z.ty []).2 (Or.inr hn)
 have E_6 : Hid (EnvL w x y z al1 al2 zl c1 c2 zc pz (.slice none 0 0) [] w6.heap.size w6) := by
  have h7 := S_3.out
  have h8 := HS5.out
  have h6 := A_3.out.lt
  have h5 := C_3.out.lt
  refine ⟨A_3.out.below D_5.out (Nat.le_refl _), C_3.out.below D_5.out (Nat.le_refl _), ?_, (X_3.out.beneath D_5.out (Nat.le_refl _)).mono (fun g hg hl => hl), (Y_3.out.beneath D_5.out (Nat.le_refl _)).mono (fun g hg hl => hl), ?_, IW.nil _ _, (fun g hg => by cases hg), D_3.out.trans (D_5.out.mono D_3.out.size), by omega, by omega, Nat.le_refl _⟩
  ·rw [← hz, ← hzl, ← hzc]; exact C_5.out
  ·rw [← hz, ← hzl]; exact Z_5.out.mono (fun g _ hl => hl)
 have RV := hidden (rvars_all z.sz w6.heap.size [] w6 z (.slice none 0 0) zl zc (Nat.le_refl _) HZM.out HZB.out.2.1 (by rw [List.length_nil]; omega) (Nat.le_refl _) (IW.nil _ _) E_6.out.zt)
 have HND := hidden (vs_nodup z.ty [] List.nodup_nil)
 have hvl := vs_len9 z HZM.out (by omega)
 have HVL := hidden hvl
 obtain ⟨z0, z1, z2, zf⟩ := E_6.out.c.cells
 clear hvl hz hzc A_3 C_3 X_3 Y_3 D_3 C_5 Z_5 D_5
 rw [hzl]
 clear hzl
 go_wp2_with fail
 refine RV.out.mono ?_
 rintro e w7 ⟨v7, rfl, q1, q2, q3⟩
 obtain ⟨vo, vc, rfl⟩ := q1.slice
 have E_7 : Hid (EnvL w x y z al1 al2 zl c1 c2 zc pz (.slice vo (intsV (z.ty.vs [])).length vc) (z.ty.vs []) w7.heap.size w7) := by
  have h9 := (E_6.out.only q2 (fun g e => by cases e)).up
  exact ⟨h9.a, h9.b, h9.c, h9.xt, h9.yt, h9.zt, q1.lower, fun g hg => (q1.own g hg).2, h9.d, h9.s⟩
 have E_8 := hidden (E_7.out.below ((Below.refl _ _).alloc (Nat.le_refl _) (.cells #[] 3)))
 have T_8 := hidden (ints_new w7)
 have HV := hidden (intsV_len (z.ty.vs []))
 clear z0 z1 z2 zf q1 q2 q3 E_6 E_7 RV
 go_upto_region 8 with fail
 generalize w7.alloc (.cells #[] 3) = w8 at *
 obtain ⟨B0, hB0⟩ : ∃ B0, w7.heap.size = B0 := ⟨_, rfl⟩
 rw [hB0] at E_8 T_8 ⊢
 clear hB0
 rw [HV.out] at E_8 ⊢
 obtain ⟨F, hF⟩ : ∃ F, z.ty.vs [] = F := ⟨_, rfl⟩
 rw [hF] at E_8 HOX HOY HOZ HND HVL ⊢
 clear hF HV
 obtain ⟨n, hn⟩ : ∃ n, F.length = n := ⟨_, rfl⟩
 rw [hn] at E_8 HVL ⊢
 have HN := hidden hn
 have hn9 := HVL.out
 clear hn
 have IS : Hid (InRn w x y z al1 al2 zl c1 c2 zc pz (.slice vo n vc) F B0 (.slice (some ⟨B0, 0, none⟩) 0 0) (.int .i64 0) w8) := ⟨0, Nat.zero_le _, rfl, T_8.out, E_8.out, fun m hm => by cases hm⟩
 go_wp2_with fail
 go_loopw [7, 32] (fun tv iv wr => InRn w x y z al1 al2 zl c1 c2 zc pz (.slice vo n vc) F B0 tv iv wr) (fun tv iv wr => (n - intOf iv).toNat)
 case atStart => exact IS.out
 case round =>
  clear IS E_8 T_8
  obtain ⟨k, k1, rfl, g1, g2, g3⟩ := hrel
  rw [HN.out] at k1
  have e1 : (intsV ((F.take k).map pi5)).length = k := by rw [intsV_len, List.length_map, List.length_take, HN.out]; omega
  obtain ⟨to, tc, rfl⟩ := g1.slice
  rw [e1] at g1 ⊢
  have HE1 := hidden e1
  have G1 := hidden g1
  have E_r := hidden g2
  have G3 := hidden g3
  clear e1 g1 g2 g3
  by_cases hlt : k < n
  ·have z1 : (k : Int) < (n : Int) := by omega
   obtain ⟨Tk, hTk⟩ : ∃ Tk, (F.take k).map pi5 = Tk := ⟨_, rfl⟩
   have HTK := hidden hTk
   clear hTk
   have zi : (0 : Int) ≤ (k : Int) ∧ (k : Int) < (n : Int) := ⟨by omega, z1⟩
   have hlF : k < F.length := by rw [HN.out]; exact hlt
   obtain ⟨g, c9, hvs, hc9⟩ := E_r.out.f.at_ (intsV_at hlF)
   obtain ⟨rfl, _, rfl⟩ : vo = some ⟨g, 0, none⟩ ∧ n = n ∧ vc = c9 := by simpa [intsV_len, HN.out] using hvs
   clear hvs
   obtain ⟨nn, hnn⟩ : ∃ nn, F[k] = nn := ⟨_, rfl⟩
   rw [hnn] at hc9
   have HNN : Hid (F.take (k + 1) = F.take k ++ [nn]) := by show _ = _; rw [List.take_succ_eq_append_getElem hlF, hnn]
   clear hnn
   by_cases hbig : nn ≤ 1099511627776
   ·have zn : ¬ (1099511627776 : Int) < (nn : Int) := by omega
    have zp : (0 : Int) ≤ (nn : Int) ∧ (nn : Int) ≤ 1099511627776 := by omega
    have hl9 : (intsV Tk).length < 10000000000 := by rw [← HTK.out, HE1.out]; omega
    rw [HTK.out] at G1
    have HR : Hid (intsV ((F.take (k + 1)).map pi5) = intsV ((F.take k).map pi5) ++ [3 * (nn : Int) + 5]) := by show _ = _; rw [HNN.out, List.map_append]; unfold intsV pi5; rw [List.map_append]; simp
    go_wp2_with (at_builtin; refine append_int rfl (.tmp 40) (.tmp 47) rfl B0 (.slice to k tc) (intsV Tk) rfl (G1.out.alloc _) wr.heap.size 1 (3 * (nn : Int) + 5) rfl (int_new _ _) hl9 (by rw [nblk_alloc]; have h9 := E_r.out.s; omega) ?_; intro g6 c6 w9 hr6 gr6 or6; have I9 := hidden hr6; have R9 := hidden gr6; clear hr6 gr6 or6)
    go_roundw
    case rel =>
     refine ⟨k + 1, by rw [HN.out]; omega, by go_num, by rw [HR.out, HTK.out]; exact I9.out, (E_r.out.below ((Below.refl _ _).alloc (Nat.le_refl _) _)).only (S := fun g => (Value.slice to k tc).ownBlock = some g) ⟨R9.out.os, R9.out.tape, R9.out.output, R9.out.size, fun g hg hs => R9.out.block g hg (fun e => hs e.symm)⟩ (fun g hg => (G1.out.own g hg).1), fun m hm => ?_⟩
     rw [HNN.out] at hm
     rcases List.mem_append.1 hm with h9 | h9
     ·exact G3.out m h9
     ·rw [List.mem_singleton.1 h9]; exact hbig
    case measure => simp [intOf]; omega
   ·have zn : (1099511627776 : Int) < (nn : Int) := by omega
    go_wp2_with fail
    go_ret
    exact ⟨rfl, E_r.out.d⟩
  ·have z1 : ¬ (k : Int) < (n : Int) := by omega
   have hkn : k = n := by omega
   have hTk : (F.take k).map pi5 = F.map pi5 := by rw [List.take_of_length_le (by rw [HN.out]; omega)]
   rw [hTk] at G1
   have hTb : ∀ m, m ∈ F.map pi5 → m ≤ 9223372036854775807 := fun m hm => by
    obtain ⟨i, hi, rfl⟩ := List.mem_map.1 hm
    have h9 := G3.out i (by rw [List.take_of_length_le (by rw [HN.out]; omega)]; exact hi)
    unfold pi5
    omega
   have RRA := hidden (rren_all (F := F) (T := F.map pi5) (by rw [List.length_map]) HND.out hTb (by rw [HN.out]; omega))
   have RRX : Hid (∀ (w' : World) (ao : Option Addr) (c : Nat), IW w' 0 (.slice vo n vc) (intsV F) → IW w' 0 (.slice to k tc) (intsV (F.map pi5)) → RT (fun g => g < w'.heap.size) w' x.L ao → Calls Tryd.prog 20 #[.agg #[.int .i64 x.V, .string ⟨x.S.toArray⟩, .slice ao x.L.length c], .slice vo n vc, .slice to k tc] w' fun e w'' => RRAs x.ty F (F.map pi5) w' e w'') := fun w' ao c h1 h2 h3 => RRA.out x.sz w' x ao c _ _ (Nat.le_refl _) (by omega) XE.out.2.1 XE.out.2.2 h1 h2 h3
   have RRY : Hid (∀ (w' : World) (ao : Option Addr) (c : Nat), IW w' 0 (.slice vo n vc) (intsV F) → IW w' 0 (.slice to k tc) (intsV (F.map pi5)) → RT (fun g => g < w'.heap.size) w' y.L ao → Calls Tryd.prog 20 #[.agg #[.int .i64 y.V, .string ⟨y.S.toArray⟩, .slice ao y.L.length c], .slice vo n vc, .slice to k tc] w' fun e w'' => RRAs y.ty F (F.map pi5) w' e w'') := fun w' ao c h1 h2 h3 => RRA.out y.sz w' y ao c _ _ (Nat.le_refl _) (by omega) YE.out.2.1 YE.out.2.2 h1 h2 h3
   have RRZ : Hid (∀ (w' : World) (ao : Option Addr) (c : Nat), IW w' 0 (.slice vo n vc) (intsV F) → IW w' 0 (.slice to k tc) (intsV (F.map pi5)) → RT (fun g => g < w'.heap.size) w' z.L ao → Calls Tryd.prog 20 #[.agg #[.int .i64 z.V, .string ⟨z.S.toArray⟩, .slice ao z.L.length c], .slice vo n vc, .slice to k tc] w' fun e w'' => RRAs z.ty F (F.map pi5) w' e w'') := fun w' ao c h1 h2 h3 => RRA.out z.sz w' z ao c _ _ (Nat.le_refl _) (by omega) HZM.out HZB.out h1 h2 h3
   have HAX := hidden (ap_rn HOX.out)
   have HAY := hidden (ap_rn HOY.out)
   have HAZ := hidden (ap_rn HOZ.out)
   have E_n : Hid (EnvN w x y z al1 al2 zl c1 c2 zc pz (.slice vo n vc) (.slice to k tc) F (F.map pi5) wr.heap.size wr) := ⟨E_r.out.up, G1.out.lower, fun g hg => (G1.out.own g hg).2⟩
   have HKN := hidden hkn
   clear hkn
   clear hTk hTb RRA G1 G3 E_r HOX HOY HOZ HND HE1
   have HN0 := hidden (new_n wr (A := fun g => g < wr.heap.size) (fun g hg => hg))
   go_wp2_with fail
   refine HN0.out.mono ?_
   rintro e w4' ⟨rfl, g1, hb⟩
   have HOW1 : Hid (∀ g, Own3 (wr.heap.size + 2) wr.heap.size (wr.heap.size + 1) g → wr.heap.size ≤ g) := fun g hg => by rcases hg with h9 | h9 | h9 <;> omega
   have HOL1 : Hid (∀ g, Own3 (wr.heap.size + 2) wr.heap.size (wr.heap.size + 1) g → g < w4'.heap.size) := g1.lt
   have hs44 := hb.size
   have E_a := hidden (E_n.out.below hb)
   have T_4 := hidden g1
   clear g1 hb HN0 E_n
   obtain ⟨w4, hw4⟩ : ∃ w4, w4 = w4' := ⟨_, rfl⟩
   subst hw4
   have HN0 := hidden (new_n w4 (A := fun g => g < w4.heap.size) (fun g hg => hg))
   go_wp2_with fail
   refine HN0.out.mono ?_
   rintro e w5 ⟨rfl, g1, hb⟩
   have HOW2 : Hid (∀ g, Own3 (w4.heap.size + 2) w4.heap.size (w4.heap.size + 1) g → w4.heap.size ≤ g) := fun g hg => by rcases hg with h9 | h9 | h9 <;> omega
   have HOW2b : Hid (∀ g, Own3 (w4.heap.size + 2) w4.heap.size (w4.heap.size + 1) g → wr.heap.size ≤ g) := fun g hg => by have h9 := HOW2.out g hg; omega
   have HOL2 : Hid (∀ g, Own3 (w4.heap.size + 2) w4.heap.size (w4.heap.size + 1) g → g < w5.heap.size) := g1.lt
   have hs45 := hb.size
   have T_5 := hidden ((T_4.out.aug (A' := fun g => g < wr.heap.size ∨ (w4.heap.size ≤ g ∧ g < w5.heap.size)) (fun g hg => hg.imp id (fun h9 => h9.1))).below hb)
   have U_5 := hidden g1
   have E_b := hidden (E_a.out.below hb)
   clear g1 hb HN0 E_a T_4
   obtain ⟨a0, a1, a2, af⟩ := E_b.out.e.a.cells
   obtain ⟨b0, b1, b2, bf⟩ := E_b.out.e.b.cells
   have HU := hidden (unify_n (A := fun g => g < wr.heap.size ∨ (w4.heap.size ≤ g ∧ g < w5.heap.size)) (fun g hg => by omega) T_5.out (x := x) (y := y) c1 c2 XE.out.2.1 YE.out.2.1 (by omega) XE.out.2.2 YE.out.2.2 (E_b.out.e.xt.mono (fun g hg _ e => by have h8 := HOW1.out g e; omega)) (E_b.out.e.yt.mono (fun g hg _ e => by have h8 := HOW1.out g e; omega)) (by omega))
   go_wp2_with fail
   refine HU.out.mono ?_
   intro e w6' h9
   obtain ⟨e1, rfl, g1, h9⟩ := unify_num h9
   have U_6 := hidden (U_5.out.only g1 (fun g hg => HOL1.out g hg))
   have E_c := hidden (E_b.out.only g1 (fun g hg => HOW1.out g hg))
   have hs56 := g1.size
   have H1 := hidden h9
   clear g1 h9 HU T_5 U_5 E_b a0 a1 a2 af b0 b1 b2 bf
   go_upto_region 18 with fail
   have E_0 : Hid (EnvN w x y z al1 al2 zl c1 c2 zc pz (.slice vo n vc) (.slice to k tc) F (F.map pi5) wr.heap.size w6'.drew) := E_c.out.below (drew_below10 _)
   have U_0 := hidden (U_6.out.drew)
   have H1_0 := hidden (H1.out.map (fun ρ h => TBn.drew h))
   have hz0 : w5.heap.size ≤ w6'.drew.heap.size := hs56
   clear E_c U_6 H1
   obtain ⟨a00, a01, a02, af0⟩ := E_0.out.e.a.cells
   obtain ⟨b00, b01, b02, bf0⟩ := E_0.out.e.b.cells
   clear af0 bf0
   refine region_till (S := (fun w' => w'.cell? ⟨w.heap.size, 0, none⟩ = some (.int .i64 x.V) ∧ w'.cell? ⟨w.heap.size, 1, none⟩ = some (.string ⟨x.S.toArray⟩) ∧ w'.cell? ⟨w.heap.size, 2, none⟩ = some (.slice al1 x.L.length c1) ∧ w'.cell? ⟨w.heap.size + 1, 0, none⟩ = some (.int .i64 y.V) ∧ w'.cell? ⟨w.heap.size + 1, 1, none⟩ = some (.string ⟨y.S.toArray⟩) ∧ w'.cell? ⟨w.heap.size + 1, 2, none⟩ = some (.slice al2 y.L.length c2))) (kz := 99) (by kernel_rfl) ⟨a00, a01, a02, b00, b01, b02⟩ (fun hHeld => ?_)
   refine AnyTill.tk (i := 0) (v := ?_) hHeld ?_ ?_
   rotate_left
   ·(intro w hSw; (try dsimp only at hSw); go_simp; (try with_reducible rfl))
   (try simp only [Act.put, q4, q5, q6, q1, q2, q3])
   refine AnyTill.tk (i := 1) (v := ?_) hHeld ?_ ?_
   rotate_left
   ·(intro w hSw; (try dsimp only at hSw); go_simp; (try with_reducible rfl))
   (try simp only [Act.put, q4, q5, q6, q1, q2, q3])
   refine AnyTill.tk (i := 2) (v := ?_) hHeld ?_ ?_
   rotate_left
   ·(intro w hSw; (try dsimp only at hSw); go_simp; (try with_reducible rfl))
   (try simp only [Act.put, q4, q5, q6, q1, q2, q3])
   refine AnyTill.tk (i := 3) (v := ?_) hHeld ?_ ?_
   rotate_left
   ·(intro w hSw; (try dsimp only at hSw); go_simp; (try with_reducible rfl))
   (try simp only [Act.put, q4, q5, q6, q1, q2, q3])
   refine AnyTill.tk (i := 5) (v := ?_) hHeld ?_ ?_
   rotate_left
   ·(intro w hSw; (try dsimp only at hSw); go_simp; (try with_reducible rfl))
   (try simp only [Act.put, q4, q5, q6, q1, q2, q3])
   refine AnyTill.tk (i := 6) (v := ?_) hHeld ?_ ?_
   rotate_left
   ·(intro w hSw; (try dsimp only at hSw); go_simp; (try with_reducible rfl))
   (try simp only [Act.put, q4, q5, q6, q1, q2, q3])
   refine AnyTill.tk (i := 7) (v := ?_) hHeld ?_ ?_
   rotate_left
   ·(intro w hSw; (try dsimp only at hSw); go_simp; (try with_reducible rfl))
   (try simp only [Act.put, q4, q5, q6, q1, q2, q3])
   refine AnyTill.one (i := 4) (by kernel_rfl) rfl (fun K9 hK9 => ?_)
   (try simp only [q1, q2, q3])
   (first | rw [if_pos (by rfl)] | skip)
   go_simp
   have hh := RRX.out _ al1 c1 E_0.out.e.f E_0.out.t (E_0.out.e.xt.mono (fun g _ hl => hl))
   refine hh.mono ?_
   clear hh
   rintro e v1 ⟨al3, cp3, x1, hx1, rfl, g3, hb, g4⟩
   rw [HAX.out] at hx1
   have E_1 := hidden (E_0.out.below hb)
   have U_1 := hidden (U_0.out.below hb)
   have T_1 := hidden (H1_0.out.map (fun ρ h => h.below hb))
   have P_1 : Hid (RT (fun g => w5.heap.size ≤ g) v1 x1.L al3) := g3.mono (fun g hg _ => Nat.le_trans hz0 hg)
   have hz1 : w5.heap.size ≤ v1.heap.size := Nat.le_trans hz0 hb.size
   have HX1 := hidden hx1
   have BX1 := hidden g4
   clear hb g3 g4 hx1
   obtain ⟨a10, a11, a12, af1⟩ := E_1.out.e.a.cells
   obtain ⟨b10, b11, b12, bf1⟩ := E_1.out.e.b.cells
   clear af1 bf1
   refine hK9.out _ _ (fun _ => ⟨a10, a11, a12, b10, b11, b12⟩) ?_
   clear hK9 K9
   (try simp only [Act.put, q4, q5, q6, q1, q2, q3])
   clear a00 a01 a02 b00 b01 b02
   refine AnyTill.one (i := 8) (by kernel_rfl) rfl (fun K9 hK9 => ?_)
   (try simp only [q1, q2, q3])
   (first | rw [if_pos (by rfl)] | skip)
   go_simp
   have hh := RRY.out _ al2 c2 E_1.out.e.f E_1.out.t (E_1.out.e.yt.mono (fun g _ hl => hl))
   refine hh.mono ?_
   clear hh
   rintro e v2 ⟨al4, cp4, y1, hy1, rfl, g3, hb, g4⟩
   rw [HAY.out] at hy1
   have E_2 := hidden (E_1.out.below hb)
   have U_2 := hidden (U_1.out.below hb)
   have T_2 := hidden (T_1.out.map (fun ρ h => h.below hb))
   have P_2 : Hid (RT (fun g => w5.heap.size ≤ g) v2 x1.L al3) := P_1.out.beneath hb (Nat.le_refl _)
   have Q_2 : Hid (RT (fun g => w5.heap.size ≤ g) v2 y1.L al4) := g3.mono (fun g hg _ => Nat.le_trans hz1 hg)
   have hz2 : w5.heap.size ≤ v2.heap.size := Nat.le_trans hz1 hb.size
   have HY1 := hidden hy1
   have BY1 := hidden g4
   clear hb g3 g4 hy1
   obtain ⟨a20, a21, a22, af2⟩ := E_2.out.e.a.cells
   obtain ⟨b20, b21, b22, bf2⟩ := E_2.out.e.b.cells
   clear af2 bf2
   refine hK9.out _ _ (fun _ => ⟨a20, a21, a22, b20, b21, b22⟩) ?_
   clear hK9 K9
   (try simp only [Act.put, q4, q5, q6, q1, q2, q3])
   clear a10 a11 a12 b10 b11 b12
   refine AnyTill.one (i := 9) (by kernel_rfl) rfl (fun K9 hK9 => ?_)
   (try simp only [q1, q2, q3])
   (first | rw [if_pos (by rfl)] | skip)
   go_simp
   have HMX : Hid (x1.may = true) := by show _ = _; rw [HX1.out]; exact Ty.rw_may _ (ren_good (x.good XE.out.2.1))
   have HMY : Hid (y1.may = true) := by show _ = _; rw [HY1.out]; exact Ty.rw_may _ (ren_good (y.good YE.out.2.1))
   have HTX : Hid (x1.ty = x.ty.ren pi5) := by show _ = _; rw [HX1.out]; exact Ty.rw_ty _ (ren_good (x.good XE.out.2.1))
   have HTY : Hid (y1.ty = y.ty.ren pi5) := by show _ = _; rw [HY1.out]; exact Ty.rw_ty _ (ren_good (y.good YE.out.2.1))
   have HSX : Hid (x1.sz = x.sz) := by show _ = _; rw [HX1.out, Ty.sz_rw, ren_sz]; exact x.sz_ty XE.out.2.1
   have HSY : Hid (y1.sz = y.sz) := by show _ = _; rw [HY1.out, Ty.sz_rw, ren_sz]; exact y.sz_ty YE.out.2.1
   have hh := unify_n (A := fun g => g < w4.heap.size) (fun g hg => by omega) U_2.out (x := x1) (y := y1) cp3 cp4 HMX.out HMY.out (by rw [HSX.out, HSY.out]; omega) BX1.out BY1.out (P_2.out.mono (fun g hg _ e => by have h8 := HOL2.out g e; have h7 : w5.heap.size ≤ g := hg; omega)) (Q_2.out.mono (fun g hg _ e => by have h8 := HOL2.out g e; have h7 : w5.heap.size ≤ g := hg; omega)) (by rw [HSX.out, HSY.out]; omega)
   refine hh.mono ?_
   clear hh
   intro e v3 h9
   obtain ⟨e2, rfl, g1, h9⟩ := unify_num h9
   rw [HTX.out, HTY.out, HSX.out, HSY.out] at h9
   have E_3 := hidden (E_2.out.only g1 (fun g hg => HOW2b.out g hg))
   have T_3 := hidden (T_2.out.map (fun ρ h => h.only g1 (fun g hg => Or.inr ⟨HOW2.out g hg, HOL2.out g hg⟩)))
   have H2 := hidden h9
   have hz3 : w5.heap.size ≤ v3.heap.size := Nat.le_trans hz2 g1.size
   clear g1 h9
   obtain ⟨a30, a31, a32, af3⟩ := E_3.out.e.a.cells
   obtain ⟨b30, b31, b32, bf3⟩ := E_3.out.e.b.cells
   clear af3 bf3
   refine hK9.out _ _ (fun _ => ⟨a30, a31, a32, b30, b31, b32⟩) ?_
   clear hK9 K9
   (try simp only [Act.put, q4, q5, q6, q1, q2, q3])
   clear a20 a21 a22 b20 b21 b22
   refine AnyTill.take (i := 10) (v := ?_) rfl (by kernel_rfl) (by kernel_rfl) (by kernel_rfl) (by kernel_rfl) (fun _ _ _ h => h) (Or.inl ⟨by rfl, ?_⟩) ⟨a30, a31, a32, b30, b31, b32⟩ ?_
   rotate_left
   ·(intro w hSw; (try dsimp only at hSw); go_simp; (try with_reducible rfl))
   (try simp only [Act.put, q4, q5, q6, q1, q2, q3])
   refine AnyTill.done (by kernel_rfl) ?_ _
   (try simp only [Act.put, q4, q5, q6, q1, q2, q3])
   clear a30 a31 a32 b30 b31 b32
   clear E_0 E_1 E_2 U_0 U_1 U_2 T_1 T_2 P_1 P_2 Q_2 HX1 HY1 BX1 BY1 HMX HMY HTX HTY HSX HSY H1_0 hHeld
   obtain ⟨he, hc⟩ := names_num T_3.out H2.out
   subst he
   clear T_3 H2
   rcases hc with hc | ⟨rfl, ρ, ρ2, hu1, hu2, hlk, hT, hU⟩
   ·rcases hc with rfl | rfl | rfl
    all_goals
     go_upto_region 21 with fail
     have F_0 := hidden (E_3.out.below (drew_below10 _))
     obtain ⟨z00, z01, z02, zf0⟩ := F_0.out.e.c.cells
     clear zf0
     refine region_till (S := (fun w' => w'.cell? ⟨pz, 0, none⟩ = some (.int .i64 z.V) ∧ w'.cell? ⟨pz, 1, none⟩ = some (.string ⟨z.S.toArray⟩) ∧ w'.cell? ⟨pz, 2, none⟩ = some (.slice zl z.L.length zc))) (kz := 99) (by kernel_rfl) ⟨z00, z01, z02⟩ (fun hHeld => ?_)
     refine AnyTill.tk (i := 0) (v := ?_) hHeld ?_ ?_
     rotate_left
     ·(intro w hSw; (try dsimp only at hSw); go_simp; (try with_reducible rfl))
     (try simp only [Act.put, q4, q5, q6, q1, q2, q3])
     refine AnyTill.tk (i := 1) (v := ?_) hHeld ?_ ?_
     rotate_left
     ·(intro w hSw; (try dsimp only at hSw); go_simp; (try with_reducible rfl))
     (try simp only [Act.put, q4, q5, q6, q1, q2, q3])
     refine AnyTill.tk (i := 2) (v := ?_) hHeld ?_ ?_
     rotate_left
     ·(intro w hSw; (try dsimp only at hSw); go_simp; (try with_reducible rfl))
     (try simp only [Act.put, q4, q5, q6, q1, q2, q3])
     refine AnyTill.take (i := 3) (v := undef) rfl (by kernel_rfl) (by kernel_rfl) (by kernel_rfl) (by kernel_rfl) (fun _ _ _ h => h) (Or.inr ⟨by rfl, by rfl⟩) ⟨z00, z01, z02⟩ ?_
     (try simp only [Act.put, q4, q5, q6, q1, q2, q3])
     refine AnyTill.take (i := 4) (v := undef) rfl (by kernel_rfl) (by kernel_rfl) (by kernel_rfl) (by kernel_rfl) (fun _ _ _ h => h) (Or.inr ⟨by rfl, by rfl⟩) ⟨z00, z01, z02⟩ ?_
     (try simp only [Act.put, q4, q5, q6, q1, q2, q3])
     refine AnyTill.take (i := 5) (v := undef) rfl (by kernel_rfl) (by kernel_rfl) (by kernel_rfl) (by kernel_rfl) (fun _ _ _ h => h) (Or.inr ⟨by rfl, by rfl⟩) ⟨z00, z01, z02⟩ ?_
     (try simp only [Act.put, q4, q5, q6, q1, q2, q3])
     refine AnyTill.take (i := 6) (v := undef) rfl (by kernel_rfl) (by kernel_rfl) (by kernel_rfl) (by kernel_rfl) (fun _ _ _ h => h) (Or.inr ⟨by rfl, by rfl⟩) ⟨z00, z01, z02⟩ ?_
     (try simp only [Act.put, q4, q5, q6, q1, q2, q3])
     refine AnyTill.take (i := 7) (v := ?_) rfl (by kernel_rfl) (by kernel_rfl) (by kernel_rfl) (by kernel_rfl) (fun _ _ _ h => h) (Or.inl ⟨by rfl, ?_⟩) ⟨z00, z01, z02⟩ ?_
     rotate_left
     ·(intro w hSw; (try dsimp only at hSw); go_simp; (try with_reducible rfl))
     (try simp only [Act.put, q4, q5, q6, q1, q2, q3])
     refine AnyTill.take (i := 8) (v := ?_) rfl (by kernel_rfl) (by kernel_rfl) (by kernel_rfl) (by kernel_rfl) (fun _ _ _ h => h) (Or.inl ⟨by rfl, ?_⟩) ⟨z00, z01, z02⟩ ?_
     rotate_left
     ·(intro w hSw; (try dsimp only at hSw); go_simp; (try with_reducible rfl))
     (try simp only [Act.put, q4, q5, q6, q1, q2, q3])
     refine AnyTill.take (i := 9) (v := undef) rfl (by kernel_rfl) (by kernel_rfl) (by kernel_rfl) (by kernel_rfl) (fun _ _ _ h => h) (Or.inr ⟨by rfl, by rfl⟩) ⟨z00, z01, z02⟩ ?_
     (try simp only [Act.put, q4, q5, q6, q1, q2, q3])
     refine AnyTill.take (i := 10) (v := undef) rfl (by kernel_rfl) (by kernel_rfl) (by kernel_rfl) (by kernel_rfl) (fun _ _ _ h => h) (Or.inr ⟨by rfl, by rfl⟩) ⟨z00, z01, z02⟩ ?_
     (try simp only [Act.put, q4, q5, q6, q1, q2, q3])
     refine AnyTill.take (i := 11) (v := undef) rfl (by kernel_rfl) (by kernel_rfl) (by kernel_rfl) (by kernel_rfl) (fun _ _ _ h => h) (Or.inr ⟨by rfl, by rfl⟩) ⟨z00, z01, z02⟩ ?_
     (try simp only [Act.put, q4, q5, q6, q1, q2, q3])
     refine AnyTill.take (i := 12) (v := undef) rfl (by kernel_rfl) (by kernel_rfl) (by kernel_rfl) (by kernel_rfl) (fun _ _ _ h => h) (Or.inr ⟨by rfl, by rfl⟩) ⟨z00, z01, z02⟩ ?_
     (try simp only [Act.put, q4, q5, q6, q1, q2, q3])
     refine AnyTill.take (i := 13) (v := undef) rfl (by kernel_rfl) (by kernel_rfl) (by kernel_rfl) (by kernel_rfl) (fun _ _ _ h => h) (Or.inr ⟨by rfl, by rfl⟩) ⟨z00, z01, z02⟩ ?_
     (try simp only [Act.put, q4, q5, q6, q1, q2, q3])
     refine AnyTill.take (i := 14) (v := undef) rfl (by kernel_rfl) (by kernel_rfl) (by kernel_rfl) (by kernel_rfl) (fun _ _ _ h => h) (Or.inr ⟨by rfl, by rfl⟩) ⟨z00, z01, z02⟩ ?_
     (try simp only [Act.put, q4, q5, q6, q1, q2, q3])
     refine AnyTill.take (i := 15) (v := undef) rfl (by kernel_rfl) (by kernel_rfl) (by kernel_rfl) (by kernel_rfl) (fun _ _ _ h => h) (Or.inr ⟨by rfl, by rfl⟩) ⟨z00, z01, z02⟩ ?_
     (try simp only [Act.put, q4, q5, q6, q1, q2, q3])
     refine AnyTill.take (i := 16) (v := undef) rfl (by kernel_rfl) (by kernel_rfl) (by kernel_rfl) (by kernel_rfl) (fun _ _ _ h => h) (Or.inr ⟨by rfl, by rfl⟩) ⟨z00, z01, z02⟩ ?_
     (try simp only [Act.put, q4, q5, q6, q1, q2, q3])
     refine AnyTill.take (i := 17) (v := undef) rfl (by kernel_rfl) (by kernel_rfl) (by kernel_rfl) (by kernel_rfl) (fun _ _ _ h => h) (Or.inr ⟨by rfl, by rfl⟩) ⟨z00, z01, z02⟩ ?_
     (try simp only [Act.put, q4, q5, q6, q1, q2, q3])
     refine AnyTill.take (i := 18) (v := undef) rfl (by kernel_rfl) (by kernel_rfl) (by kernel_rfl) (by kernel_rfl) (fun _ _ _ h => h) (Or.inr ⟨by rfl, by rfl⟩) ⟨z00, z01, z02⟩ ?_
     (try simp only [Act.put, q4, q5, q6, q1, q2, q3])
     refine AnyTill.take (i := 19) (v := undef) rfl (by kernel_rfl) (by kernel_rfl) (by kernel_rfl) (by kernel_rfl) (fun _ _ _ h => h) (Or.inr ⟨by rfl, by rfl⟩) ⟨z00, z01, z02⟩ ?_
     (try simp only [Act.put, q4, q5, q6, q1, q2, q3])
     refine AnyTill.take (i := 20) (v := undef) rfl (by kernel_rfl) (by kernel_rfl) (by kernel_rfl) (by kernel_rfl) (fun _ _ _ h => h) (Or.inr ⟨by rfl, by rfl⟩) ⟨z00, z01, z02⟩ ?_
     (try simp only [Act.put, q4, q5, q6, q1, q2, q3])
     refine AnyTill.take (i := 21) (v := ?_) rfl (by kernel_rfl) (by kernel_rfl) (by kernel_rfl) (by kernel_rfl) (fun _ _ _ h => h) (Or.inl ⟨by rfl, ?_⟩) ⟨z00, z01, z02⟩ ?_
     rotate_left
     ·(intro w hSw; (try dsimp only at hSw); go_simp; (try with_reducible rfl))
     (try simp only [Act.put, q4, q5, q6, q1, q2, q3])
     refine AnyTill.take (i := 22) (v := ?_) rfl (by kernel_rfl) (by kernel_rfl) (by kernel_rfl) (by kernel_rfl) (fun _ _ _ h => h) (Or.inl ⟨by rfl, ?_⟩) ⟨z00, z01, z02⟩ ?_
     rotate_left
     ·(intro w hSw; (try dsimp only at hSw); go_simp; (try with_reducible rfl))
     (try simp only [Act.put, q4, q5, q6, q1, q2, q3])
     refine AnyTill.done (by kernel_rfl) ?_ _
     (try simp only [Act.put, q4, q5, q6, q1, q2, q3])
     clear z00 z01 z02
     go_wp2_with fail
     go_ret
     exact ⟨rfl, F_0.out.e.d⟩
   ·have T_3 := hidden hT
    have U_3 := hidden hU
    have HLK := hidden hlk
    have HU1 := hidden hu1
    have HU2 := hidden hu2
    clear hu1 hu2 hlk hT hU
    go_upto_region 21 with fail
    have F_0 := hidden (E_3.out.below (drew_below10 _))
    have T_0 := hidden T_3.out.drew
    have U_0 := hidden U_3.out.drew
    have hy0 : w5.heap.size ≤ v3.drew.heap.size := hz3
    clear T_3 U_3 E_3
    obtain ⟨m, hm⟩ : ∃ m, (z.ty.ap ρ).sz = m := ⟨_, rfl⟩
    have HNZ := hidden hm
    have HGR := hidden (un_good1 HU1.out (x.good XE.out.2.1) (y.good YE.out.2.1))
    have HGR2 := hidden (un_good1 HU2.out (ren_good (x.good XE.out.2.1)) (ren_good (y.good YE.out.2.1)))
    have HCC : Hid (canT (z.ty.ap ρ) = canT ((z.ty.ren pi5).ap ρ2)) := (can_like HLK.out z.ty).symm
    have hm2 : ((z.ty.ren pi5).ap ρ2).sz = m := by rw [← canT_sz, ← HCC.out, canT_sz]; exact hm
    obtain ⟨qz, hqz⟩ : ∃ qz, (z.ty.ap ρ).rw = qz := ⟨_, rfl⟩
    obtain ⟨qy, hqy⟩ : ∃ qy, ((z.ty.ren pi5).ap ρ2).rw = qy := ⟨_, rfl⟩
    have HR1 := hidden hqz
    have HR2 := hidden hqy
    have HQT : Hid (qz.ty = z.ty.ap ρ) := by show _ = _; rw [← hqz]; exact Ty.rw_ty _ (z.ty.good_ap HGR.out (z.good HZM.out))
    have HQM : Hid (qz.may = true) := by show _ = _; rw [← hqz]; exact Ty.rw_may _ (z.ty.good_ap HGR.out (z.good HZM.out))
    have HQT2 : Hid (qy.ty = (z.ty.ren pi5).ap ρ2) := by show _ = _; rw [← hqy]; exact Ty.rw_ty _ ((z.ty.ren pi5).good_ap HGR2.out (ren_good (z.good HZM.out)))
    have HQM2 : Hid (qy.may = true) := by show _ = _; rw [← hqy]; exact Ty.rw_may _ ((z.ty.ren pi5).good_ap HGR2.out (ren_good (z.good HZM.out)))
    have HQN : Hid (qz.sz = m) := by show _ = _; rw [← hqz, Ty.sz_rw]; exact hm
    have HQN2 : Hid (qy.sz = m) := by show _ = _; rw [← hqy, Ty.sz_rw]; exact hm2
    have HCN : Hid ((z.ty.ap ρ).sz ≤ m) := Nat.le_of_eq hm
    clear hm hm2 hqz hqy HGR HGR2 HU1 HU2 HLK
    have em1 : ((4000 : Nat) : Int) = 4000 := rfl
    by_cases cn : 4000 < m
    ·have HMN : Hid (min m (4000 + 1) = 4001) := by show _ = _; omega
     have em2 : ((4001 : Nat) : Int) = 4001 := rfl
     obtain ⟨z00, z01, z02, zf0⟩ := F_0.out.e.c.cells
     clear zf0
     refine region_till (S := (fun w' => w'.cell? ⟨pz, 0, none⟩ = some (.int .i64 z.V) ∧ w'.cell? ⟨pz, 1, none⟩ = some (.string ⟨z.S.toArray⟩) ∧ w'.cell? ⟨pz, 2, none⟩ = some (.slice zl z.L.length zc))) (kz := 99) (by kernel_rfl) ⟨z00, z01, z02⟩ (fun hHeld => ?_)
     refine AnyTill.tk (i := 0) (v := ?_) hHeld ?_ ?_
     rotate_left
     ·(intro w hSw; (try dsimp only at hSw); go_simp; (try with_reducible rfl))
     (try simp only [Act.put, q4, q5, q6, q1, q2, q3])
     refine AnyTill.tk (i := 1) (v := ?_) hHeld ?_ ?_
     rotate_left
     ·(intro w hSw; (try dsimp only at hSw); go_simp; (try with_reducible rfl))
     (try simp only [Act.put, q4, q5, q6, q1, q2, q3])
     refine AnyTill.tk (i := 2) (v := ?_) hHeld ?_ ?_
     rotate_left
     ·(intro w hSw; (try dsimp only at hSw); go_simp; (try with_reducible rfl))
     (try simp only [Act.put, q4, q5, q6, q1, q2, q3])
     refine AnyTill.take (i := 3) (v := ?_) rfl (by kernel_rfl) (by kernel_rfl) (by kernel_rfl) (by kernel_rfl) (fun _ _ _ h => h) (Or.inl ⟨by rfl, ?_⟩) ⟨z00, z01, z02⟩ ?_
     rotate_left
     ·(intro w hSw; (try dsimp only at hSw); go_simp; (try with_reducible rfl))
     (try simp only [Act.put, q4, q5, q6, q1, q2, q3])
     refine AnyTill.take (i := 4) (v := ?_) rfl (by kernel_rfl) (by kernel_rfl) (by kernel_rfl) (by kernel_rfl) (fun _ _ _ h => h) (Or.inl ⟨by rfl, ?_⟩) ⟨z00, z01, z02⟩ ?_
     rotate_left
     ·(intro w hSw; (try dsimp only at hSw); go_simp; (try with_reducible rfl))
     (try simp only [Act.put, q4, q5, q6, q1, q2, q3])
     refine AnyTill.one (i := 5) (by kernel_rfl) rfl (fun K9 hK9 => ?_)
     (try simp only [q1, q2, q3])
     (first | rw [if_pos (by rfl)] | skip)
     go_simp
     have hh := size_n T_0.out (x := z) zc HZM.out (by omega) HZB.out (F_0.out.e.zt.mono (fun g hg _ e => by have h8 := HOW1.out g e; have h7 : g < wr.heap.size := hg; omega)) (by omega) (most := 4000) (by omega)
     rw [HNZ.out, HMN.out, em1, em2] at hh
     refine hh.mono ?_
     clear hh
     rintro e v1 ⟨rfl, g2, g1⟩
     have F_1 := hidden (F_0.out.only g1 (fun g hg => HOW1.out g hg))
     have U_1 := hidden (U_0.out.only g1 (fun g hg => HOL1.out g hg))
     have T_1 := hidden g2
     have hy1 : w5.heap.size ≤ v1.heap.size := Nat.le_trans hy0 g1.size
     clear g2 g1
     obtain ⟨z10, z11, z12, zf1⟩ := F_1.out.e.c.cells
     clear zf1
     refine hK9.out _ _ (fun _ => ⟨z10, z11, z12⟩) ?_
     clear hK9 K9
     (try simp only [Act.put, q4, q5, q6, q1, q2, q3])
     clear z00 z01 z02
     refine AnyTill.take (i := 6) (v := ?_) rfl (by kernel_rfl) (by kernel_rfl) (by kernel_rfl) (by kernel_rfl) (fun _ _ _ h => h) (Or.inl ⟨by rfl, ?_⟩) ⟨z10, z11, z12⟩ ?_
     rotate_left
     ·(intro w hSw; (try dsimp only at hSw); go_simp; (try with_reducible rfl))
     (try simp only [Act.put, q4, q5, q6, q1, q2, q3])
     refine AnyTill.take (i := 7) (v := ?_) rfl (by kernel_rfl) (by kernel_rfl) (by kernel_rfl) (by kernel_rfl) (fun _ _ _ h => h) (Or.inl ⟨by rfl, ?_⟩) ⟨z10, z11, z12⟩ ?_
     rotate_left
     ·(intro w hSw; (try dsimp only at hSw); go_simp; (try with_reducible rfl))
     (try simp only [Act.put, q4, q5, q6, q1, q2, q3])
     refine AnyTill.take (i := 8) (v := ?_) rfl (by kernel_rfl) (by kernel_rfl) (by kernel_rfl) (by kernel_rfl) (fun _ _ _ h => h) (Or.inl ⟨by rfl, ?_⟩) ⟨z10, z11, z12⟩ ?_
     rotate_left
     ·(intro w hSw; (try dsimp only at hSw); go_simp; (try with_reducible rfl))
     (try simp only [Act.put, q4, q5, q6, q1, q2, q3])
     refine AnyTill.take (i := 9) (v := undef) rfl (by kernel_rfl) (by kernel_rfl) (by kernel_rfl) (by kernel_rfl) (fun _ _ _ h => h) (Or.inr ⟨by rfl, by rfl⟩) ⟨z10, z11, z12⟩ ?_
     (try simp only [Act.put, q4, q5, q6, q1, q2, q3])
     refine AnyTill.take (i := 10) (v := undef) rfl (by kernel_rfl) (by kernel_rfl) (by kernel_rfl) (by kernel_rfl) (fun _ _ _ h => h) (Or.inr ⟨by rfl, by rfl⟩) ⟨z10, z11, z12⟩ ?_
     (try simp only [Act.put, q4, q5, q6, q1, q2, q3])
     refine AnyTill.take (i := 11) (v := undef) rfl (by kernel_rfl) (by kernel_rfl) (by kernel_rfl) (by kernel_rfl) (fun _ _ _ h => h) (Or.inr ⟨by rfl, by rfl⟩) ⟨z10, z11, z12⟩ ?_
     (try simp only [Act.put, q4, q5, q6, q1, q2, q3])
     refine AnyTill.take (i := 12) (v := undef) rfl (by kernel_rfl) (by kernel_rfl) (by kernel_rfl) (by kernel_rfl) (fun _ _ _ h => h) (Or.inr ⟨by rfl, by rfl⟩) ⟨z10, z11, z12⟩ ?_
     (try simp only [Act.put, q4, q5, q6, q1, q2, q3])
     refine AnyTill.take (i := 13) (v := undef) rfl (by kernel_rfl) (by kernel_rfl) (by kernel_rfl) (by kernel_rfl) (fun _ _ _ h => h) (Or.inr ⟨by rfl, by rfl⟩) ⟨z10, z11, z12⟩ ?_
     (try simp only [Act.put, q4, q5, q6, q1, q2, q3])
     refine AnyTill.take (i := 14) (v := undef) rfl (by kernel_rfl) (by kernel_rfl) (by kernel_rfl) (by kernel_rfl) (fun _ _ _ h => h) (Or.inr ⟨by rfl, by rfl⟩) ⟨z10, z11, z12⟩ ?_
     (try simp only [Act.put, q4, q5, q6, q1, q2, q3])
     refine AnyTill.take (i := 15) (v := undef) rfl (by kernel_rfl) (by kernel_rfl) (by kernel_rfl) (by kernel_rfl) (fun _ _ _ h => h) (Or.inr ⟨by rfl, by rfl⟩) ⟨z10, z11, z12⟩ ?_
     (try simp only [Act.put, q4, q5, q6, q1, q2, q3])
     refine AnyTill.take (i := 16) (v := undef) rfl (by kernel_rfl) (by kernel_rfl) (by kernel_rfl) (by kernel_rfl) (fun _ _ _ h => h) (Or.inr ⟨by rfl, by rfl⟩) ⟨z10, z11, z12⟩ ?_
     (try simp only [Act.put, q4, q5, q6, q1, q2, q3])
     refine AnyTill.take (i := 17) (v := undef) rfl (by kernel_rfl) (by kernel_rfl) (by kernel_rfl) (by kernel_rfl) (fun _ _ _ h => h) (Or.inr ⟨by rfl, by rfl⟩) ⟨z10, z11, z12⟩ ?_
     (try simp only [Act.put, q4, q5, q6, q1, q2, q3])
     refine AnyTill.take (i := 18) (v := undef) rfl (by kernel_rfl) (by kernel_rfl) (by kernel_rfl) (by kernel_rfl) (fun _ _ _ h => h) (Or.inr ⟨by rfl, by rfl⟩) ⟨z10, z11, z12⟩ ?_
     (try simp only [Act.put, q4, q5, q6, q1, q2, q3])
     refine AnyTill.take (i := 19) (v := undef) rfl (by kernel_rfl) (by kernel_rfl) (by kernel_rfl) (by kernel_rfl) (fun _ _ _ h => h) (Or.inr ⟨by rfl, by rfl⟩) ⟨z10, z11, z12⟩ ?_
     (try simp only [Act.put, q4, q5, q6, q1, q2, q3])
     refine AnyTill.take (i := 20) (v := undef) rfl (by kernel_rfl) (by kernel_rfl) (by kernel_rfl) (by kernel_rfl) (fun _ _ _ h => h) (Or.inr ⟨by rfl, by rfl⟩) ⟨z10, z11, z12⟩ ?_
     (try simp only [Act.put, q4, q5, q6, q1, q2, q3])
     refine AnyTill.take (i := 21) (v := ?_) rfl (by kernel_rfl) (by kernel_rfl) (by kernel_rfl) (by kernel_rfl) (fun _ _ _ h => h) (Or.inl ⟨by rfl, ?_⟩) ⟨z10, z11, z12⟩ ?_
     rotate_left
     ·(intro w hSw; (try dsimp only at hSw); go_simp; (try with_reducible rfl))
     (try simp only [Act.put, q4, q5, q6, q1, q2, q3])
     refine AnyTill.take (i := 22) (v := ?_) rfl (by kernel_rfl) (by kernel_rfl) (by kernel_rfl) (by kernel_rfl) (fun _ _ _ h => h) (Or.inl ⟨by rfl, ?_⟩) ⟨z10, z11, z12⟩ ?_
     rotate_left
     ·(intro w hSw; (try dsimp only at hSw); go_simp; (try with_reducible rfl))
     (try simp only [Act.put, q4, q5, q6, q1, q2, q3])
     refine AnyTill.done (by kernel_rfl) ?_ _
     (try simp only [Act.put, q4, q5, q6, q1, q2, q3])
     clear z10 z11 z12
     go_wp2_with fail
     go_ret
     exact ⟨rfl, F_1.out.e.d⟩
    ·have HMN : Hid (min m (4000 + 1) = m) := by show _ = _; omega
     have zc9 : ¬ (4000 : Int) < (m : Int) := by omega
     have HQZ : Hid (qz.sz ≤ 1000000) := by show _ ≤ _; rw [HQN.out]; omega
     have HQZ2 : Hid (qy.sz ≤ 1000000) := by show _ ≤ _; rw [HQN2.out]; omega
     have HNS : Hid ((z.ty.ap ρ).sz ≤ 4001) := by show _ ≤ _; have h9 := HCN.out; omega
     obtain ⟨z00, z01, z02, zf0⟩ := F_0.out.e.c.cells
     clear zf0
     refine region_till (S := (fun w' => w'.cell? ⟨pz, 0, none⟩ = some (.int .i64 z.V) ∧ w'.cell? ⟨pz, 1, none⟩ = some (.string ⟨z.S.toArray⟩) ∧ w'.cell? ⟨pz, 2, none⟩ = some (.slice zl z.L.length zc))) (kz := 99) (by kernel_rfl) ⟨z00, z01, z02⟩ (fun hHeld => ?_)
     refine AnyTill.tk (i := 0) (v := ?_) hHeld ?_ ?_
     rotate_left
     ·(intro w hSw; (try dsimp only at hSw); go_simp; (try with_reducible rfl))
     (try simp only [Act.put, q4, q5, q6, q1, q2, q3])
     refine AnyTill.tk (i := 1) (v := ?_) hHeld ?_ ?_
     rotate_left
     ·(intro w hSw; (try dsimp only at hSw); go_simp; (try with_reducible rfl))
     (try simp only [Act.put, q4, q5, q6, q1, q2, q3])
     refine AnyTill.tk (i := 2) (v := ?_) hHeld ?_ ?_
     rotate_left
     ·(intro w hSw; (try dsimp only at hSw); go_simp; (try with_reducible rfl))
     (try simp only [Act.put, q4, q5, q6, q1, q2, q3])
     refine AnyTill.take (i := 3) (v := ?_) rfl (by kernel_rfl) (by kernel_rfl) (by kernel_rfl) (by kernel_rfl) (fun _ _ _ h => h) (Or.inl ⟨by rfl, ?_⟩) ⟨z00, z01, z02⟩ ?_
     rotate_left
     ·(intro w hSw; (try dsimp only at hSw); go_simp; (try with_reducible rfl))
     (try simp only [Act.put, q4, q5, q6, q1, q2, q3])
     refine AnyTill.take (i := 4) (v := ?_) rfl (by kernel_rfl) (by kernel_rfl) (by kernel_rfl) (by kernel_rfl) (fun _ _ _ h => h) (Or.inl ⟨by rfl, ?_⟩) ⟨z00, z01, z02⟩ ?_
     rotate_left
     ·(intro w hSw; (try dsimp only at hSw); go_simp; (try with_reducible rfl))
     (try simp only [Act.put, q4, q5, q6, q1, q2, q3])
     refine AnyTill.one (i := 5) (by kernel_rfl) rfl (fun K9 hK9 => ?_)
     (try simp only [q1, q2, q3])
     (first | rw [if_pos (by rfl)] | skip)
     go_simp
     have hh := size_n T_0.out (x := z) zc HZM.out (by omega) HZB.out (F_0.out.e.zt.mono (fun g hg _ e => by have h8 := HOW1.out g e; have h7 : g < wr.heap.size := hg; omega)) (by omega) (most := 4000) (by omega)
     rw [HNZ.out, HMN.out, em1] at hh
     refine hh.mono ?_
     clear hh
     rintro e v1 ⟨rfl, g2, g1⟩
     have F_1 := hidden (F_0.out.only g1 (fun g hg => HOW1.out g hg))
     have U_1 := hidden (U_0.out.only g1 (fun g hg => HOL1.out g hg))
     have T_1 := hidden g2
     have hy1 : w5.heap.size ≤ v1.heap.size := Nat.le_trans hy0 g1.size
     clear g2 g1
     obtain ⟨z10, z11, z12, zf1⟩ := F_1.out.e.c.cells
     clear zf1
     refine hK9.out _ _ (fun _ => ⟨z10, z11, z12⟩) ?_
     clear hK9 K9
     (try simp only [Act.put, q4, q5, q6, q1, q2, q3])
     clear z00 z01 z02
     refine AnyTill.take (i := 6) (v := ?_) rfl (by kernel_rfl) (by kernel_rfl) (by kernel_rfl) (by kernel_rfl) (fun _ _ _ h => h) (Or.inl ⟨by rfl, ?_⟩) ⟨z10, z11, z12⟩ ?_
     rotate_left
     ·(intro w hSw; (try dsimp only at hSw); go_simp; (try with_reducible rfl))
     (try simp only [Act.put, q4, q5, q6, q1, q2, q3])
     refine AnyTill.take (i := 7) (v := ?_) rfl (by kernel_rfl) (by kernel_rfl) (by kernel_rfl) (by kernel_rfl) (fun _ _ _ h => h) (Or.inl ⟨by rfl, ?_⟩) ⟨z10, z11, z12⟩ ?_
     rotate_left
     ·(intro w hSw; (try dsimp only at hSw); go_simp; (try with_reducible rfl))
     (try simp only [Act.put, q4, q5, q6, q1, q2, q3])
     refine AnyTill.take (i := 8) (v := ?_) rfl (by kernel_rfl) (by kernel_rfl) (by kernel_rfl) (by kernel_rfl) (fun _ _ _ h => h) (Or.inl ⟨by rfl, ?_⟩) ⟨z10, z11, z12⟩ ?_
     rotate_left
     ·(intro w hSw; (try dsimp only at hSw); go_simp; (try with_reducible rfl))
     (try simp only [Act.put, q4, q5, q6, q1, q2, q3])
     refine AnyTill.take (i := 9) (v := ?_) rfl (by kernel_rfl) (by kernel_rfl) (by kernel_rfl) (by kernel_rfl) (fun _ _ _ h => h) (Or.inl ⟨by rfl, ?_⟩) ⟨z10, z11, z12⟩ ?_
     rotate_left
     ·(intro w hSw; (try dsimp only at hSw); go_simp; (try with_reducible rfl))
     (try simp only [Act.put, q4, q5, q6, q1, q2, q3])
     refine AnyTill.take (i := 10) (v := ?_) rfl (by kernel_rfl) (by kernel_rfl) (by kernel_rfl) (by kernel_rfl) (fun _ _ _ h => h) (Or.inl ⟨by rfl, ?_⟩) ⟨z10, z11, z12⟩ ?_
     rotate_left
     ·(intro w hSw; (try dsimp only at hSw); go_simp; (try with_reducible rfl))
     (try simp only [Act.put, q4, q5, q6, q1, q2, q3])
     refine AnyTill.take (i := 13) (v := ?_) rfl (by kernel_rfl) (by kernel_rfl) (by kernel_rfl) (by kernel_rfl) (fun _ _ _ h => h) (Or.inl ⟨by rfl, ?_⟩) ⟨z10, z11, z12⟩ ?_
     rotate_left
     ·(intro w hSw; (try dsimp only at hSw); go_simp; (try with_reducible rfl))
     (try simp only [Act.put, q4, q5, q6, q1, q2, q3])
     refine AnyTill.take (i := 14) (v := ?_) rfl (by kernel_rfl) (by kernel_rfl) (by kernel_rfl) (by kernel_rfl) (fun _ _ _ h => h) (Or.inl ⟨by rfl, ?_⟩) ⟨z10, z11, z12⟩ ?_
     rotate_left
     ·(intro w hSw; (try dsimp only at hSw); go_simp; (try with_reducible rfl))
     (try simp only [Act.put, q4, q5, q6, q1, q2, q3])
     refine AnyTill.take (i := 15) (v := ?_) rfl (by kernel_rfl) (by kernel_rfl) (by kernel_rfl) (by kernel_rfl) (fun _ _ _ h => h) (Or.inl ⟨by rfl, ?_⟩) ⟨z10, z11, z12⟩ ?_
     rotate_left
     ·(intro w hSw; (try dsimp only at hSw); go_simp; (try with_reducible rfl))
     (try simp only [Act.put, q4, q5, q6, q1, q2, q3])
     refine AnyTill.take (i := 16) (v := ?_) rfl (by kernel_rfl) (by kernel_rfl) (by kernel_rfl) (by kernel_rfl) (fun _ _ _ h => h) (Or.inl ⟨by rfl, ?_⟩) ⟨z10, z11, z12⟩ ?_
     rotate_left
     ·(intro w hSw; (try dsimp only at hSw); go_simp; (try with_reducible rfl))
     (try simp only [Act.put, q4, q5, q6, q1, q2, q3])
     refine AnyTill.one (i := 11) (by kernel_rfl) rfl (fun K9 hK9 => ?_)
     (try simp only [q1, q2, q3])
     (first | rw [if_pos (by rfl)] | skip)
     go_simp
     have hh := res_n T_1.out (x := z) zc HZM.out (by omega) HZB.out (F_1.out.e.zt.mono (fun g hg _ e => by have h8 := HOW1.out g e; have h7 : g < wr.heap.size := hg; omega)) (by omega)
     rw [HR1.out] at hh
     refine hh.mono ?_
     clear hh
     rintro e v2 ⟨al5, cp5, rfl, g2, g3, g1, g4⟩
     have F_2 := hidden (F_1.out.only g1 (fun g hg => HOW1.out g hg))
     have U_2 := hidden (U_1.out.only g1 (fun g hg => HOL1.out g hg))
     have Q_2 : Hid (RT (fun g => w5.heap.size ≤ g) v2 qz.L al5) := g3.mono (fun g hg _ => Nat.le_trans hy1 hg)
     have BQ := hidden g4
     have hy2 : w5.heap.size ≤ v2.heap.size := Nat.le_trans hy1 g1.size
     clear g1 g2 g3 g4
     obtain ⟨z20, z21, z22, zf2⟩ := F_2.out.e.c.cells
     clear zf2
     refine hK9.out _ _ (fun _ => ⟨z20, z21, z22⟩) ?_
     clear hK9 K9
     (try simp only [Act.put, q4, q5, q6, q1, q2, q3])
     clear z10 z11 z12
     refine AnyTill.one (i := 12) (by kernel_rfl) rfl (fun K9 hK9 => ?_)
     (try simp only [q1, q2, q3])
     (first | rw [if_pos (by rfl)] | skip)
     go_simp
     refine (rcan_any v2 qz al5 cp5 HQZ.out HQM.out BQ.out (Q_2.out.mono (fun g _ hl => hl))).mono ?_
     rintro e v3' ⟨al6, cp6, c3, hc3, rfl, g3, hb, g4⟩
     rw [HQT.out] at hc3
     have HC3 := hidden hc3
     have F_3 := hidden (F_2.out.below hb)
     have U_3 := hidden (U_2.out.below hb)
     have P_3 : Hid (RT (fun g => w5.heap.size ≤ g) v3' c3.L al6) := g3.mono (fun g hg _ => Nat.le_trans hy2 hg)
     have hy3 : w5.heap.size ≤ v3'.heap.size := Nat.le_trans hy2 hb.size
     clear hb g3 g4 hc3
     obtain ⟨z30, z31, z32, zf3⟩ := F_3.out.e.c.cells
     clear zf3
     refine hK9.out _ _ (fun _ => ⟨z30, z31, z32⟩) ?_
     clear hK9 K9
     (try simp only [Act.put, q4, q5, q6, q1, q2, q3])
     clear z20 z21 z22
     refine AnyTill.one (i := 17) (by kernel_rfl) rfl (fun K9 hK9 => ?_)
     (try simp only [q1, q2, q3])
     (first | rw [if_pos (by rfl)] | skip)
     go_simp
     have hh := RRZ.out _ zl zc F_3.out.e.f F_3.out.t (F_3.out.e.zt.mono (fun g _ hl => hl))
     refine hh.mono ?_
     clear hh
     rintro e v4 ⟨al7, cp7, z1, hz1, rfl, g3, hb, g4⟩
     rw [HAZ.out] at hz1
     have F_4 := hidden (F_3.out.below hb)
     have U_4 := hidden (U_3.out.below hb)
     have P_4 : Hid (RT (fun g => w5.heap.size ≤ g) v4 c3.L al6) := P_3.out.beneath hb (Nat.le_refl _)
     have Z_4 : Hid (RT (fun g => w5.heap.size ≤ g) v4 z1.L al7) := g3.mono (fun g hg _ => Nat.le_trans hy3 hg)
     have hy4 : w5.heap.size ≤ v4.heap.size := Nat.le_trans hy3 hb.size
     have BZ1 := hidden g4
     have HTZ : Hid (z1.ty = z.ty.ren pi5) := by show _ = _; rw [hz1]; exact Ty.rw_ty _ (ren_good (z.good HZM.out))
     have HMZ : Hid (z1.may = true) := by show _ = _; rw [hz1]; exact Ty.rw_may _ (ren_good (z.good HZM.out))
     have HSZ : Hid (z1.sz = z.sz) := by show _ = _; rw [hz1, Ty.sz_rw, ren_sz]; exact z.sz_ty HZM.out
     clear hb g3 g4 hz1
     obtain ⟨z40, z41, z42, zf4⟩ := F_4.out.e.c.cells
     clear zf4
     refine hK9.out _ _ (fun _ => ⟨z40, z41, z42⟩) ?_
     clear hK9 K9
     (try simp only [Act.put, q4, q5, q6, q1, q2, q3])
     clear z30 z31 z32
     refine AnyTill.one (i := 18) (by kernel_rfl) rfl (fun K9 hK9 => ?_)
     (try simp only [q1, q2, q3])
     (first | rw [if_pos (by rfl)] | skip)
     go_simp
     have hh := res_n U_4.out (x := z1) cp7 HMZ.out (by rw [HSZ.out]; omega) BZ1.out (Z_4.out.mono (fun g hg _ e => by have h8 := HOL2.out g e; have h7 : w5.heap.size ≤ g := hg; omega)) (by rw [HSZ.out]; omega)
     rw [HTZ.out, HR2.out] at hh
     refine hh.mono ?_
     clear hh
     rintro e v5 ⟨al8, cp8, rfl, g2, g3, g1, g4⟩
     have F_5 := hidden (F_4.out.only g1 (fun g hg => HOW2b.out g hg))
     have P_5 : Hid (RT (fun g => w5.heap.size ≤ g) v5 c3.L al6) := P_4.out.keep (fun g hg hl => g1.block g hl (fun e => by have h9 := HOL2.out g e; have h7 : w5.heap.size ≤ g := hg; omega))
     have Q_5 := hidden g3
     have BQ5 := hidden g4
     have hy5 : v4.heap.size ≤ v5.heap.size := g1.size
     clear g1 g2 g3 g4
     obtain ⟨z50, z51, z52, zf5⟩ := F_5.out.e.c.cells
     clear zf5
     refine hK9.out _ _ (fun _ => ⟨z50, z51, z52⟩) ?_
     clear hK9 K9
     (try simp only [Act.put, q4, q5, q6, q1, q2, q3])
     clear z40 z41 z42
     refine AnyTill.one (i := 19) (by kernel_rfl) rfl (fun K9 hK9 => ?_)
     (try simp only [q1, q2, q3])
     (first | rw [if_pos (by rfl)] | skip)
     go_simp
     refine (rcan_any v5 qy al8 cp8 HQZ2.out HQM2.out BQ5.out (Q_5.out.mono (fun g _ hl => hl))).mono ?_
     rintro e v6 ⟨al9, cp9, c5, hc5, rfl, g3, hb, g4⟩
     rw [HQT2.out] at hc5
     have F_6 := hidden (F_5.out.below hb)
     have P_6 : Hid (RT (fun g => w5.heap.size ≤ g) v6 c3.L al6) := P_5.out.beneath hb (Nat.le_refl _)
     have P6b := hidden g3
     obtain rfl : c3 = c5 := by rw [HC3.out, hc5, HCC.out]
     clear hb g3 g4 hc5
     obtain ⟨z60, z61, z62, zf6⟩ := F_6.out.e.c.cells
     clear zf6
     refine hK9.out _ _ (fun _ => ⟨z60, z61, z62⟩) ?_
     clear hK9 K9
     (try simp only [Act.put, q4, q5, q6, q1, q2, q3])
     clear z50 z51 z52
     refine AnyTill.one (i := 20) (by kernel_rfl) rfl (fun K9 hK9 => ?_)
     (try simp only [q1, q2, q3])
     (first | rw [if_pos (by rfl)] | skip)
     go_simp
     refine (rsame10 4001 c3 c3 (by rw [HC3.out, Ty.sz_rw, canT_sz]; exact HNS.out) (by omega) v6 al6 al9 cp6 cp9 P_6.out P6b.out).mono ?_
     rintro e v7 ⟨b6, rfl, hb2, hb⟩
     obtain rfl : b6 = true := hb2.2 rfl
     have F_7 := hidden (F_6.out.below hb)
     clear hb hb2
     obtain ⟨z70, z71, z72, zf7⟩ := F_7.out.e.c.cells
     clear zf7
     refine hK9.out _ _ (fun _ => ⟨z70, z71, z72⟩) ?_
     clear hK9 K9
     (try simp only [Act.put, q4, q5, q6, q1, q2, q3])
     clear z60 z61 z62
     refine AnyTill.take (i := 21) (v := ?_) rfl (by kernel_rfl) (by kernel_rfl) (by kernel_rfl) (by kernel_rfl) (fun _ _ _ h => h) (Or.inl ⟨by rfl, ?_⟩) ⟨z70, z71, z72⟩ ?_
     rotate_left
     ·(intro w hSw; (try dsimp only at hSw); go_simp; (try with_reducible rfl))
     (try simp only [Act.put, q4, q5, q6, q1, q2, q3])
     refine AnyTill.take (i := 22) (v := ?_) rfl (by kernel_rfl) (by kernel_rfl) (by kernel_rfl) (by kernel_rfl) (fun _ _ _ h => h) (Or.inl ⟨by rfl, ?_⟩) ⟨z70, z71, z72⟩ ?_
     rotate_left
     ·(intro w hSw; (try dsimp only at hSw); go_simp; (try with_reducible rfl))
     (try simp only [Act.put, q4, q5, q6, q1, q2, q3])
     refine AnyTill.done (by kernel_rfl) ?_ _
     (try simp only [Act.put, q4, q5, q6, q1, q2, q3])
     clear z70 z71 z72
     go_wp2_with fail
     go_ret
     exact ⟨rfl, F_7.out.e.d⟩
end Go.Proofs.YtnebhiaeechpaaaDoor
