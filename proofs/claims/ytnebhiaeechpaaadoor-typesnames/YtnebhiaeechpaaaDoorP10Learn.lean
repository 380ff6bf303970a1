/-
 Layer 10: the program's learn and join: a variable is named, two become one. Condition: the Table lies in memory.
-/
import Derived.Test.YtnebhiaeechpaaaDoorP10Res
namespace Go.Proofs.YtnebhiaeechpaaaDoor
open Go.ChangeShapes Go.WideShapes Go.ChangeAt Go.RowKit Go.Deep
set_option linter.unusedVariables false
set_option linter.unusedSimpArgs false
set_option maxHeartbeats 4000000
set_option maxRecDepth 20000
/-- The table is another one: whatever it knows lies in O's blocks, and it is R. -/
structure TAs (O : Nat → Prop) (tb q r K nm own : Nat) (hi : Int) (F : List Int) (R : Int → Ty) (d : Int → Nat) (σ : Int → Option Rw) (μ : Int → Option Int) (w : World) : Prop where
 ps : PS F own σ R d
 pt : PT O w tb q r K nm own hi σ μ
theorem Ext.nat {F : List Int} {own own' : Nat} {σ σ' : Int → Option Rw} {R R' : Int → Ty} {d d' : Int → Nat} (h : Ext F own σ R own' σ' R') (hs : PS F own σ R d) (hs' : PS F own' σ' R' d') (n : Nat) : R' (n : Int) = R (n : Int) := by
 by_cases c : (n : Int) ∈ F
 ·exact h.same _ (Or.inl c)
 ·have h1 : σ (n : Int) = none := by
   cases hz : σ (n : Int) with
   | none => rfl
   | some z =>
    rcases hs.dom _ z hz with h9 | h9
    ·exact absurd h9 c
    ·omega
  have h2 : σ' (n : Int) = none := by
   cases hz : σ' (n : Int) with
   | none => rfl
   | some z =>
    rcases hs'.dom _ z hz with h9 | h9
    ·exact absurd h9 c
    ·omega
  rw [hs.free _ h1 (by omega), hs'.free _ h2 (by omega)]
/-- What learn tells. -/
def LearnAs (O : Nat → Prop) (tb q r K own : Nat) (hi : Int) (F : List Int) (R : Int → Ty) (σ : Int → Option Rw) (v : Int) (x : Rw) (w : World) (e : Ending) (w' : World) : Prop := Only (Own3 tb q r) w w' ∧ (((x.rs R).occ v.toNat ∧ e = .returned (.int .i64 26)) ∨ (¬ (x.rs R).occ v.toNat ∧ e = .returned (.int .i64 0) ∧ ∃ (own' : Nat) (σ' : Int → Option Rw) (R' : Int → Ty) (d' : Int → Nat) (O' : Nat → Prop) (nm' : Nat) (μ' : Int → Option Int), PS F own' σ' R' d' ∧ PT O' w' tb q r (K + 2 * szRL x.L + 1) nm' own' hi σ' μ' ∧ (∀ g, O g → O' g) ∧ (∀ g, O' g → O g ∨ w.heap.size ≤ g) ∧ (∀ u, OkV F σ u → OkV F σ' u ∧ R' u = (R u).ap (oneT v.toNat (x.rs R))) ∧ (∀ n : Nat, R' (n : Int) = (R (n : Int)).ap (oneT v.toNat (x.rs R))) ∧ (∀ k z, σ k = some z → z.V = 0 → σ' k = some z)))
section
variable {O : Nat → Prop} {tb q r K nm own : Nat} {hi : Int} {F : List Int} {R : Int → Ty} {d : Int → Nat} {σ : Int → Option Rw} {μ : Int → Option Int} {w : World}
theorem learn_any (hF : F.length ≤ 1000000) (h : PT O w tb q r K nm own hi σ μ) (hs : PS F own σ R d) {v : Int} (hv : v ∈ F) (hn : σ v = none) {x : Rw} {ao : Option Addr} (c : Nat) (hx : x.ok (OkV F σ)) (hsz : x.sz ≤ 1000) (hsl : x.S.length ≤ maxLen) (hrt : RT (fun g => ¬ Own3 tb q r g) w x.L ao) (hK : K + 3000 ≤ 1000000000) : Calls Tryd.prog 41 #[.pointer (some ⟨tb, 0, none⟩), .int .i64 v, .agg #[.int .i64 x.V, .string ⟨x.S.toArray⟩, .slice ao x.L.length c]] w fun e w' => LearnAs O tb q r K own hi F R σ v x w e w' := by
 have HS := hidden hs
 have HV := hidden hv
 have HN := hidden hn
 have HX := hidden hx
 have HSL := hidden hsl
 have HB : Hid (∀ g, O g ∨ Own3 tb q r g → g < w.heap.size) := fun g hg => h.new hg
 have T0 := hidden (h.alloc (.cells #[.int .i64 x.V, .string ⟨x.S.toArray⟩, .slice ao x.L.length c] 24))
 have X0 := hidden (hrt.alloc (.cells #[.int .i64 x.V, .string ⟨x.S.toArray⟩, .slice ao x.L.length c] 24))
 have A0 := hidden (B3.new w x.V ⟨x.S.toArray⟩ (.slice ao x.L.length c))
 have L0 := hidden ((Only.refl (Own3 tb q r) w).alloc (.cells #[.int .i64 x.V, .string ⟨x.S.toArray⟩, .slice ao x.L.length c] 24))
 have how := h.ow
 have hpv := hs.pos v hv
 have hszL : 1 + szRL x.L ≤ 1000 := by rw [← sz_L]; exact hsz
 have HVN : Hid (((v.toNat : Nat) : Int) = v) := Int.toNat_of_nonneg (by omega)
 clear h hs hv hn hx hsl hrt
 go_enter Tryd.func41, Tryd.ntmps41
 go_upto_region 1 with fail
 generalize w.alloc (.cells #[.int .i64 x.V, .string ⟨x.S.toArray⟩, .slice ao x.L.length c] 24) = w0 at *
 obtain ⟨a0, a1, a2, af⟩ := A0.out.cells
 go_wp2_with fail
 refine (vars_any (by omega) hF T0.out HS.out c HX.out (by omega) X0.out).mono ?_
 rintro e w1 ⟨σ1, μ1, nm1, vv, l, rfl, j1, j2, j3, j4, j5, j6, j7, j8⟩
 have A1 : Hid (B3 w1 w.heap.size x.V ⟨x.S.toArray⟩ (.slice ao x.L.length c)) := A0.out.keep (j5.block _ A0.out.lt (fun e => by have h9 := HB.out _ (Or.inr e); omega))
 have X1 : Hid (RT (fun g => ¬ Own3 tb q r g) w1 x.L ao) := X0.out.keep (fun g hg hl => j5.block g hl hg)
 have L1 := hidden (L0.out.trans j5)
 have T1 := hidden j3
 have HS1 := hidden j2
 have HC1 := hidden j1
 have HM := hidden (And.intro j6 j7)
 have HCT := hidden (contains_any j4 j8 v)
 clear j1 j2 j3 j4 j5 j6 j7 j8 a0 a1 a2 af
 go_wp2_with fail
 refine HCT.out.mono ?_
 rintro e w2 ⟨⟨b, rfl, hb⟩, hw2⟩
 subst hw2
 have HB2 : Hid (b = true ↔ (x.rs R).occ v.toNat) := by
  refine hb.trans ⟨fun h => (HM.out.1 v h).2, fun h => ?_⟩
  have h9 := HM.out.2 _ h
  rw [HVN.out] at h9
  exact h9
 clear hb HCT HM
 cases b with
 | true =>
  go_wp2_with fail
  go_ret
  exact ⟨L1.out, Or.inl ⟨HB2.out.1 (by first | exact rfl | trivial), rfl⟩⟩
 | false =>
  have HNO : Hid (¬ (x.rs R).occ v.toNat) := fun h => by have h9 := HB2.out.2 h; cases h9
  clear HB2
  obtain ⟨t0, t1, t2, t3, tf⟩ := T1.out.cells
  clear t1 t2 t3 tf
  obtain ⟨a0, a1, a2, af⟩ := A1.out.cells
  clear af
  go_upto_region 3 with fail
  have TD9 : Hid (PT O w2.drew tb q r K nm1 own hi σ1 μ1) := T1.out.keep (fun g _ _ => rfl)
  have XD : Hid (RT (fun g => ¬ Own3 tb q r g) w2.drew x.L ao) := X1.out.keep (fun g _ _ => rfl)
  have LD : Hid (Only (Own3 tb q r) w w2.drew) := L1.out.drewN 1
  have HNF := hidden (flat_any (nm := nm1) (μ := μ1) (d := d) x.sz O K own R σ1 w2.drew x ao c (Nat.le_refl _) (by omega) HSL.out TD9.out HS1.out (HC1.out.ok HX.out) XD.out (by omega))
  refine region_till (S := (fun w' => w'.cell? ⟨tb, 0, none⟩ = some (.map (some q)) ∧ w'.cell? ⟨w.heap.size, 0, none⟩ = some (.int .i64 x.V) ∧ w'.cell? ⟨w.heap.size, 1, none⟩ = some (.string ⟨x.S.toArray⟩) ∧ w'.cell? ⟨w.heap.size, 2, none⟩ = some (.slice ao x.L.length c))) (kz := 8) (by kernel_rfl) ⟨t0, a0, a1, a2⟩ (fun hHeld => ?_)
  refine AnyTill.tk (i := 0) (v := ?_) hHeld ?_ ?_
  rotate_left
  ·(intro w hSw; (try dsimp only at hSw); go_simp; (try with_reducible rfl))
  (try simp only [Act.put, q4, q5, q6, q1, q2, q3])
  refine AnyTill.tk (i := 1) (v := ?_) hHeld ?_ ?_
  rotate_left
  ·(intro w hSw; (try dsimp only at hSw); go_simp; (try with_reducible rfl))
  (try simp only [Act.put, q4, q5, q6, q1, q2, q3])
  refine AnyTill.tk (i := 2) (v := ?_) hHeld ?_ ?_
  rotate_left
  ·(intro w hSw; (try dsimp only at hSw); go_simp; (try with_reducible rfl))
  (try simp only [Act.put, q4, q5, q6, q1, q2, q3])
  refine AnyTill.tk (i := 3) (v := ?_) hHeld ?_ ?_
  rotate_left
  ·(intro w hSw; (try dsimp only at hSw); go_simp; (try with_reducible rfl))
  (try simp only [Act.put, q4, q5, q6, q1, q2, q3])
  refine AnyTill.tk (i := 4) (v := ?_) hHeld ?_ ?_
  rotate_left
  ·(intro w hSw; (try dsimp only at hSw); go_simp; (try with_reducible rfl))
  (try simp only [Act.put, q4, q5, q6, q1, q2, q3])
  refine AnyTill.tk (i := 5) (v := ?_) hHeld ?_ ?_
  rotate_left
  ·(intro w hSw; (try dsimp only at hSw); go_simp; (try with_reducible rfl))
  (try simp only [Act.put, q4, q5, q6, q1, q2, q3])
  refine AnyTill.tk (i := 6) (v := ?_) hHeld ?_ ?_
  rotate_left
  ·(intro w hSw; (try dsimp only at hSw); go_simp; (try with_reducible rfl))
  (try simp only [Act.put, q4, q5, q6, q1, q2, q3])
  refine AnyTill.one (i := 7) (by kernel_rfl) rfl (fun K9 hK9 => ?_)
  (try simp only [q1, q2, q3])
  go_simp
  refine HNF.out.mono ?_
  rintro e w3 ⟨z, al, cp, own', σ', R', O', rfl, k1, k2, k3, k4, k5, k6, k7, k8, k9, k10⟩
  have A2 : Hid (B3 w3 w.heap.size x.V ⟨x.S.toArray⟩ (.slice ao x.L.length c)) := A1.out.keep ((k7.block _ (show _ < w2.heap.size from A1.out.lt) (fun e => by have h9 := HB.out _ (Or.inr e); omega)).trans rfl)
  have hvn : σ' v = none := by
   cases hq : σ' v with
   | none => rfl
   | some y =>
    rcases k1.fresh v (by rw [hq]; simp) with h7 | h7
    ·exact absurd ((HC1.out.none v).2 HN.out) h7
    ·omega
  have hzz : FlatN F σ' z ∨ (z = .mk z.V [] [] ∧ z.V ≠ 0 ∧ OkV F σ' z.V) := by
   by_cases c9 : x.V = 0
   ·exact Or.inl (k9 c9)
   ·have h9 := k10 c9
    obtain ⟨q1, q2⟩ := ok_var HX.out c9
    rw [h9]
    exact Or.inr ⟨rfl, c9, k1.okv (HC1.out.okv.2 q1)⟩
  have hzr : (-9223372036854775808 ≤ z.V ∧ z.V ≤ 9223372036854775807) ∧ z.S.length ≤ maxLen := by
   rcases hzz with h9 | ⟨h9, h8, h7⟩
   ·exact ⟨by rw [h9.1]; omega, h9.2.2.2⟩
   ·have h6 := k2.rng h7
    have h5 := k3.ow
    refine ⟨by omega, ?_⟩
    rw [h9]
    exact Nat.zero_le _
  obtain ⟨w4, m1, m2, m3⟩ := k3.put (k := v) (by unfold maxLen; omega) (by omega) (x := z) hzr.1 hzr.2 (al := al) (cp := cp) k4
  have hno : ¬ (z.rs R').occ v.toNat := by rw [k8]; exact HNO.out
  obtain ⟨d', hps⟩ := k2.learn HV.out hvn hzz hno
  have L4 : Hid (Only (Own3 tb q r) w w4) := (LD.out.trans k7).trans (Only.grown m3 (Or.inr (Or.inl rfl)))
  have FIN : Hid (∃ (own' : Nat) (σ' : Int → Option Rw) (R' : Int → Ty) (d' : Int → Nat) (O' : Nat → Prop) (nm' : Nat) (μ' : Int → Option Int), PS F own' σ' R' d' ∧ PT O' w4 tb q r (K + 2 * szRL x.L + 1) nm' own' hi σ' μ' ∧ (∀ g, O g → O' g) ∧ (∀ g, O' g → O g ∨ w.heap.size ≤ g) ∧ (∀ u, OkV F σ u → OkV F σ' u ∧ R' u = (R u).ap (oneT v.toNat (x.rs R))) ∧ (∀ n : Nat, R' (n : Int) = (R (n : Int)).ap (oneT v.toNat (x.rs R))) ∧ (∀ k z, σ k = some z → z.V = 0 → σ' k = some z)) := by
   refine ⟨own', upd σ' v z, nameR R' v (z.rs R'), d', O', nm1, μ1, hps, m2, k5, fun g hg => ?_, fun u hu => ⟨okv_upd z (k1.okv (HC1.out.okv.2 hu)), ?_⟩, fun n => ?_, fun k y hk hy => ?_⟩
   ·rcases k6 g hg with h9 | h9
    ·exact Or.inl h9
    ·exact Or.inr (Nat.le_trans LD.out.size h9)
   ·show (R' u).ap (oneT v.toNat (z.rs R')) = _
    rw [k8, k1.same u (HC1.out.okv.2 hu)]
   ·show (R' (n : Int)).ap (oneT v.toNat (z.rs R')) = _
    rw [k8, k1.nat HS1.out k2 n]
   ·have h9 := k1.keep k y (HC1.out.name k y hk hy)
    have h8 : k ≠ v := fun e => by rw [e, HN.out] at hk; cases hk
    rw [upd_other z h8]
    exact h9
  have s2 := k3.cells.1
  obtain ⟨b0, b1, b2, bf⟩ := A2.out.cells
  refine hK9.out _ _ (fun _ => ⟨s2, b0, b1, b2⟩) ?_
  clear hK9 K9
  (try simp only [Act.put, q4, q5, q6, q1, q2, q3])
  clear s2 b0 b1 b2 bf k1 k2 k3 k4 k5 k6 k7 k8 k9 k10 m2 m3 hvn hzz hzr hno hps
  refine AnyTill.one (i := 8) (by kernel_rfl) rfl (fun K9 hK9 => ?_)
  (try simp only [q1, q2, q3])
  go_simp
  refine hK9.out _ _ (fun h => absurd rfl h) ?_
  clear hK9 K9
  (try simp only [Act.put, q4, q5, q6, q1, q2, q3])
  refine AnyTill.done (by kernel_rfl) ?_ _
  (try simp only [Act.put, q4, q5, q6, q1, q2, q3])
  clear m1 t0 a0 a1 a2
  go_wp2_with fail
  go_ret
  exact ⟨L4.out, Or.inr ⟨HNO.out, rfl, FIN.out⟩⟩
theorem two_box (w : World) (V V2 : Int) (x x2 : ByteArray) (v v2 : Value) : B3 ((w.alloc (.cells #[.int .i64 V, .string x, v] 24)).alloc (.cells #[.int .i64 V2, .string x2, v2] 24)) w.heap.size V x v ∧ B3 ((w.alloc (.cells #[.int .i64 V, .string x, v] 24)).alloc (.cells #[.int .i64 V2, .string x2, v2] 24)) (w.heap.size + 1) V2 x2 v2 ∧ Below w.heap.size w ((w.alloc (.cells #[.int .i64 V, .string x, v] 24)).alloc (.cells #[.int .i64 V2, .string x2, v2] 24)) := by
 refine ⟨(B3.new w V x v).alloc _, ?_, ((Below.refl _ _).alloc (Nat.le_refl _) _).alloc (by simp) _⟩
 show _ = _
 rw [← nblk_alloc w (.cells #[.int .i64 V, .string x, v] 24)]
 exact blk_alloc_new _ _
theorem join_none {V V2 : Int} (h0 : V = 0 ∨ V2 = 0) (x x2 : ByteArray) (ao ao2 : Option Addr) (l c l2 c2 : Nat) : Calls Tryd.prog 42 #[.pointer (some ⟨tb, 0, none⟩), .agg #[.int .i64 V, .string x, .slice ao l c], .agg #[.int .i64 V2, .string x2, .slice ao2 l2 c2]] w fun e w' => e = .returned (.tuple #[]) ∧ Below w.heap.size w w' := by
 go_enter Tryd.func42, Tryd.ntmps42
 go_upto_region 1 with fail
 obtain ⟨a1, a2, a3⟩ := two_box w V V2 x x2 (.slice ao l c) (.slice ao2 l2 c2)
 have A := hidden a1
 have C := hidden a2
 have D := hidden a3
 clear a1 a2 a3
 generalize (w.alloc (.cells #[.int .i64 V, .string x, .slice ao l c] 24)).alloc (.cells #[.int .i64 V2, .string x2, .slice ao2 l2 c2] 24) = w0 at *
 obtain ⟨a0, a1, a2, af⟩ := A.out.cells
 obtain ⟨c0, c1, c2x, cf⟩ := C.out.cells
 by_cases hV : V = 0
 ·subst hV
  clear h0
  go_wp2_with fail
  refine bodyPost_end (results_none rfl _ _ _) rfl ?_
  exact ⟨rfl, D.out⟩
 ·have h2 : V2 = 0 := h0.resolve_left hV
  have hb : (V == 0) = false := beq_eq_false_iff_ne.2 hV
  have hbn : (V != 0) = true := by simp [hV]
  subst h2
  clear h0
  go_wp2_with fail
  refine bodyPost_end (results_none rfl _ _ _) rfl ?_
  exact ⟨rfl, D.out⟩
theorem join_vars (hK : K ≤ 1000000000) (h : PT O w tb q r K nm own hi σ μ) {V V2 : Int} (hV : -9223372036854775808 ≤ V ∧ V ≤ 9223372036854775807) (hV2 : -9223372036854775808 ≤ V2 ∧ V2 ≤ 9223372036854775807) (h0 : V ≠ 0) (h2 : V2 ≠ 0) (hn : σ V ≠ none) (x : ByteArray) (ao : Option Addr) (l c : Nat) : Calls Tryd.prog 42 #[.pointer (some ⟨tb, 0, none⟩), .agg #[.int .i64 V, .string x, .slice ao l c], .agg #[.int .i64 V2, .string ⟨#[]⟩, .slice none 0 0]] w fun e w' => e = .returned (.tuple #[]) ∧ PT O w' tb q r K nm own hi (upd σ V (.mk V2 [] [])) μ ∧ Only (Own3 tb q r) w w' := by
 have T := hidden h
 have hb : (V == 0) = false := beq_eq_false_iff_ne.2 h0
 have hb2 : (V2 == 0) = false := beq_eq_false_iff_ne.2 h2
 have hbn : (V != 0) = true := by simp [h0]
 have hbn2 : (V2 != 0) = true := by simp [h2]
 have HN := hidden hn
 have HB : Hid (∀ g, O g ∨ Own3 tb q r g → g < w.heap.size) := fun g hg => h.new hg
 clear h h0 h2 hn
 go_enter Tryd.func42, Tryd.ntmps42
 go_upto_region 1 with fail
 obtain ⟨a1, a2, a3⟩ := two_box w V V2 x ⟨#[]⟩ (.slice ao l c) (.slice none 0 0)
 have A := hidden a1
 have C := hidden a2
 have D := hidden a3
 have T0 := hidden (T.out.below a3 (Nat.le_refl _))
 clear a1 a2 a3
 generalize (w.alloc (.cells #[.int .i64 V, .string x, .slice ao l c] 24)).alloc (.cells #[.int .i64 V2, .string ⟨#[]⟩, .slice none 0 0] 24) = w0 at *
 obtain ⟨a0, a1, a2, af⟩ := A.out.cells
 obtain ⟨c0, c1, c2, cf⟩ := C.out.cells
 obtain ⟨t0, t1, t2, t3, tf⟩ := T0.out.cells
 clear a1 a2 af cf t1 t2 t3 tf
 have TD9 : Hid (PT O w0.drew tb q r K nm own hi σ μ) := T0.out.keep (fun g _ _ => rfl)
 obtain ⟨w4, m1, m2, m3⟩ := TD9.out.again (k := V) (by unfold maxLen; omega) hV HN.out (x := .mk V2 [] []) hV2 (Nat.zero_le _) (al := none) (cp := 0) rt_nil
 have T4 := hidden m2
 have L4 : Hid (Only (Own3 tb q r) w w4) := ((Only.of_below D.out).drewN 1).trans (Only.grown m3 (Or.inr (Or.inl rfl)))
 (try simp only [Rw.V, Rw.S, Rw.L, List.length_nil] at m1)
 clear m2 m3
 go_upto_region 2 with fail
 refine region_till (S := (fun w' => w'.cell? ⟨tb, 0, none⟩ = some (.map (some q)) ∧ w'.cell? ⟨w.heap.size, 0, none⟩ = some (.int .i64 V) ∧ w'.cell? ⟨w.heap.size + 1, 0, none⟩ = some (.int .i64 V2) ∧ w'.cell? ⟨w.heap.size + 1, 1, none⟩ = some (.string ⟨#[]⟩) ∧ w'.cell? ⟨w.heap.size + 1, 2, none⟩ = some (.slice none 0 0))) (kz := 7) (by kernel_rfl) ⟨t0, a0, c0, c1, c2⟩ (fun hHeld => ?_)
 refine AnyTill.tk (i := 0) (v := ?_) hHeld ?_ ?_
 rotate_left
 ·(intro w hSw; (try dsimp only at hSw); go_simp; (try with_reducible rfl))
 (try simp only [Act.put, q4, q5, q6, q1, q2, q3])
 refine AnyTill.tk (i := 1) (v := ?_) hHeld ?_ ?_
 rotate_left
 ·(intro w hSw; (try dsimp only at hSw); go_simp; (try with_reducible rfl))
 (try simp only [Act.put, q4, q5, q6, q1, q2, q3])
 refine AnyTill.tk (i := 2) (v := ?_) hHeld ?_ ?_
 rotate_left
 ·(intro w hSw; (try dsimp only at hSw); go_simp; (try with_reducible rfl))
 (try simp only [Act.put, q4, q5, q6, q1, q2, q3])
 refine AnyTill.tk (i := 3) (v := ?_) hHeld ?_ ?_
 rotate_left
 ·(intro w hSw; (try dsimp only at hSw); go_simp; (try with_reducible rfl))
 (try simp only [Act.put, q4, q5, q6, q1, q2, q3])
 refine AnyTill.tk (i := 4) (v := ?_) hHeld ?_ ?_
 rotate_left
 ·(intro w hSw; (try dsimp only at hSw); go_simp; (try with_reducible rfl))
 (try simp only [Act.put, q4, q5, q6, q1, q2, q3])
 refine AnyTill.tk (i := 5) (v := ?_) hHeld ?_ ?_
 rotate_left
 ·(intro w hSw; (try dsimp only at hSw); go_simp; (try with_reducible rfl))
 (try simp only [Act.put, q4, q5, q6, q1, q2, q3])
 refine AnyTill.tk (i := 6) (v := ?_) hHeld ?_ ?_
 rotate_left
 ·(intro w hSw; (try dsimp only at hSw); go_simp; (try with_reducible rfl))
 (try simp only [Act.put, q4, q5, q6, q1, q2, q3])
 refine AnyTill.one (i := 7) (by kernel_rfl) rfl (fun K9 hK9 => ?_)
 (try simp only [q1, q2, q3])
 go_simp
 refine hK9.out _ _ (fun h => absurd rfl h) ?_
 clear hK9 K9
 (try simp only [Act.put, q4, q5, q6, q1, q2, q3])
 refine AnyTill.done (by kernel_rfl) ?_ _
 (try simp only [Act.put, q4, q5, q6, q1, q2, q3])
 clear m1 t0 a0 c0 c1 c2
 go_wp2_with fail
 refine bodyPost_end (results_none rfl _ _ _) rfl ?_
 exact ⟨rfl, T4.out, L4.out⟩
end
end Go.Proofs.YtnebhiaeechpaaaDoor
