/-
 Layer 10: the program's unify: two types made one. Condition: the Table lies in memory.
-/
import Derived.Test.YtnebhiaeechpaaaDoorP10Nm
import Derived.Test.YtnebhiaeechpaaaDoorX10Loop
namespace Go.Proofs.YtnebhiaeechpaaaDoor
open Go.ChangeShapes Go.WideShapes Go.ChangeAt Go.RowKit Go.Deep
set_option linter.unusedVariables false
set_option linter.unusedSimpArgs false
set_option maxHeartbeats 4000000
set_option maxRecDepth 20000
/-- What unify tells. -/
def UniAs (O : Nat → Prop) (tb q r K own : Nat) (hi : Int) (F : List Int) (R : Int → Ty) (σ : Int → Option Rw) (x y : Rw) (w : World) (e : Ending) (w' : World) : Prop := Only (Own3 tb q r) w w' ∧ ((∃ c, Un (natR R) [(x.rs R, y.rs R)] (.error c) ∧ e = .returned (.int .i64 (if c = 1 then 26 else 25))) ∨ (∃ (K' own' nm' : Nat) (σ' : Int → Option Rw) (R' : Int → Ty) (d' : Int → Nat) (O' : Nat → Prop) (μ' : Int → Option Int), Un (natR R) [(x.rs R, y.rs R)] (.ok (natR R')) ∧ e = .returned (.int .i64 0) ∧ K' + 3000 * freeF F R' ≤ K + 3000 * freeF F R ∧ PS F own' σ' R' d' ∧ PT O' w' tb q r K' nm' own' hi σ' μ' ∧ (∀ g, O g → O' g) ∧ (∀ g, O' g → O g ∨ w.heap.size ≤ g) ∧ UEx F σ R σ' R' (x.rs R')))
def UniFor (tb q r : Nat) (hi : Int) (F : List Int) (f s : Nat) : Prop := ∀ (O : Nat → Prop) (K own nm : Nat) (R : Int → Ty) (d : Int → Nat) (σ : Int → Option Rw) (μ : Int → Option Int) (w : World) (x y : Rw) (ao ao2 : Option Addr) (c c2 : Nat), (freeF F R < f ∨ (freeF F R ≤ f ∧ (x.rs R).sz + (y.rs R).sz ≤ s)) → PT O w tb q r K nm own hi σ μ → PS F own σ R d → x.ok (OkV F σ) → y.ok (OkV F σ) → x.sz ≤ 1000 → y.sz ≤ 1000 → x.S.length ≤ maxLen → y.S.length ≤ maxLen → RT (fun g => ¬ Own3 tb q r g) w x.L ao → RT (fun g => ¬ Own3 tb q r g) w y.L ao2 → K + 3000 * freeF F R + 3000 ≤ 1000000000 → Calls Tryd.prog 31 #[.pointer (some ⟨tb, 0, none⟩), .agg #[.int .i64 x.V, .string ⟨x.S.toArray⟩, .slice ao x.L.length c], .agg #[.int .i64 y.V, .string ⟨y.S.toArray⟩, .slice ao2 y.L.length c2]] w fun e w' => UniAs O tb q r K own hi F R σ x y w e w'
theorem rt_at {P : Nat → Prop} {w : World} {L : List Rw} {ao : Option Addr} (h : RT P w L ao) {k : Nat} {t : Rw} (ht : L[k]? = some t) : ∃ (a : Addr) (al : Option Addr) (cp : Nat), ao = some a ∧ P (a.add (k * 3)).block ∧ w.cell? (a.add (k * 3)) = some (.int .i64 t.V) ∧ w.cell? ⟨(a.add (k * 3)).block, (a.add (k * 3)).off + 1, none⟩ = some (.string ⟨t.S.toArray⟩) ∧ w.cell? ⟨(a.add (k * 3)).block, (a.add (k * 3)).off + 2, none⟩ = some (.slice al t.L.length cp) ∧ (-9223372036854775808 ≤ t.V ∧ t.V ≤ 9223372036854775807 ∧ t.S.length ≤ maxLen) ∧ RT P w t.L al := by
 obtain ⟨aos, cps, hh, hv, hr⟩ := h
 obtain ⟨a, e, h9, h0, h1, h2⟩ := hh k t ht
 exact ⟨a, aos k, cps k, e, h9, h0, h1, h2, hv k t ht, hr k t ht⟩
theorem cell_only {S : Nat → Prop} {w w' : World} {a : Addr} {v : Value} (h : Only S w.drew w') (hn : ¬ S a.block) (hc : w.cell? a = some v) : w'.cell? a = some v := by
 have hlt : a.block < w.drew.heap.size := by
  show a.block < w.heap.size
  by_cases hlt : a.block < w.heap.size
  ·exact hlt
  ·unfold World.cell? at hc
   rw [Array.getElem?_eq_none (by omega)] at hc
   cases hc
 have e : w'.heap[a.block]? = w.heap[a.block]? := h.block a.block hlt hn
 unfold World.cell? at hc ⊢
 rw [e]
 exact hc
/-- What unify tells, its number a letter. -/
theorem UniAs.num {O : Nat → Prop} {tb q r K own : Nat} {hi : Int} {F : List Int} {R : Int → Ty} {σ : Int → Option Rw} {x y : Rw} {w : World} {e : Ending} {w' : World} (h : UniAs O tb q r K own hi F R σ x y w e w') : ∃ ev : Int, e = .returned (.int .i64 ev) ∧ UniAs O tb q r K own hi F R σ x y w (.returned (.int .i64 ev)) w' := by
 obtain ⟨h1, ⟨c, h2, rfl⟩ | ⟨K', own', nm', σ', R', d', O', μ', h2, rfl, h3⟩⟩ := h
 ·exact ⟨_, rfl, h1, Or.inl ⟨c, h2, rfl⟩⟩
 ·exact ⟨_, rfl, h1, Or.inr ⟨K', own', nm', σ', R', d', O', μ', h2, rfl, h3⟩⟩
/-- Parts made one so far. -/
def InU (O : Nat → Prop) (tb q r K : Nat) (hi : Int) (F : List Int) (R : Int → Ty) (σ : Int → Option Rw) (L L2 : List Rw) (w : World) (iv : Value) (wr : World) : Prop := ∃ (k K' own' nm' : Nat) (σ' : Int → Option Rw) (R' : Int → Ty) (d' : Int → Nat) (O' : Nat → Prop) (μ' : Int → Option Int), k ≤ L.length ∧ iv = .int .i64 (k : Int) ∧ ULoop F σ R σ' R' L L2 k ∧ K' + 3000 * freeF F R' ≤ K + 3000 * freeF F R ∧ PS F own' σ' R' d' ∧ PT O' wr tb q r K' nm' own' hi σ' μ' ∧ (∀ g, O g → O' g) ∧ (∀ g, O' g → O g ∨ w.heap.size ≤ g) ∧ Only (Own3 tb q r) w wr
section
variable {tb q r : Nat} {hi : Int} {F : List Int}
theorem uni_step (hF : F.length ≤ 1000000) {f s : Nat} (IH : UniFor tb q r hi F f s) : UniFor tb q r hi F f (s + 1) := by
 intro O K own nm R d σ μ w x y ao ao2 c c2 hm h hs hx hy hxs hys hxl hyl hrx hry hK
 have HI := hidden IH
 have HM := hidden hm
 have HS := hidden hs
 have HX := hidden hx
 have HY := hidden hy
 have HXL := hidden hxl
 have HYL := hidden hyl
 have T := hidden h
 have X := hidden hrx
 have Y := hidden hry
 have HB : Hid (∀ g, O g ∨ Own3 tb q r g → g < w.heap.size) := fun g hg => h.new hg
 have how := h.ow
 have HXS := hidden hxs
 have HYS := hidden hys
 clear h hs hx hy hxl hyl hrx hry IH hm hxs hys
 go_enter Tryd.func31, Tryd.ntmps31
 go_upto_region 1 with fail
 obtain ⟨a1, a2, a3⟩ := two_box w x.V y.V ⟨x.S.toArray⟩ ⟨y.S.toArray⟩ (.slice ao x.L.length c) (.slice ao2 y.L.length c2)
 have A := hidden a1
 have C := hidden a2
 have D := hidden a3
 have T0 := hidden (T.out.below a3 (Nat.le_refl _))
 have X0 := hidden ((X.out.mono (Q := (fun g => ¬ Own3 tb q r g ∧ g < w.heap.size)) (fun g hg hl => ⟨hg, hl⟩)).beneath a3 (Nat.le_refl _))
 have Y0 := hidden ((Y.out.mono (Q := (fun g => ¬ Own3 tb q r g ∧ g < w.heap.size)) (fun g hg hl => ⟨hg, hl⟩)).beneath a3 (Nat.le_refl _))
 clear a1 a2 a3
 generalize (w.alloc (.cells #[.int .i64 x.V, .string ⟨x.S.toArray⟩, .slice ao x.L.length c] 24)).alloc (.cells #[.int .i64 y.V, .string ⟨y.S.toArray⟩, .slice ao2 y.L.length c2] 24) = w0 at *
 obtain ⟨a0, a1, a2, af⟩ := A.out.cells
 obtain ⟨c0, c1, c2x, cf⟩ := C.out.cells
 clear af cf
 have TD9 : Hid (PT O w0.drew tb q r K nm own hi σ μ) := T0.out.keep (fun g _ _ => rfl)
 have XD : Hid (RT (fun g => ¬ Own3 tb q r g ∧ g < w.heap.size) w0.drew x.L ao) := X0.out.keep (fun g _ _ => rfl)
 have YD : Hid (RT (fun g => ¬ Own3 tb q r g ∧ g < w.heap.size) w0.drew y.L ao2) := Y0.out.keep (fun g _ _ => rfl)
 have LD : Hid (Only (Own3 tb q r) w w0.drew) := (Only.of_below D.out).drewN 1
 have e0 : w0.drew.cell? ⟨w.heap.size, 0, none⟩ = some (.int .i64 x.V) := a0
 have e1 : w0.drew.cell? ⟨w.heap.size, 1, none⟩ = some (.string ⟨x.S.toArray⟩) := a1
 have e2 : w0.drew.cell? ⟨w.heap.size, 2, none⟩ = some (.slice ao x.L.length c) := a2
 refine region_till (S := (fun w' => w'.cell? ⟨w.heap.size + 1, 0, none⟩ = some (.int .i64 y.V) ∧ w'.cell? ⟨w.heap.size + 1, 1, none⟩ = some (.string ⟨y.S.toArray⟩) ∧ w'.cell? ⟨w.heap.size + 1, 2, none⟩ = some (.slice ao2 y.L.length c2))) (kz := 7) (by kernel_rfl) ⟨c0, c1, c2x⟩ (fun hHeld => ?_)
 refine AnyTill.tk (i := 0) (v := ?_) hHeld ?_ ?_
 rotate_left
 ·(intro w hSw; (try dsimp only at hSw); go_simp; (try with_reducible rfl))
 (try simp only [Act.put, q4, q5, q6, q1, q2, q3])
 refine AnyTill.tk (i := 3) (v := ?_) hHeld ?_ ?_
 rotate_left
 ·(intro w hSw; (try dsimp only at hSw); go_simp; (try with_reducible rfl))
 (try simp only [Act.put, q4, q5, q6, q1, q2, q3])
 refine AnyTill.tk (i := 4) (v := ?_) hHeld ?_ ?_
 rotate_left
 ·(intro w hSw; (try dsimp only at hSw); go_simp; (try with_reducible rfl))
 (try simp only [Act.put, q4, q5, q6, q1, q2, q3])
 refine AnyTill.one (i := 1) (by kernel_rfl) rfl (fun K9 hK9 => ?_)
 (try simp only [q1, q2, q3])
 go_simp
 refine hK9.out _ _ (fun _ => ⟨c0, c1, c2x⟩) ?_
 clear hK9 K9
 (try simp only [Act.put, q4, q5, q6, q1, q2, q3])
 clear e0 e1 e2
 refine AnyTill.one (i := 2) (by kernel_rfl) rfl (fun K9 hK9 => ?_)
 (try simp only [q1, q2, q3])
 go_simp
 refine (short_any (fun g hg => hg.1) (by omega) TD9.out HS.out c HX.out HXL.out XD.out).mono ?_
 rintro e w1 ⟨x1, ao', c', σ1, rfl, g1, g2, g3, g4, g5, g6, g7, g8, g9, g10, g11⟩
 have hn3 : ∀ g, Own3 tb q r g → g < w.heap.size := fun g hg => HB.out g (Or.inr hg)
 have A1 : Hid (B3 w1 w.heap.size x.V ⟨x.S.toArray⟩ (.slice ao x.L.length c)) := A.out.keep ((g10.block _ A.out.lt (fun e => by have h9 := hn3 _ e; omega)).trans rfl)
 have C1 : Hid (B3 w1 (w.heap.size + 1) y.V ⟨y.S.toArray⟩ (.slice ao2 y.L.length c2)) := C.out.keep ((g10.block _ C.out.lt (fun e => by have h9 := hn3 _ e; omega)).trans rfl)
 have Y1 : Hid (RT (fun g => ¬ Own3 tb q r g ∧ g < w.heap.size) w1 y.L ao2) := YD.out.keep (fun g hg hl => g10.block g hl hg.1)
 have L1 := hidden (LD.out.trans g10)
 have T1 := hidden g9
 have HS1 := hidden g8
 have HC1 := hidden g7
 have XR := hidden g6
 have XF := hidden (And.intro g1 (And.intro g2 (And.intro g3 (And.intro g4 (And.intro g5 g11)))))
 obtain ⟨k0, k1, k2, kf⟩ := C1.out.cells
 refine hK9.out _ _ (fun _ => ⟨k0, k1, k2⟩) ?_
 clear hK9 K9
 (try simp only [Act.put, q4, q5, q6, q1, q2, q3])
 clear g1 g2 g3 g4 g5 g6 g7 g8 g9 g10 g11 k0 k1 k2 kf hn3 c0 c1 c2x a0 a1 a2
 refine AnyTill.one (i := 5) (by kernel_rfl) rfl (fun K9 hK9 => ?_)
 (try simp only [q1, q2, q3])
 go_simp
 refine (short_any (fun g hg => hg.1) (by omega) T1.out HS1.out c2 (HC1.out.ok HY.out) HYL.out Y1.out).mono ?_
 rintro e w2 ⟨y1, ao2', c2', σ2, rfl, g1, g2, g3, g4, g5, g6, g7, g8, g9, g10, g11⟩
 have hn3 : ∀ g, Own3 tb q r g → g < w.heap.size := fun g hg => HB.out g (Or.inr hg)
 have A2 : Hid (B3 w2 w.heap.size x.V ⟨x.S.toArray⟩ (.slice ao x.L.length c)) := A1.out.keep (g10.block _ A1.out.lt (fun e => by have h9 := hn3 _ e; omega))
 have C2 : Hid (B3 w2 (w.heap.size + 1) y.V ⟨y.S.toArray⟩ (.slice ao2 y.L.length c2)) := C1.out.keep (g10.block _ C1.out.lt (fun e => by have h9 := hn3 _ e; omega))
 have XR2 : Hid (RT (fun g => ¬ Own3 tb q r g ∧ g < w.heap.size) w2 x1.L ao') := XR.out.keep (fun g hg hl => g10.block g hl hg.1)
 have YR2 := hidden g6
 have L2 := hidden (L1.out.trans g10)
 have T2 := hidden g9
 have HS2 := hidden g8
 have HC2 := hidden (HC1.out.trans g7)
 have XE : Hid (x1.ok (OkV F σ2) ∧ x1.rs R = x.rs R ∧ x1.sz ≤ 1000 ∧ x1.S.length ≤ maxLen ∧ (x1.V ≠ 0 → End σ2 x1.V ∧ ao' = none ∧ c' = 0)) := ⟨g7.ok XF.out.1, XF.out.2.1, Nat.le_trans XF.out.2.2.1 HXS.out, XF.out.2.2.2.1, fun hv => ⟨g7.end_ (XF.out.2.2.2.2.1 hv).1, (XF.out.2.2.2.2.1 hv).2⟩⟩
 have YE : Hid (y1.ok (OkV F σ2) ∧ y1.rs R = y.rs R ∧ y1.sz ≤ 1000 ∧ y1.S.length ≤ maxLen ∧ (y1.V ≠ 0 → End σ2 y1.V ∧ ao2' = none ∧ c2' = 0)) := ⟨g1, g2, Nat.le_trans g3 HYS.out, g4, g5⟩
 obtain ⟨k0, k1, k2, kf⟩ := C2.out.cells
 refine hK9.out _ _ (fun _ => ⟨k0, k1, k2⟩) ?_
 clear hK9 K9
 (try simp only [Act.put, q4, q5, q6, q1, q2, q3])
 clear g1 g2 g3 g4 g5 g6 g7 g8 g9 g10 g11 k0 k1 k2 kf hn3
 obtain ⟨a0, a1, a2, af⟩ := A2.out.cells
 refine AnyTill.one (i := 6) (by kernel_rfl) rfl (fun K9 hK9 => ?_)
 (try simp only [q1, q2, q3])
 go_simp
 have A3 := hidden (A2.out.fill x1.V ⟨x1.S.toArray⟩ (.slice ao' x1.L.length c'))
 have C3 : Hid (B3 (fill3 w2 w.heap.size x1.V ⟨x1.S.toArray⟩ (.slice ao' x1.L.length c')) (w.heap.size + 1) y.V ⟨y.S.toArray⟩ (.slice ao2 y.L.length c2)) := C2.out.keep (fill3_blk w2 (by omega) _ _ _)
 have T3 : Hid (PT O (fill3 w2 w.heap.size x1.V ⟨x1.S.toArray⟩ (.slice ao' x1.L.length c')) tb q r K nm own hi σ2 μ) := T2.out.keep (fun g hg _ => fill3_blk w2 (by have h9 := HB.out g hg; omega) _ _ _)
 have L3 : Hid (Only (Own3 tb q r) w (fill3 w2 w.heap.size x1.V ⟨x1.S.toArray⟩ (.slice ao' x1.L.length c'))) := L2.out.fill3 (Or.inl (Nat.le_refl _)) _ _ _
 have XR3 : Hid (RT (fun g => ¬ Own3 tb q r g ∧ g < w.heap.size) (fill3 w2 w.heap.size x1.V ⟨x1.S.toArray⟩ (.slice ao' x1.L.length c')) x1.L ao') := XR2.out.keep (fun g hg _ => fill3_blk w2 (by have h9 := hg.2; omega) _ _ _)
 have YR3 : Hid (RT (fun g => ¬ Own3 tb q r g ∧ g < w.heap.size) (fill3 w2 w.heap.size x1.V ⟨x1.S.toArray⟩ (.slice ao' x1.L.length c')) y1.L ao2') := YR2.out.keep (fun g hg _ => fill3_blk w2 (by have h9 := hg.2; omega) _ _ _)
 obtain ⟨w3, hw3⟩ : ∃ w3, fill3 w2 w.heap.size x1.V ⟨x1.S.toArray⟩ (.slice ao' x1.L.length c') = w3 := ⟨_, rfl⟩
 rw [hw3] at A3 C3 T3 L3 XR3 YR3
 unfold fill3 at hw3
 simp only [hw3]
 clear a0 a1 a2 af
 obtain ⟨k0, k1, k2, kf⟩ := C3.out.cells
 refine hK9.out _ _ (fun _ => ⟨k0, k1, k2⟩) ?_
 clear hK9 K9
 (try simp only [Act.put, q4, q5, q6, q1, q2, q3])
 refine AnyTill.one (i := 7) (by kernel_rfl) rfl (fun K9 hK9 => ?_)
 (try simp only [q1, q2, q3])
 go_simp
 refine hK9.out _ _ (fun h => absurd rfl h) ?_
 clear hK9 K9
 (try simp only [Act.put, q4, q5, q6, q1, q2, q3])
 refine AnyTill.done (by kernel_rfl) ?_ _
 (try simp only [Act.put, q4, q5, q6, q1, q2, q3])
 clear k0 k1 k2 kf hw3
 have C4 := hidden (C3.out.fill y1.V ⟨y1.S.toArray⟩ (.slice ao2' y1.L.length c2'))
 have A4 : Hid (B3 (fill3 w3 (w.heap.size + 1) y1.V ⟨y1.S.toArray⟩ (.slice ao2' y1.L.length c2')) w.heap.size x1.V ⟨x1.S.toArray⟩ (.slice ao' x1.L.length c')) := A3.out.keep (fill3_blk w3 (by omega) _ _ _)
 have T4 : Hid (PT O (fill3 w3 (w.heap.size + 1) y1.V ⟨y1.S.toArray⟩ (.slice ao2' y1.L.length c2')) tb q r K nm own hi σ2 μ) := T3.out.keep (fun g hg _ => fill3_blk w3 (by have h9 := HB.out g hg; omega) _ _ _)
 have L4 : Hid (Only (Own3 tb q r) w (fill3 w3 (w.heap.size + 1) y1.V ⟨y1.S.toArray⟩ (.slice ao2' y1.L.length c2'))) := L3.out.fill3 (Or.inl (by omega)) _ _ _
 have XR4 : Hid (RT (fun g => ¬ Own3 tb q r g ∧ g < w.heap.size) (fill3 w3 (w.heap.size + 1) y1.V ⟨y1.S.toArray⟩ (.slice ao2' y1.L.length c2')) x1.L ao') := XR3.out.keep (fun g hg _ => fill3_blk w3 (by have h9 := hg.2; omega) _ _ _)
 have YR4 : Hid (RT (fun g => ¬ Own3 tb q r g ∧ g < w.heap.size) (fill3 w3 (w.heap.size + 1) y1.V ⟨y1.S.toArray⟩ (.slice ao2' y1.L.length c2')) y1.L ao2') := YR3.out.keep (fun g hg _ => fill3_blk w3 (by have h9 := hg.2; omega) _ _ _)
 obtain ⟨w4, hw4⟩ : ∃ w4, fill3 w3 (w.heap.size + 1) y1.V ⟨y1.S.toArray⟩ (.slice ao2' y1.L.length c2') = w4 := ⟨_, rfl⟩
 rw [hw4] at C4 A4 T4 L4 XR4 YR4
 unfold fill3 at hw4
 simp only [hw4]
 clear hw4 A1 A2 A3 C1 C2 C3 T1 T2 T3 L1 L2 L3 A C D X Y X0 Y0 XD YD TD9 LD
 obtain ⟨a0, a1, a2, af⟩ := A4.out.cells
 obtain ⟨c0, c1, c2x, cf⟩ := C4.out.cells
 by_cases hI : x1.V ≠ 0 ∧ x1.V = y1.V
 ·have hbn : (x1.V != 0) = true := by simp [hI.1]
  have hbe : (x1.V == y1.V) = true := by simp [hI.2]
  have HI2 := hidden hI
  clear hI
  go_wp2_with fail
  go_ret
  have hre : x.rs R = y.rs R := by rw [← XE.out.2.1, ← YE.out.2.1, rs_var R HI2.out.1, rs_var R (x := y1) (by rw [← HI2.out.2]; exact HI2.out.1), HI2.out.2]
  refine ⟨L4.out, Or.inr ⟨K, own, nm, σ2, R, d, O, μ, un_equal _ HS2.out.idemN (Nat.le_refl _) (fun p hp => ?_), rfl, Nat.le_refl _, HS2.out, T4.out, fun g hg => hg, fun g hg => Or.inl hg, HC2.out.uex HS.out _⟩⟩
  rw [List.mem_singleton.1 hp]
  show (x.rs R).ap _ = (y.rs R).ap _
  rw [hre]
 ·by_cases hx0 : x1.V = 0
  ·have hbn : (x1.V != 0) = false := by simp [hx0]
   have HX0 := hidden hx0
   have HN1 : Hid (x1.V ≠ 0 → σ2 x1.V ≠ none) := fun h9 => absurd HX0.out h9
   clear hI hx0
   have XRm := hidden (XR4.out.mono (Q := fun g => ¬ Own3 tb q r g) (fun g hg _ => hg.1))
   have YRm := hidden (YR4.out.mono (Q := fun g => ¬ Own3 tb q r g) (fun g hg _ => hg.1))
   clear XR4 YR4
   go_wp2_with fail
   refine (name_some T4.out HS2.out (by omega) c' XE.out.1 XE.out.2.2.1 XE.out.2.2.2.1 (fun hv => (XE.out.2.2.2.2 hv).1) HN1.out XRm.out).mono ?_
   rintro e w5 ⟨S, L, am, cm, rfl, n1, n2, n3, n4, n5, n6, n7, n8, n9⟩
   have N1 := hidden n1
   have N2 := hidden n2
   have N3 := hidden n3
   have N4 := hidden n4
   have N8 := hidden n8
   have A5 := hidden (A4.out.below n7 (Nat.le_refl _))
   have C5 := hidden (C4.out.below n7 (Nat.le_refl _))
   have T5 := hidden (T4.out.below n7 (Nat.le_refl _))
   have L5 := hidden (L4.out.trans (Only.of_below n7))
   have X5 := hidden (XRm.out.beneath n7 (Nat.le_refl _))
   have Y5 := hidden (YRm.out.beneath n7 (Nat.le_refl _))
   have P5 := hidden n6
   have HSZ5 : Hid (w.heap.size + 2 ≤ w5.heap.size) := by have h9 := C4.out.lt; have h8 := n7.size; show _ ≤ _; omega
   clear n1 n2 n3 n4 n5 n6 n7 n8 n9 A4 C4 T4 L4 XRm YRm a0 a1 a2 af c0 c1 c2x cf
   go_upto_region 5 with fail
   have A6 := hidden (A5.out.alloc (.cells #[.int .i64 0, .string ⟨S.toArray⟩, .slice am L.length cm] 24))
   have C6 := hidden (C5.out.alloc (.cells #[.int .i64 0, .string ⟨S.toArray⟩, .slice am L.length cm] 24))
   have T6 := hidden (T5.out.alloc (.cells #[.int .i64 0, .string ⟨S.toArray⟩, .slice am L.length cm] 24))
   have L6 := hidden (L5.out.alloc (.cells #[.int .i64 0, .string ⟨S.toArray⟩, .slice am L.length cm] 24))
   have X6 := hidden (X5.out.alloc (.cells #[.int .i64 0, .string ⟨S.toArray⟩, .slice am L.length cm] 24))
   have Y6 := hidden (Y5.out.alloc (.cells #[.int .i64 0, .string ⟨S.toArray⟩, .slice am L.length cm] 24))
   have P6 := hidden (P5.out.alloc (.cells #[.int .i64 0, .string ⟨S.toArray⟩, .slice am L.length cm] 24))
   have M6 := hidden (B3.new w5 0 ⟨S.toArray⟩ (.slice am L.length cm))
   have HSZ6 : Hid (w5.heap.size + 1 ≤ (w5.alloc (.cells #[.int .i64 0, .string ⟨S.toArray⟩, .slice am L.length cm] 24)).heap.size) := by show _ ≤ _; rw [nblk_alloc]; exact Nat.le_refl _
   clear A5 C5 T5 L5 X5 Y5 P5
   generalize w5.alloc (.cells #[.int .i64 0, .string ⟨S.toArray⟩, .slice am L.length cm] 24) = w6 at *
   obtain ⟨a0, a1, a2, af⟩ := A6.out.cells
   obtain ⟨c0, c1, c2x, cf⟩ := C6.out.cells
   by_cases hy : y1.V ≠ 0 ∧ σ2 y1.V = none
   ·obtain ⟨hy0, hyn⟩ := hy
    obtain ⟨k1, k2⟩ := ok_var YE.out.1 hy0
    have hru := HS2.out.rng k1
    have hT6 := T6.out.ow
    have rg : -9223372036854775808 ≤ y1.V ∧ y1.V ≤ 9223372036854775807 := by omega
    have hyF := HS2.out.in_F k1 hyn
    have hyR := HS2.out.free y1.V hyn (by have h9 := (HS2.out.pos _ hyF).1; omega)
    have HY0 := hidden hy0
    have HYN := hidden hyn
    have HYF := hidden hyF
    have HYR : Hid (y.rs R = .v y1.V.toNat) := by
     show _ = _
     rw [← YE.out.2.1, rs_var R hy0, hyR]
    clear hy0 hyn hyF hyR k1 k2 hru hT6
    go_wp2_with fail
    refine (name_no T6.out rg HY0.out HYN.out ⟨y1.S.toArray⟩ (.slice ao2' y1.L.length c2') ⟨_, _, _, rfl⟩).mono ?_
    rintro e w7 ⟨rfl, hb7⟩
    have A7 := hidden (A6.out.below hb7 (Nat.le_refl _))
    have C7 := hidden (C6.out.below hb7 (Nat.le_refl _))
    have T7 := hidden (T6.out.below hb7 (Nat.le_refl _))
    have L7 := hidden (L6.out.trans (Only.of_below hb7))
    have X7 := hidden (X6.out.beneath hb7 (Nat.le_refl _))
    clear hb7 a0 a1 a2 af c0 c1 c2x cf A6 C6 T6 L6 X6 Y6 P6 M6
    go_upto_region 8 with fail
    have A8 := hidden (A7.out.alloc (.cells #[.int .i64 0, .string ⟨#[]⟩, .slice none 0 0] 24))
    have C8 := hidden (C7.out.alloc (.cells #[.int .i64 0, .string ⟨#[]⟩, .slice none 0 0] 24))
    have T8 := hidden (T7.out.alloc (.cells #[.int .i64 0, .string ⟨#[]⟩, .slice none 0 0] 24))
    have L8 := hidden (L7.out.alloc (.cells #[.int .i64 0, .string ⟨#[]⟩, .slice none 0 0] 24))
    have X8 := hidden (X7.out.alloc (.cells #[.int .i64 0, .string ⟨#[]⟩, .slice none 0 0] 24))
    clear A7 C7 T7 L7 X7
    generalize w7.alloc (.cells #[.int .i64 0, .string ⟨#[]⟩, .slice none 0 0] 24) = w8 at *
    obtain ⟨a0, a1, a2, af⟩ := A8.out.cells
    obtain ⟨c0, c1, c2x, cf⟩ := C8.out.cells
    go_wp2_with fail
    refine (learn_any hF T8.out HS2.out HYF.out HYN.out c' XE.out.1 XE.out.2.2.1 XE.out.2.2.2.1 X8.out (by omega)).mono ?_
    rintro e w9 ⟨hl, hcs⟩
    have L9 := hidden (L8.out.trans hl)
    have HAP := hidden (HS.out.apN HX.out)
    have HAPY := hidden (HS.out.apN HY.out)
    clear hl a0 a1 a2 af c0 c1 c2x cf
    rcases hcs with ⟨ho, rfl⟩ | ⟨ho, rfl, hfin⟩
    ·have HO := hidden ho
     clear ho
     go_wp2_with fail
     go_ret
     have hq := HO.out
     rw [N1.out, Ty.occ] at hq
     refine ⟨L9.out, Or.inl ⟨1, .occR (n := y1.V.toNat) (s := S) (l := rsL R L) ?_ ?_ hq, rfl⟩⟩
     ·rw [HAP.out, ← XE.out.2.1]; exact N1.out
     ·rw [HAPY.out]; exact HYR.out
    ·have HO := hidden ho
     have HFIN := hidden hfin
     clear ho hfin
     go_wp2_with fail
     go_ret
     obtain ⟨own', σ', R', d', O', nm', μ', p1, p2, p3, p4, p5, p6, p7⟩ := HFIN.out
     obtain ⟨u1, u2, u3⟩ := HS2.out.learned HYF.out HYN.out XE.out.1 HO.out p5 p6 p7 (x.rs R')
     have hL9 : 1 + szRL x1.L ≤ 1000 := by have h9 := XE.out.2.2.1; rw [sz_L] at h9; exact h9
     refine ⟨L9.out, Or.inr ⟨K + 2 * szRL x1.L + 1, own', nm', σ', R', d', O', μ', ?_, rfl, by omega, p1, p2, p3, fun g hg => ?_, ?_⟩⟩
     ·rw [u1]
      have hno : ¬ occL y1.V.toNat (rsL R L) := by have h9 := HO.out; rw [N1.out, Ty.occ] at h9; exact h9
      have := Un.nameR (ps := []) (e := .ok (nameV (natR R) y1.V.toNat ((x.rs R).ap (natR R)))) (a := x.rs R) (b := y.rs R) (by rw [HAP.out, ← XE.out.2.1]; exact N1.out) (by rw [HAPY.out]; exact HYR.out) hno .done
      rw [XE.out.2.1]
      exact this
     ·rcases p4 g hg with h9 | h9
      ·exact Or.inl h9
      ·exact Or.inr (Nat.le_trans L8.out.size h9)
     ·exact u2.cmp HC2.out
   ·have HN2 : Hid (y1.V ≠ 0 → σ2 y1.V ≠ none) := fun h1 h2 => hy ⟨h1, h2⟩
    clear hy
    go_wp2_with fail
    refine (name_some T6.out HS2.out (by omega) c2' YE.out.1 YE.out.2.2.1 YE.out.2.2.2.1 (fun hv => (YE.out.2.2.2.2 hv).1) HN2.out Y6.out).mono ?_
    rintro e w7 ⟨S2, L2, an, cn, rfl, n1, n2, n3, n4, n5, n6, n7, n8, n9⟩
    have E1 := hidden n1
    have E2 := hidden n2
    have E3 := hidden n3
    have E4 := hidden n4
    have E8 := hidden n8
    have A7 := hidden (A6.out.below n7 (Nat.le_refl _))
    have C7 := hidden (C6.out.below n7 (Nat.le_refl _))
    have T7 := hidden (T6.out.below n7 (Nat.le_refl _))
    have M7 := hidden (M6.out.below n7 (Nat.le_refl _))
    have L7 := hidden (L6.out.trans (Only.of_below n7))
    have P7 := hidden (P6.out.beneath n7 (Nat.le_refl _))
    have Q7 := hidden n6
    have HSZ7 : Hid (w5.heap.size + 1 ≤ w7.heap.size) := by have h9 := HSZ6.out; have h8 := n7.size; show _ ≤ _; omega
    clear n1 n2 n3 n4 n5 n6 n7 n8 n9 A6 C6 T6 L6 X6 Y6 P6 M6 a0 a1 a2 af c0 c1 c2x cf HSZ6
    go_upto_region 8 with fail
    have A8 := hidden (A7.out.alloc (.cells #[.int .i64 0, .string ⟨S2.toArray⟩, .slice an L2.length cn] 24))
    have C8 := hidden (C7.out.alloc (.cells #[.int .i64 0, .string ⟨S2.toArray⟩, .slice an L2.length cn] 24))
    have T8 := hidden (T7.out.alloc (.cells #[.int .i64 0, .string ⟨S2.toArray⟩, .slice an L2.length cn] 24))
    have L8 := hidden (L7.out.alloc (.cells #[.int .i64 0, .string ⟨S2.toArray⟩, .slice an L2.length cn] 24))
    have M8 := hidden (M7.out.alloc (.cells #[.int .i64 0, .string ⟨S2.toArray⟩, .slice an L2.length cn] 24))
    have P8 := hidden (P7.out.alloc (.cells #[.int .i64 0, .string ⟨S2.toArray⟩, .slice an L2.length cn] 24))
    have Q8 := hidden (Q7.out.alloc (.cells #[.int .i64 0, .string ⟨S2.toArray⟩, .slice an L2.length cn] 24))
    have N8b := hidden (B3.new w7 0 ⟨S2.toArray⟩ (.slice an L2.length cn))
    have HSZ8 : Hid (w7.heap.size + 1 ≤ (w7.alloc (.cells #[.int .i64 0, .string ⟨S2.toArray⟩, .slice an L2.length cn] 24)).heap.size) := by show _ ≤ _; rw [nblk_alloc]; exact Nat.le_refl _
    clear A7 C7 T7 L7 M7 P7 Q7
    generalize w7.alloc (.cells #[.int .i64 0, .string ⟨S2.toArray⟩, .slice an L2.length cn] 24) = w8 at *
    have HAP := hidden (HS.out.apN HX.out)
    have HAPY := hidden (HS.out.apN HY.out)
    have HUX : Hid ((x.rs R).ap (natR R) = .c S (rsL R L)) := by
     show _ = _
     rw [HAP.out, ← XE.out.2.1]; exact N1.out
    have HUY : Hid ((y.rs R).ap (natR R) = .c S2 (rsL R L2)) := by
     show _ = _
     rw [HAPY.out, ← YE.out.2.1]; exact E1.out
    obtain ⟨sb, hsb⟩ : ∃ sb : ByteArray, (⟨S.toArray⟩ : ByteArray) = sb := ⟨_, rfl⟩
    obtain ⟨sb2, hsb2⟩ : ∃ sb2 : ByteArray, (⟨S2.toArray⟩ : ByteArray) = sb2 := ⟨_, rfl⟩
    rw [hsb] at M8
    rw [hsb2] at N8b
    have HB1 : Hid (sb.toList = S) := by
     show _ = _
     rw [← hsb, Go.ByteArray.toList_eq]
    have HB2 : Hid (sb2.toList = S2) := by
     show _ = _
     rw [← hsb2, Go.ByteArray.toList_eq]
    have HSB := hidden hsb
    have HSB2 := hidden hsb2
    clear hsb hsb2
    obtain ⟨b0, b1, b2, bf⟩ := M8.out.cells
    obtain ⟨d0, d1, d2, df⟩ := N8b.out.cells
    by_cases cS : S = S2
    ·subst cS
     have ces : sb = sb2 := HSB.out.symm.trans HSB2.out
     subst ces
     by_cases cl : L.length = L2.length
     ·obtain ⟨n, hn⟩ : ∃ n, L.length = n := ⟨_, rfl⟩
      have hn2 : L2.length = n := cl.symm.trans hn
      rw [hn] at M8 b2
      rw [hn2] at N8b d2
      have HL := hidden hn
      have HL2 := hidden hn2
      have hn9 : n ≤ 1000000 := by have h9 := N4.out; omega
      clear hn hn2 cl
      go_wp2_with fail
      clear b0 b1 b2 bf d0 d1 d2 df
      go_loopw [71] (fun iv wr => InU O tb q r K hi F R σ2 L L2 w8 iv wr) (fun iv wr => (n - intOf iv).toNat)
      case atStart => exact ⟨0, K, own, nm, σ2, R, d, O, μ, Nat.zero_le _, rfl, ULoop.start HS2.out, Nat.le_refl _, HS2.out, T8.out, fun g hg => hg, fun g hg => Or.inl hg, Only.refl _ _⟩
      case round =>
       obtain ⟨k, K1, own1, nm1, σ1, R1, d1, O1, μ1, k1, rfl, g1, g2, g3, g4, g5, g6, g7⟩ := hrel
       rw [HL.out] at k1
       have G1 := hidden g1
       have G3 := hidden g3
       have G4 := hidden g4
       have G5 := hidden g5
       have G6 := hidden g6
       have G7 := hidden g7
       have hn3 : ∀ g, Own3 tb q r g → g < w.heap.size := fun g hg => HB.out g (Or.inr hg)
       have hs7 := HSZ7.out
       have hs5 := HSZ5.out
       have M1 : Hid (B3 wr w5.heap.size 0 sb (.slice am n cm)) := M8.out.keep (g7.block _ M8.out.lt (fun e => by have h9 := hn3 _ e; omega))
       have D1 : Hid (B3 wr w7.heap.size 0 sb (.slice an n cn)) := N8b.out.keep (g7.block _ N8b.out.lt (fun e => by have h9 := hn3 _ e; omega))
       have X1 := P8.out.keep (w' := wr) (fun g hg hl => g7.block g hl hg)
       have Y1 := Q8.out.keep (w' := wr) (fun g hg hl => g7.block g hl hg)
       clear g1 g3 g4 g5 g6 g7
       by_cases hlt : k < n
       ·have z1 : (k : Int) < (n : Int) := by omega
        have zi : (0 : Int) ≤ (k : Int) ∧ (k : Int) < (n : Int) := ⟨by omega, z1⟩
        obtain ⟨b0, b1, b2, bf⟩ := M1.out.cells
        obtain ⟨d0, dd1, d2, df⟩ := D1.out.cells
        obtain ⟨t, ht⟩ : ∃ t, L[k]? = some t := ⟨_, List.getElem?_eq_getElem (by rw [HL.out]; exact hlt)⟩
        obtain ⟨u, hu⟩ : ∃ u, L2[k]? = some u := ⟨_, List.getElem?_eq_getElem (by rw [HL2.out]; exact hlt)⟩
        obtain ⟨a, al, cp, rfl, bt, t0, t1, t2, tv, hr⟩ := rt_at X1 ht
        obtain ⟨a', al', cp', rfl, bu, u0, u1, u2, uv, hr'⟩ := rt_at Y1 hu
        have hok := okL_mem.1 N2.out t (List.mem_of_getElem? ht)
        have hok2 := okL_mem.1 E2.out u (List.mem_of_getElem? hu)
        have hmz : freeF F R < f ∨ (freeF F R ≤ f ∧ (1 + szL (rsL R L)) + (1 + szL (rsL R L2)) ≤ s + 1) := by
         have h9 := HM.out
         have h8 : (x.rs R).sz = 1 + szL (rsL R L) := by rw [← XE.out.2.1, N1.out, Ty.sz]
         have h7 : (y.rs R).sz = 1 + szL (rsL R L2) := by rw [← YE.out.2.1, E1.out, Ty.sz]
         rw [h8, h7] at h9
         exact h9
        have HN0 := hidden (HI.out O1 K1 own1 nm1 R1 d1 σ1 μ1 wr.drew t u al al' cp cp' (G1.out.meas HS2.out N2.out E2.out ht hu hmz) (G4.out.keep (fun g _ _ => rfl)) G3.out (G1.out.ok hok) (G1.out.ok hok2) (N3.out t (List.mem_of_getElem? ht)) (E3.out u (List.mem_of_getElem? hu)) tv.2.2 uv.2.2 (hr.keep (fun g _ _ => rfl)) (hr'.keep (fun g _ _ => rfl)) (by omega))
        have HT := hidden ht
        have HU := hidden hu
        have BT := hidden bt
        have BU := hidden bu
        have nM : Hid (¬ Own3 tb q r w5.heap.size) := fun e => by have h9 := hn3 _ e; omega
        have nD : Hid (¬ Own3 tb q r w7.heap.size) := fun e => by have h9 := hn3 _ e; omega
        clear hr hr' ht hu X1 Y1 bt bu hok hok2 hmz tv uv b0 b1 bf d0 dd1 df hn3 hs7 hs5
        go_wp2_with fail
        go_region_held3 (fun w' => w'.cell? ⟨w5.heap.size, 2, none⟩ = some (.slice (some a) n cm) ∧ w'.cell? ⟨w7.heap.size, 2, none⟩ = some (.slice (some a') n cn) ∧ w'.cell? (a.add (k * 3)) = some (.int .i64 t.V) ∧ w'.cell? ⟨(a.add (k * 3)).block, (a.add (k * 3)).off + 1, none⟩ = some (.string ⟨t.S.toArray⟩) ∧ w'.cell? ⟨(a.add (k * 3)).block, (a.add (k * 3)).off + 2, none⟩ = some (.slice al t.L.length cp) ∧ w'.cell? (a'.add (k * 3)) = some (.int .i64 u.V) ∧ w'.cell? ⟨(a'.add (k * 3)).block, (a'.add (k * 3)).off + 1, none⟩ = some (.string ⟨u.S.toArray⟩) ∧ w'.cell? ⟨(a'.add (k * 3)).block, (a'.add (k * 3)).off + 2, none⟩ = some (.slice al' u.L.length cp')) (go_keep) (first | (go_at_call 31; refine HN0.out.mono ?_; intro e w9 hq9; obtain ⟨ev, rfl, hq8⟩ := hq9.num; have UQ := hidden hq8; have n0 := cell_only hq8.1 nM.out b2; have n1 := cell_only hq8.1 nD.out d2; have n2 := cell_only hq8.1 BT.out t0; have n3 := cell_only (a := ⟨(a.add (k * 3)).block, (a.add (k * 3)).off + 1, none⟩) hq8.1 BT.out t1; have n4 := cell_only (a := ⟨(a.add (k * 3)).block, (a.add (k * 3)).off + 2, none⟩) hq8.1 BT.out t2; have n5 := cell_only hq8.1 BU.out u0; have n6 := cell_only (a := ⟨(a'.add (k * 3)).block, (a'.add (k * 3)).off + 1, none⟩) hq8.1 BU.out u1; have n7 := cell_only (a := ⟨(a'.add (k * 3)).block, (a'.add (k * 3)).off + 2, none⟩) hq8.1 BU.out u2; clear hq8 hq9))
        clear n0 n1 n2 n3 n4 n5 n6 n7 b2 d2 t0 t1 t2 u0 u1 u2
        obtain ⟨ho9, ⟨cc, un9, ee⟩ | ⟨K2, own2, nm2, σ3, R2, d2, O2, μ2, un9, ee, h1, h2, h3, h4, h5, h6⟩⟩ := UQ.out
        ·have ez : (ev != 0) = true := by
          have h9 : ev = if cc = 1 then 26 else 25 := by injection ee with e1; injection e1
          rw [h9]
          split <;> rfl
         have EE := hidden ee
         have UN9 := hidden un9
         have HO9 := hidden ho9
         clear ee un9 ho9 UQ
         go_wp2_with fail
         go_ret
         refine ⟨(L8.out.trans (G7.out.drewN 1)).trans HO9.out, Or.inl ⟨cc, ?_, EE.out⟩⟩
         refine .parts HUX.out HUY.out (by rw [rsL_len, rsL_len, HL.out, HL2.out]) ?_
         rw [List.append_nil]
         exact G1.out.fail G3.out N2.out E2.out HT.out HU.out UN9.out
        ·have h9 : ev = 0 := by injection ee with e1; injection e1
         subst h9
         have UN9 := hidden un9
         have HO9 := hidden ho9
         have H1 := hidden h1
         have H2 := hidden h2
         have H3 := hidden h3
         have H4 := hidden h4
         have H5 := hidden h5
         have H6 := hidden h6
         clear ee un9 ho9 h1 h2 h3 h4 h5 h6 UQ
         go_wp2_with fail
         go_roundw
         case rel =>
          refine ⟨k + 1, K2, own2, nm2, σ3, R2, d2, O2, μ2, by rw [HL.out]; omega, by go_num, G1.out.next HS2.out G3.out N2.out E2.out HT.out HU.out UN9.out H6.out, by have h9 := H1.out; omega, H2.out, H3.out, fun g hg => H4.out g (G5.out g hg), fun g hg => ?_, (G7.out.drewN 1).trans HO9.out⟩
          rcases H5.out g hg with h9 | h9
          ·exact G6.out g h9
          ·exact Or.inr (Nat.le_trans G7.out.size h9)
         case measure => simp [intOf]; omega
       ·have z1 : ¬ (k : Int) < (n : Int) := by omega
        have hkn : k = n := by omega
        have G1n : Hid (ULoop F σ2 R σ1 R1 L L2 L.length) := by
         have h9 := G1.out
         rw [hkn, ← HL.out] at h9
         exact h9
        have hll : Hid (L.length = L2.length) := HL.out.trans HL2.out.symm
        have hun : Hid (Un (natR R) [(x.rs R, y.rs R)] (.ok (natR R1))) := by
         refine .parts HUX.out HUY.out (by rw [rsL_len, rsL_len, HL.out, HL2.out]) ?_
         rw [List.append_nil]
         exact (G1n.out.all HS2.out hll.out N2.out E2.out).1
        have hxe : Hid (x.rs R1 = .c S (rsL R1 L)) := by
         show _ = _
         rw [G1n.out.rs (HC2.out.ok HX.out), ← XE.out.2.1, N1.out, Ty.ap, ← G1n.out.parts N2.out]
        have A9 : Hid (B3 wr w.heap.size x1.V ⟨x1.S.toArray⟩ (.slice ao' x1.L.length c')) := A8.out.keep (G7.out.block _ A8.out.lt (fun e => by have h9 := hn3 _ e; omega))
        have C9 : Hid (B3 wr (w.heap.size + 1) y1.V ⟨y1.S.toArray⟩ (.slice ao2' y1.L.length c2')) := C8.out.keep (G7.out.block _ C8.out.lt (fun e => by have h9 := hn3 _ e; omega))
        have O9 : Hid (∀ g, O1 g → O g ∨ w.heap.size ≤ g) := fun g hg => (G6.out g hg).imp id (fun h9 => Nat.le_trans L8.out.size h9)
        clear X1 Y1 hn3 hkn
        obtain ⟨a0, a1, a2, af⟩ := A9.out.cells
        obtain ⟨c0, c1, c2x, cf⟩ := C9.out.cells
        go_wp2_with fail
        refine (join_none (Or.inl HX0.out) _ _ _ _ _ _ _ _).mono ?_
        rintro e w9 ⟨rfl, hb9⟩
        have B9 := hidden hb9
        clear hb9
        go_wp2_with fail
        go_ret
        refine ⟨(L8.out.trans G7.out).trans (Only.of_below B9.out), Or.inr ⟨K1, own1, nm1, σ1, R1, d1, O1, μ1, hun.out, rfl, g2, G3.out, G4.out.below B9.out (Nat.le_refl _), G5.out, O9.out, ?_⟩⟩
        rw [hxe.out]
        exact (G1n.out.uex S).cmp HC2.out
     ·have z1 : ((L.length : Int) != (L2.length : Int)) = true := by rw [bne_iff_ne]; omega
      have HCL := hidden cl
      clear cl
      go_wp2_with fail
      go_ret
      exact ⟨L8.out, Or.inl ⟨2, .unlike HUX.out HUY.out (Or.inr (by rw [rsL_len, rsL_len]; exact HCL.out)), rfl⟩⟩
    ·have z1 : ¬ sb.toList = sb2.toList := by rw [HB1.out, HB2.out]; exact cS
     have z2 : (sb.toList == sb2.toList) = false := beq_eq_false_iff_ne.2 z1
     have HCS := hidden cS
     clear cS z1
     go_wp2_with fail
     go_ret
     exact ⟨L8.out, Or.inl ⟨2, .unlike HUX.out HUY.out (Or.inl HCS.out), rfl⟩⟩
  ·have hne : x1.V ≠ y1.V := fun e => hI ⟨hx0, e⟩
   have hbn : (x1.V != 0) = true := by simp [hx0]
   have hb0 : (x1.V == 0) = false := beq_eq_false_iff_ne.2 hx0
   have hbe : (x1.V == y1.V) = false := beq_eq_false_iff_ne.2 hne
   have HNE := hidden hne
   have HX0 := hidden hx0
   obtain ⟨k1, k2⟩ := ok_var XE.out.1 hx0
   have hru := HS2.out.rng k1
   have rg : -9223372036854775808 ≤ x1.V ∧ x1.V ≤ 9223372036854775807 := by omega
   have HE := hidden (XE.out.2.2.2.2 hx0).1
   clear hI hne hx0 k2 hru
   rcases HS2.out.at_end k1 HE.out with ⟨z1, z2, z3⟩ | ⟨z, z1, z2, z3, z4⟩
   ·have Z1 := hidden z1
    have Z2 := hidden z2
    have Z3 : Hid (x.rs R = .v x1.V.toNat) := by
     show _ = _
     rw [← XE.out.2.1, rs_var R HX0.out, z3]
    clear z1 z2 z3 k1
    go_wp2_with fail
    refine (name_no T4.out rg HX0.out Z1.out ⟨x1.S.toArray⟩ (.slice ao' x1.L.length c') ⟨_, _, _, rfl⟩).mono ?_
    rintro e w5 ⟨rfl, hb5⟩
    have A5 := hidden (A4.out.below hb5 (Nat.le_refl _))
    have C5 := hidden (C4.out.below hb5 (Nat.le_refl _))
    have T5 := hidden (T4.out.below hb5 (Nat.le_refl _))
    have L5 := hidden (L4.out.trans (Only.of_below hb5))
    have YR5 := hidden (YR4.out.beneath hb5 (Nat.le_refl _))
    clear hb5 a0 a1 a2 af c0 c1 c2x cf
    go_upto_region 5 with fail
    have A6 := hidden (A5.out.alloc (.cells #[.int .i64 0, .string ⟨#[]⟩, .slice none 0 0] 24))
    have C6 := hidden (C5.out.alloc (.cells #[.int .i64 0, .string ⟨#[]⟩, .slice none 0 0] 24))
    have T6 := hidden (T5.out.alloc (.cells #[.int .i64 0, .string ⟨#[]⟩, .slice none 0 0] 24))
    have L6 := hidden (L5.out.alloc (.cells #[.int .i64 0, .string ⟨#[]⟩, .slice none 0 0] 24))
    have YR6 := hidden ((YR5.out.alloc (.cells #[.int .i64 0, .string ⟨#[]⟩, .slice none 0 0] 24)).mono (Q := fun g => ¬ Own3 tb q r g) (fun g hg _ => hg.1))
    generalize w5.alloc (.cells #[.int .i64 0, .string ⟨#[]⟩, .slice none 0 0] 24) = w6 at *
    obtain ⟨a0, a1, a2, af⟩ := A6.out.cells
    obtain ⟨c0, c1, c2x, cf⟩ := C6.out.cells
    go_wp2_with fail
    refine (learn_any hF T6.out HS2.out Z2.out Z1.out c2' YE.out.1 YE.out.2.2.1 YE.out.2.2.2.1 YR6.out (by omega)).mono ?_
    rintro e w7 ⟨hl, hcs⟩
    have L7 := hidden (L6.out.trans hl)
    have hap := HS.out.apN HX.out
    have hapy := HS.out.apN HY.out
    have HAP := hidden hap
    have HAPY := hidden hapy
    clear hl a0 a1 a2 af c0 c1 c2x cf hap hapy
    rcases hcs with ⟨ho, rfl⟩ | ⟨ho, rfl, hfin⟩
    ·have HO := hidden ho
     clear ho
     go_wp2_with fail
     go_ret
     obtain ⟨s9, l9, q1, q2⟩ := HS2.out.occ_name Z2.out YE.out.1 (fun hv => (YE.out.2.2.2.2 hv).1) HNE.out HO.out
     refine ⟨L7.out, Or.inl ⟨1, .occL (n := x1.V.toNat) (s := s9) (l := l9) ?_ ?_ q2, rfl⟩⟩
     ·rw [HAP.out]; exact Z3.out
     ·rw [HAPY.out, ← YE.out.2.1]; exact q1
    ·have HO := hidden ho
     have HFIN := hidden hfin
     clear ho hfin
     go_wp2_with fail
     go_ret
     obtain ⟨own', σ', R', d', O', nm', μ', p1, p2, p3, p4, p5, p6, p7⟩ := HFIN.out
     obtain ⟨u1, u2, u3⟩ := HS2.out.learned Z2.out Z1.out YE.out.1 HO.out p5 p6 p7 (x.rs R')
     have hL9 : 1 + szRL y1.L ≤ 1000 := by have h9 := YE.out.2.2.1; rw [sz_L] at h9; exact h9
     refine ⟨L7.out, Or.inr ⟨K + 2 * szRL y1.L + 1, own', nm', σ', R', d', O', μ', ?_, rfl, by omega, p1, p2, p3, fun g hg => ?_, ?_⟩⟩
     ·rw [u1]
      have hno : ¬ ((y.rs R).ap (natR R)).occ x1.V.toNat := by rw [HAPY.out, ← YE.out.2.1]; exact HO.out
      have := Un.nameL (ps := []) (e := .ok (nameV (natR R) x1.V.toNat ((y.rs R).ap (natR R)))) (a := x.rs R) (by rw [HAP.out]; exact Z3.out) hno .done
      rw [YE.out.2.1]
      exact this
     ·rcases p4 g hg with h9 | h9
      ·exact Or.inl h9
      ·exact Or.inr (Nat.le_trans L6.out.size h9)
     ·exact u2.cmp HC2.out
   ·have HN1 : Hid (x1.V ≠ 0 → σ2 x1.V ≠ none) := fun _ h9 => by rw [z1] at h9; cases h9
    clear z1 z2 z3 z4 k1
    have XRm := hidden (XR4.out.mono (Q := fun g => ¬ Own3 tb q r g) (fun g hg _ => hg.1))
    have YRm := hidden (YR4.out.mono (Q := fun g => ¬ Own3 tb q r g) (fun g hg _ => hg.1))
    clear XR4 YR4
    go_wp2_with fail
    refine (name_some T4.out HS2.out (by omega) c' XE.out.1 XE.out.2.2.1 XE.out.2.2.2.1 (fun hv => (XE.out.2.2.2.2 hv).1) HN1.out XRm.out).mono ?_
    rintro e w5 ⟨S, L, am, cm, rfl, n1, n2, n3, n4, n5, n6, n7, n8, n9⟩
    have N1 := hidden n1
    have N2 := hidden n2
    have N3 := hidden n3
    have N4 := hidden n4
    have N8 := hidden n8
    have A5 := hidden (A4.out.below n7 (Nat.le_refl _))
    have C5 := hidden (C4.out.below n7 (Nat.le_refl _))
    have T5 := hidden (T4.out.below n7 (Nat.le_refl _))
    have L5 := hidden (L4.out.trans (Only.of_below n7))
    have X5 := hidden (XRm.out.beneath n7 (Nat.le_refl _))
    have Y5 := hidden (YRm.out.beneath n7 (Nat.le_refl _))
    have P5 := hidden n6
    have HSZ5 : Hid (w.heap.size + 2 ≤ w5.heap.size) := by have h9 := C4.out.lt; have h8 := n7.size; show _ ≤ _; omega
    clear n1 n2 n3 n4 n5 n6 n7 n8 n9 A4 C4 T4 L4 XRm YRm a0 a1 a2 af c0 c1 c2x cf
    go_upto_region 5 with fail
    have A6 := hidden (A5.out.alloc (.cells #[.int .i64 0, .string ⟨S.toArray⟩, .slice am L.length cm] 24))
    have C6 := hidden (C5.out.alloc (.cells #[.int .i64 0, .string ⟨S.toArray⟩, .slice am L.length cm] 24))
    have T6 := hidden (T5.out.alloc (.cells #[.int .i64 0, .string ⟨S.toArray⟩, .slice am L.length cm] 24))
    have L6 := hidden (L5.out.alloc (.cells #[.int .i64 0, .string ⟨S.toArray⟩, .slice am L.length cm] 24))
    have X6 := hidden (X5.out.alloc (.cells #[.int .i64 0, .string ⟨S.toArray⟩, .slice am L.length cm] 24))
    have Y6 := hidden (Y5.out.alloc (.cells #[.int .i64 0, .string ⟨S.toArray⟩, .slice am L.length cm] 24))
    have P6 := hidden (P5.out.alloc (.cells #[.int .i64 0, .string ⟨S.toArray⟩, .slice am L.length cm] 24))
    have M6 := hidden (B3.new w5 0 ⟨S.toArray⟩ (.slice am L.length cm))
    have HSZ6 : Hid (w5.heap.size + 1 ≤ (w5.alloc (.cells #[.int .i64 0, .string ⟨S.toArray⟩, .slice am L.length cm] 24)).heap.size) := by show _ ≤ _; rw [nblk_alloc]; exact Nat.le_refl _
    clear A5 C5 T5 L5 X5 Y5 P5
    generalize w5.alloc (.cells #[.int .i64 0, .string ⟨S.toArray⟩, .slice am L.length cm] 24) = w6 at *
    obtain ⟨a0, a1, a2, af⟩ := A6.out.cells
    obtain ⟨c0, c1, c2x, cf⟩ := C6.out.cells
    by_cases hy : y1.V ≠ 0 ∧ σ2 y1.V = none
    ·obtain ⟨hy0, hyn⟩ := hy
     obtain ⟨k1, k2⟩ := ok_var YE.out.1 hy0
     have hru := HS2.out.rng k1
     have hT6 := T6.out.ow
     have rg : -9223372036854775808 ≤ y1.V ∧ y1.V ≤ 9223372036854775807 := by omega
     have hyF := HS2.out.in_F k1 hyn
     have hyR := HS2.out.free y1.V hyn (by have h9 := (HS2.out.pos _ hyF).1; omega)
     have HY0 := hidden hy0
     have HYN := hidden hyn
     have HYF := hidden hyF
     have HYR : Hid (y.rs R = .v y1.V.toNat) := by
      show _ = _
      rw [← YE.out.2.1, rs_var R hy0, hyR]
     clear hy0 hyn hyF hyR k1 k2 hru hT6
     go_wp2_with fail
     refine (name_no T6.out rg HY0.out HYN.out ⟨y1.S.toArray⟩ (.slice ao2' y1.L.length c2') ⟨_, _, _, rfl⟩).mono ?_
     rintro e w7 ⟨rfl, hb7⟩
     have A7 := hidden (A6.out.below hb7 (Nat.le_refl _))
     have C7 := hidden (C6.out.below hb7 (Nat.le_refl _))
     have T7 := hidden (T6.out.below hb7 (Nat.le_refl _))
     have L7 := hidden (L6.out.trans (Only.of_below hb7))
     have X7 := hidden (X6.out.beneath hb7 (Nat.le_refl _))
     clear hb7 a0 a1 a2 af c0 c1 c2x cf A6 C6 T6 L6 X6 Y6 P6 M6
     go_upto_region 8 with fail
     have A8 := hidden (A7.out.alloc (.cells #[.int .i64 0, .string ⟨#[]⟩, .slice none 0 0] 24))
     have C8 := hidden (C7.out.alloc (.cells #[.int .i64 0, .string ⟨#[]⟩, .slice none 0 0] 24))
     have T8 := hidden (T7.out.alloc (.cells #[.int .i64 0, .string ⟨#[]⟩, .slice none 0 0] 24))
     have L8 := hidden (L7.out.alloc (.cells #[.int .i64 0, .string ⟨#[]⟩, .slice none 0 0] 24))
     have X8 := hidden (X7.out.alloc (.cells #[.int .i64 0, .string ⟨#[]⟩, .slice none 0 0] 24))
     clear A7 C7 T7 L7 X7
     generalize w7.alloc (.cells #[.int .i64 0, .string ⟨#[]⟩, .slice none 0 0] 24) = w8 at *
     obtain ⟨a0, a1, a2, af⟩ := A8.out.cells
     obtain ⟨c0, c1, c2x, cf⟩ := C8.out.cells
     go_wp2_with fail
     refine (learn_any hF T8.out HS2.out HYF.out HYN.out c' XE.out.1 XE.out.2.2.1 XE.out.2.2.2.1 X8.out (by omega)).mono ?_
     rintro e w9 ⟨hl, hcs⟩
     have L9 := hidden (L8.out.trans hl)
     have HAP := hidden (HS.out.apN HX.out)
     have HAPY := hidden (HS.out.apN HY.out)
     clear hl a0 a1 a2 af c0 c1 c2x cf
     rcases hcs with ⟨ho, rfl⟩ | ⟨ho, rfl, hfin⟩
     ·have HO := hidden ho
      clear ho
      go_wp2_with fail
      go_ret
      have hq := HO.out
      rw [N1.out, Ty.occ] at hq
      refine ⟨L9.out, Or.inl ⟨1, .occR (n := y1.V.toNat) (s := S) (l := rsL R L) ?_ ?_ hq, rfl⟩⟩
      ·rw [HAP.out, ← XE.out.2.1]; exact N1.out
      ·rw [HAPY.out]; exact HYR.out
     ·have HO := hidden ho
      have HFIN := hidden hfin
      clear ho hfin
      go_wp2_with fail
      go_ret
      obtain ⟨own', σ', R', d', O', nm', μ', p1, p2, p3, p4, p5, p6, p7⟩ := HFIN.out
      obtain ⟨u1, u2, u3⟩ := HS2.out.learned HYF.out HYN.out XE.out.1 HO.out p5 p6 p7 (x.rs R')
      have hL9 : 1 + szRL x1.L ≤ 1000 := by have h9 := XE.out.2.2.1; rw [sz_L] at h9; exact h9
      refine ⟨L9.out, Or.inr ⟨K + 2 * szRL x1.L + 1, own', nm', σ', R', d', O', μ', ?_, rfl, by omega, p1, p2, p3, fun g hg => ?_, ?_⟩⟩
      ·rw [u1]
       have hno : ¬ occL y1.V.toNat (rsL R L) := by have h9 := HO.out; rw [N1.out, Ty.occ] at h9; exact h9
       have := Un.nameR (ps := []) (e := .ok (nameV (natR R) y1.V.toNat ((x.rs R).ap (natR R)))) (a := x.rs R) (b := y.rs R) (by rw [HAP.out, ← XE.out.2.1]; exact N1.out) (by rw [HAPY.out]; exact HYR.out) hno .done
       rw [XE.out.2.1]
       exact this
      ·rcases p4 g hg with h9 | h9
       ·exact Or.inl h9
       ·exact Or.inr (Nat.le_trans L8.out.size h9)
      ·exact u2.cmp HC2.out
    ·have HN2 : Hid (y1.V ≠ 0 → σ2 y1.V ≠ none) := fun h1 h2 => hy ⟨h1, h2⟩
     clear hy
     go_wp2_with fail
     refine (name_some T6.out HS2.out (by omega) c2' YE.out.1 YE.out.2.2.1 YE.out.2.2.2.1 (fun hv => (YE.out.2.2.2.2 hv).1) HN2.out Y6.out).mono ?_
     rintro e w7 ⟨S2, L2, an, cn, rfl, n1, n2, n3, n4, n5, n6, n7, n8, n9⟩
     have E1 := hidden n1
     have E2 := hidden n2
     have E3 := hidden n3
     have E4 := hidden n4
     have E8 := hidden n8
     have A7 := hidden (A6.out.below n7 (Nat.le_refl _))
     have C7 := hidden (C6.out.below n7 (Nat.le_refl _))
     have T7 := hidden (T6.out.below n7 (Nat.le_refl _))
     have M7 := hidden (M6.out.below n7 (Nat.le_refl _))
     have L7 := hidden (L6.out.trans (Only.of_below n7))
     have P7 := hidden (P6.out.beneath n7 (Nat.le_refl _))
     have Q7 := hidden n6
     have HSZ7 : Hid (w5.heap.size + 1 ≤ w7.heap.size) := by have h9 := HSZ6.out; have h8 := n7.size; show _ ≤ _; omega
     clear n1 n2 n3 n4 n5 n6 n7 n8 n9 A6 C6 T6 L6 X6 Y6 P6 M6 a0 a1 a2 af c0 c1 c2x cf HSZ6
     go_upto_region 8 with fail
     have A8 := hidden (A7.out.alloc (.cells #[.int .i64 0, .string ⟨S2.toArray⟩, .slice an L2.length cn] 24))
     have C8 := hidden (C7.out.alloc (.cells #[.int .i64 0, .string ⟨S2.toArray⟩, .slice an L2.length cn] 24))
     have T8 := hidden (T7.out.alloc (.cells #[.int .i64 0, .string ⟨S2.toArray⟩, .slice an L2.length cn] 24))
     have L8 := hidden (L7.out.alloc (.cells #[.int .i64 0, .string ⟨S2.toArray⟩, .slice an L2.length cn] 24))
     have M8 := hidden (M7.out.alloc (.cells #[.int .i64 0, .string ⟨S2.toArray⟩, .slice an L2.length cn] 24))
     have P8 := hidden (P7.out.alloc (.cells #[.int .i64 0, .string ⟨S2.toArray⟩, .slice an L2.length cn] 24))
     have Q8 := hidden (Q7.out.alloc (.cells #[.int .i64 0, .string ⟨S2.toArray⟩, .slice an L2.length cn] 24))
     have N8b := hidden (B3.new w7 0 ⟨S2.toArray⟩ (.slice an L2.length cn))
     have HSZ8 : Hid (w7.heap.size + 1 ≤ (w7.alloc (.cells #[.int .i64 0, .string ⟨S2.toArray⟩, .slice an L2.length cn] 24)).heap.size) := by show _ ≤ _; rw [nblk_alloc]; exact Nat.le_refl _
     clear A7 C7 T7 L7 M7 P7 Q7
     generalize w7.alloc (.cells #[.int .i64 0, .string ⟨S2.toArray⟩, .slice an L2.length cn] 24) = w8 at *
     have HAP := hidden (HS.out.apN HX.out)
     have HAPY := hidden (HS.out.apN HY.out)
     have HUX : Hid ((x.rs R).ap (natR R) = .c S (rsL R L)) := by
      show _ = _
      rw [HAP.out, ← XE.out.2.1]; exact N1.out
     have HUY : Hid ((y.rs R).ap (natR R) = .c S2 (rsL R L2)) := by
      show _ = _
      rw [HAPY.out, ← YE.out.2.1]; exact E1.out
     obtain ⟨sb, hsb⟩ : ∃ sb : ByteArray, (⟨S.toArray⟩ : ByteArray) = sb := ⟨_, rfl⟩
     obtain ⟨sb2, hsb2⟩ : ∃ sb2 : ByteArray, (⟨S2.toArray⟩ : ByteArray) = sb2 := ⟨_, rfl⟩
     rw [hsb] at M8
     rw [hsb2] at N8b
     have HB1 : Hid (sb.toList = S) := by
      show _ = _
      rw [← hsb, Go.ByteArray.toList_eq]
     have HB2 : Hid (sb2.toList = S2) := by
      show _ = _
      rw [← hsb2, Go.ByteArray.toList_eq]
     have HSB := hidden hsb
     have HSB2 := hidden hsb2
     clear hsb hsb2
     obtain ⟨b0, b1, b2, bf⟩ := M8.out.cells
     obtain ⟨d0, d1, d2, df⟩ := N8b.out.cells
     by_cases cS : S = S2
     ·subst cS
      have ces : sb = sb2 := HSB.out.symm.trans HSB2.out
      subst ces
      by_cases cl : L.length = L2.length
      ·obtain ⟨n, hn⟩ : ∃ n, L.length = n := ⟨_, rfl⟩
       have hn2 : L2.length = n := cl.symm.trans hn
       rw [hn] at M8 b2
       rw [hn2] at N8b d2
       have HL := hidden hn
       have HL2 := hidden hn2
       have hn9 : n ≤ 1000000 := by have h9 := N4.out; omega
       clear hn hn2 cl
       go_wp2_with fail
       clear b0 b1 b2 bf d0 d1 d2 df
       go_loopw [71] (fun iv wr => InU O tb q r K hi F R σ2 L L2 w8 iv wr) (fun iv wr => (n - intOf iv).toNat)
       case atStart => exact ⟨0, K, own, nm, σ2, R, d, O, μ, Nat.zero_le _, rfl, ULoop.start HS2.out, Nat.le_refl _, HS2.out, T8.out, fun g hg => hg, fun g hg => Or.inl hg, Only.refl _ _⟩
       case round =>
        obtain ⟨k, K1, own1, nm1, σ1, R1, d1, O1, μ1, k1, rfl, g1, g2, g3, g4, g5, g6, g7⟩ := hrel
        rw [HL.out] at k1
        have G1 := hidden g1
        have G3 := hidden g3
        have G4 := hidden g4
        have G5 := hidden g5
        have G6 := hidden g6
        have G7 := hidden g7
        have hn3 : ∀ g, Own3 tb q r g → g < w.heap.size := fun g hg => HB.out g (Or.inr hg)
        have hs7 := HSZ7.out
        have hs5 := HSZ5.out
        have M1 : Hid (B3 wr w5.heap.size 0 sb (.slice am n cm)) := M8.out.keep (g7.block _ M8.out.lt (fun e => by have h9 := hn3 _ e; omega))
        have D1 : Hid (B3 wr w7.heap.size 0 sb (.slice an n cn)) := N8b.out.keep (g7.block _ N8b.out.lt (fun e => by have h9 := hn3 _ e; omega))
        have X1 := P8.out.keep (w' := wr) (fun g hg hl => g7.block g hl hg)
        have Y1 := Q8.out.keep (w' := wr) (fun g hg hl => g7.block g hl hg)
        clear g1 g3 g4 g5 g6 g7
        by_cases hlt : k < n
        ·have z1 : (k : Int) < (n : Int) := by omega
         have zi : (0 : Int) ≤ (k : Int) ∧ (k : Int) < (n : Int) := ⟨by omega, z1⟩
         obtain ⟨b0, b1, b2, bf⟩ := M1.out.cells
         obtain ⟨d0, dd1, d2, df⟩ := D1.out.cells
         obtain ⟨t, ht⟩ : ∃ t, L[k]? = some t := ⟨_, List.getElem?_eq_getElem (by rw [HL.out]; exact hlt)⟩
         obtain ⟨u, hu⟩ : ∃ u, L2[k]? = some u := ⟨_, List.getElem?_eq_getElem (by rw [HL2.out]; exact hlt)⟩
         obtain ⟨a, al, cp, rfl, bt, t0, t1, t2, tv, hr⟩ := rt_at X1 ht
         obtain ⟨a', al', cp', rfl, bu, u0, u1, u2, uv, hr'⟩ := rt_at Y1 hu
         have hok := okL_mem.1 N2.out t (List.mem_of_getElem? ht)
         have hok2 := okL_mem.1 E2.out u (List.mem_of_getElem? hu)
         have hmz : freeF F R < f ∨ (freeF F R ≤ f ∧ (1 + szL (rsL R L)) + (1 + szL (rsL R L2)) ≤ s + 1) := by
          have h9 := HM.out
          have h8 : (x.rs R).sz = 1 + szL (rsL R L) := by rw [← XE.out.2.1, N1.out, Ty.sz]
          have h7 : (y.rs R).sz = 1 + szL (rsL R L2) := by rw [← YE.out.2.1, E1.out, Ty.sz]
          rw [h8, h7] at h9
          exact h9
         have HN0 := hidden (HI.out O1 K1 own1 nm1 R1 d1 σ1 μ1 wr.drew t u al al' cp cp' (G1.out.meas HS2.out N2.out E2.out ht hu hmz) (G4.out.keep (fun g _ _ => rfl)) G3.out (G1.out.ok hok) (G1.out.ok hok2) (N3.out t (List.mem_of_getElem? ht)) (E3.out u (List.mem_of_getElem? hu)) tv.2.2 uv.2.2 (hr.keep (fun g _ _ => rfl)) (hr'.keep (fun g _ _ => rfl)) (by omega))
         have HT := hidden ht
         have HU := hidden hu
         have BT := hidden bt
         have BU := hidden bu
         have nM : Hid (¬ Own3 tb q r w5.heap.size) := fun e => by have h9 := hn3 _ e; omega
         have nD : Hid (¬ Own3 tb q r w7.heap.size) := fun e => by have h9 := hn3 _ e; omega
         clear hr hr' ht hu X1 Y1 bt bu hok hok2 hmz tv uv b0 b1 bf d0 dd1 df hn3 hs7 hs5
         go_wp2_with fail
         go_region_held3 (fun w' => w'.cell? ⟨w5.heap.size, 2, none⟩ = some (.slice (some a) n cm) ∧ w'.cell? ⟨w7.heap.size, 2, none⟩ = some (.slice (some a') n cn) ∧ w'.cell? (a.add (k * 3)) = some (.int .i64 t.V) ∧ w'.cell? ⟨(a.add (k * 3)).block, (a.add (k * 3)).off + 1, none⟩ = some (.string ⟨t.S.toArray⟩) ∧ w'.cell? ⟨(a.add (k * 3)).block, (a.add (k * 3)).off + 2, none⟩ = some (.slice al t.L.length cp) ∧ w'.cell? (a'.add (k * 3)) = some (.int .i64 u.V) ∧ w'.cell? ⟨(a'.add (k * 3)).block, (a'.add (k * 3)).off + 1, none⟩ = some (.string ⟨u.S.toArray⟩) ∧ w'.cell? ⟨(a'.add (k * 3)).block, (a'.add (k * 3)).off + 2, none⟩ = some (.slice al' u.L.length cp')) (go_keep) (first | (go_at_call 31; refine HN0.out.mono ?_; intro e w9 hq9; obtain ⟨ev, rfl, hq8⟩ := hq9.num; have UQ := hidden hq8; have n0 := cell_only hq8.1 nM.out b2; have n1 := cell_only hq8.1 nD.out d2; have n2 := cell_only hq8.1 BT.out t0; have n3 := cell_only (a := ⟨(a.add (k * 3)).block, (a.add (k * 3)).off + 1, none⟩) hq8.1 BT.out t1; have n4 := cell_only (a := ⟨(a.add (k * 3)).block, (a.add (k * 3)).off + 2, none⟩) hq8.1 BT.out t2; have n5 := cell_only hq8.1 BU.out u0; have n6 := cell_only (a := ⟨(a'.add (k * 3)).block, (a'.add (k * 3)).off + 1, none⟩) hq8.1 BU.out u1; have n7 := cell_only (a := ⟨(a'.add (k * 3)).block, (a'.add (k * 3)).off + 2, none⟩) hq8.1 BU.out u2; clear hq8 hq9))
         clear n0 n1 n2 n3 n4 n5 n6 n7 b2 d2 t0 t1 t2 u0 u1 u2
         obtain ⟨ho9, ⟨cc, un9, ee⟩ | ⟨K2, own2, nm2, σ3, R2, d2, O2, μ2, un9, ee, h1, h2, h3, h4, h5, h6⟩⟩ := UQ.out
         ·have ez : (ev != 0) = true := by
           have h9 : ev = if cc = 1 then 26 else 25 := by injection ee with e1; injection e1
           rw [h9]
           split <;> rfl
          have EE := hidden ee
          have UN9 := hidden un9
          have HO9 := hidden ho9
          clear ee un9 ho9 UQ
          go_wp2_with fail
          go_ret
          refine ⟨(L8.out.trans (G7.out.drewN 1)).trans HO9.out, Or.inl ⟨cc, ?_, EE.out⟩⟩
          refine .parts HUX.out HUY.out (by rw [rsL_len, rsL_len, HL.out, HL2.out]) ?_
          rw [List.append_nil]
          exact G1.out.fail G3.out N2.out E2.out HT.out HU.out UN9.out
         ·have h9 : ev = 0 := by injection ee with e1; injection e1
          subst h9
          have UN9 := hidden un9
          have HO9 := hidden ho9
          have H1 := hidden h1
          have H2 := hidden h2
          have H3 := hidden h3
          have H4 := hidden h4
          have H5 := hidden h5
          have H6 := hidden h6
          clear ee un9 ho9 h1 h2 h3 h4 h5 h6 UQ
          go_wp2_with fail
          go_roundw
          case rel =>
           refine ⟨k + 1, K2, own2, nm2, σ3, R2, d2, O2, μ2, by rw [HL.out]; omega, by go_num, G1.out.next HS2.out G3.out N2.out E2.out HT.out HU.out UN9.out H6.out, by have h9 := H1.out; omega, H2.out, H3.out, fun g hg => H4.out g (G5.out g hg), fun g hg => ?_, (G7.out.drewN 1).trans HO9.out⟩
           rcases H5.out g hg with h9 | h9
           ·exact G6.out g h9
           ·exact Or.inr (Nat.le_trans G7.out.size h9)
          case measure => simp [intOf]; omega
        ·have z1 : ¬ (k : Int) < (n : Int) := by omega
         have hkn : k = n := by omega
         have G1n : Hid (ULoop F σ2 R σ1 R1 L L2 L.length) := by
          have h9 := G1.out
          rw [hkn, ← HL.out] at h9
          exact h9
         have hll : Hid (L.length = L2.length) := HL.out.trans HL2.out.symm
         have hun : Hid (Un (natR R) [(x.rs R, y.rs R)] (.ok (natR R1))) := by
          refine .parts HUX.out HUY.out (by rw [rsL_len, rsL_len, HL.out, HL2.out]) ?_
          rw [List.append_nil]
          exact (G1n.out.all HS2.out hll.out N2.out E2.out).1
         have hxe : Hid (x.rs R1 = .c S (rsL R1 L)) := by
          show _ = _
          rw [G1n.out.rs (HC2.out.ok HX.out), ← XE.out.2.1, N1.out, Ty.ap, ← G1n.out.parts N2.out]
         have A9 : Hid (B3 wr w.heap.size x1.V ⟨x1.S.toArray⟩ (.slice ao' x1.L.length c')) := A8.out.keep (G7.out.block _ A8.out.lt (fun e => by have h9 := hn3 _ e; omega))
         have C9 : Hid (B3 wr (w.heap.size + 1) y1.V ⟨y1.S.toArray⟩ (.slice ao2' y1.L.length c2')) := C8.out.keep (G7.out.block _ C8.out.lt (fun e => by have h9 := hn3 _ e; omega))
         have O9 : Hid (∀ g, O1 g → O g ∨ w.heap.size ≤ g) := fun g hg => (G6.out g hg).imp id (fun h9 => Nat.le_trans L8.out.size h9)
         clear X1 Y1 hn3 hkn
         by_cases hy0 : y1.V = 0
         ·have HY0 := hidden hy0
          clear hy0
          obtain ⟨a0, a1, a2, af⟩ := A9.out.cells
          obtain ⟨c0, c1, c2x, cf⟩ := C9.out.cells
          go_wp2_with fail
          refine (join_none (Or.inr HY0.out) _ _ _ _ _ _ _ _).mono ?_
          rintro e w9 ⟨rfl, hb9⟩
          have B9 := hidden hb9
          clear hb9
          go_wp2_with fail
          go_ret
          refine ⟨(L8.out.trans G7.out).trans (Only.of_below B9.out), Or.inr ⟨K1, own1, nm1, σ1, R1, d1, O1, μ1, hun.out, rfl, g2, G3.out, G4.out.below B9.out (Nat.le_refl _), G5.out, O9.out, ?_⟩⟩
          rw [hxe.out]
          exact (G1n.out.uex S).cmp HC2.out
         ·obtain ⟨yk, ye⟩ := ok_var YE.out.1 hy0
          obtain ⟨_, ya, yc⟩ := YE.out.2.2.2.2 hy0
          have C9v : Hid (B3 wr (w.heap.size + 1) y1.V ⟨#[]⟩ (.slice none 0 0)) := by
           have h9 := C9.out
           rw [ya, yc] at h9
           have e1 : y1.S = [] := by rw [ye]; rfl
           have e2 : y1.L = [] := by rw [ye]; rfl
           rw [e1, e2] at h9
           exact h9
          have HY0 := hidden hy0
          have hry := HS2.out.rng yk
          have rgy : -9223372036854775808 ≤ y1.V ∧ y1.V ≤ 9223372036854775807 := by omega
          have hj := G1n.out.join HS2.out G3.out hll.out N2.out E2.out HNE.out (N8.out HX0.out) (E8.out HY0.out)
          have HJ := hidden hj
          clear hy0 yk ye ya yc hry hj C9
          obtain ⟨a0, a1, a2, af⟩ := A9.out.cells
          obtain ⟨c0, c1, c2x, cf⟩ := C9v.out.cells
          go_wp2_with fail
          refine (join_vars (by omega) G4.out rg rgy HX0.out HY0.out HJ.out.1 _ _ _ _).mono ?_
          rintro e w9 ⟨rfl, hp9, ho9⟩
          have B9 := hidden ho9
          have Q9 := hidden hp9
          clear ho9 hp9
          go_wp2_with fail
          go_ret
          obtain ⟨dd, hdd⟩ := HJ.out.2.1
          refine ⟨(L8.out.trans G7.out).trans B9.out, Or.inr ⟨K1, own1, nm1, _, R1, dd, O1, μ1, hun.out, rfl, g2, hdd, Q9.out, G5.out, O9.out, ?_⟩⟩
          rw [hxe.out]
          exact HJ.out.2.2.cmp HC2.out
      ·have z1 : ((L.length : Int) != (L2.length : Int)) = true := by rw [bne_iff_ne]; omega
       have HCL := hidden cl
       clear cl
       go_wp2_with fail
       go_ret
       exact ⟨L8.out, Or.inl ⟨2, .unlike HUX.out HUY.out (Or.inr (by rw [rsL_len, rsL_len]; exact HCL.out)), rfl⟩⟩
     ·have z1 : ¬ sb.toList = sb2.toList := by rw [HB1.out, HB2.out]; exact cS
      have z2 : (sb.toList == sb2.toList) = false := beq_eq_false_iff_ne.2 z1
      have HCS := hidden cS
      clear cS z1
      go_wp2_with fail
      go_ret
      exact ⟨L8.out, Or.inl ⟨2, .unlike HUX.out HUY.out (Or.inl HCS.out), rfl⟩⟩
theorem uni_all (hF : F.length ≤ 1000000) : ∀ f s, UniFor tb q r hi F f s := by
 intro f
 induction f with
 | zero =>
  intro s
  induction s with
  | zero => intro O K own nm R d σ μ w x y ao ao2 c c2 hm; have := (x.rs R).sz_pos; omega
  | succ s ih => exact uni_step hF ih
 | succ f ihf =>
  intro s
  induction s with
  | zero =>
   intro O K own nm R d σ μ w x y ao ao2 c c2 hm
   have h1 := (x.rs R).sz_pos
   exact ihf _ O K own nm R d σ μ w x y ao ao2 c c2 (Or.inr ⟨by omega, Nat.le_refl _⟩)
  | succ s ih => exact uni_step hF ih
end
end Go.Proofs.YtnebhiaeechpaaaDoor
