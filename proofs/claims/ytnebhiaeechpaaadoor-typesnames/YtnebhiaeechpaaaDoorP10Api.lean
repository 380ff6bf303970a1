/-
 Layer 10: the program's Unify, Size, Vars, Resolve, Fresh. Condition: the Table lies in memory; what is handed may be.
-/
import Derived.Test.YtnebhiaeechpaaaDoorP10Hand
namespace Go.Proofs.YtnebhiaeechpaaaDoor
open Go.ChangeShapes Go.WideShapes Go.ChangeAt Go.RowKit Go.Deep
set_option linter.unusedVariables false
set_option linter.unusedSimpArgs false
set_option maxHeartbeats 4000000
set_option maxRecDepth 20000
/-- A Table: its blocks, what it was handed, what it knows; none of its blocks is one of A's. -/
def TB (A : Nat → Prop) (w : World) (tb q r : Nat) (F : List Int) (ρ : Nat → Ty) : Prop := ∃ (O : Nat → Prop) (K nm own : Nat) (hi : Int) (σ : Int → Option Rw) (μ : Int → Option Int) (R : Int → Ty) (d : Int → Nat), PT O w tb q r K nm own hi σ μ ∧ PS F own σ R d ∧ natR R = ρ ∧ K + 3000 * freeF F R ≤ 3000 * F.length ∧ HiF F hi ∧ ∀ g, O g ∨ Own3 tb q r g → ¬ A g
/-- A row of types made at once. -/
theorem rt_two {P : Nat → Prop} {w : World} {g : Nat} {x y : Rw} {ao bo : Option Addr} {c d : Nat} {T : TypeId} {fr : Nat × Nat} (h : w.heap[g]? = some (.cells #[.int .i64 x.V, .string ⟨x.S.toArray⟩, .slice ao x.L.length c, .int .i64 y.V, .string ⟨y.S.toArray⟩, .slice bo y.L.length d] T fr)) (hP : P g) (hx : RT P w x.L ao) (hy : RT P w y.L bo) (vx : -9223372036854775808 ≤ x.V ∧ x.V ≤ 9223372036854775807 ∧ x.S.length ≤ maxLen) (vy : -9223372036854775808 ≤ y.V ∧ y.V ≤ 9223372036854775807 ∧ y.S.length ≤ maxLen) : RT P w [x, y] (some ⟨g, 0, none⟩) := by
 refine .mk (fun k => if k = 0 then ao else bo) (fun k => if k = 0 then c else d) (fun k t ht => ?_) (fun k t ht => ?_) (fun k t ht => ?_)
 ·match k, ht with
  | 0, ht =>
   simp at ht
   subst ht
   refine ⟨⟨g, 0, none⟩, rfl, hP, ?_, ?_, ?_⟩ <;> simp [World.cell?, Addr.add, h]
  | 1, ht =>
   simp at ht
   subst ht
   refine ⟨⟨g, 0, none⟩, rfl, hP, ?_, ?_, ?_⟩ <;> simp [World.cell?, Addr.add, h]
  | k + 2, ht => simp at ht
 ·match k, ht with
  | 0, ht => simp at ht; subst ht; exact vx
  | 1, ht => simp at ht; subst ht; exact vy
  | k + 2, ht => simp at ht
 ·match k, ht with
  | 0, ht => simp at ht; subst ht; exact hx
  | 1, ht => simp at ht; subst ht; exact hy
  | k + 2, ht => simp at ht
theorem rt_one {P : Nat → Prop} {w : World} {g : Nat} {x : Rw} {ao : Option Addr} {c : Nat} {T : TypeId} {fr : Nat × Nat} (h : w.heap[g]? = some (.cells #[.int .i64 x.V, .string ⟨x.S.toArray⟩, .slice ao x.L.length c] T fr)) (hP : P g) (hx : RT P w x.L ao) (vx : -9223372036854775808 ≤ x.V ∧ x.V ≤ 9223372036854775807 ∧ x.S.length ≤ maxLen) : RT P w [x] (some ⟨g, 0, none⟩) := by
 refine .mk (fun k => ao) (fun k => c) (fun k t ht => ?_) (fun k t ht => ?_) (fun k t ht => ?_)
 ·match k, ht with
  | 0, ht =>
   simp at ht
   subst ht
   refine ⟨⟨g, 0, none⟩, rfl, hP, ?_, ?_, ?_⟩ <;> simp [World.cell?, Addr.add, h]
  | k + 1, ht => simp at ht
 ·match k, ht with
  | 0, ht => simp at ht; subst ht; exact vx
  | k + 1, ht => simp at ht
 ·match k, ht with
  | 0, ht => simp at ht; subst ht; exact hx
  | k + 1, ht => simp at ht
section
variable {A : Nat → Prop} {w : World} {tb q r : Nat} {F : List Int} {ρ : Nat → Ty}
theorem api_new (w : World) {A : Nat → Prop} (hA : ∀ g, A g → g < w.heap.size) : Calls Tryd.prog 10 #[] w fun e w' => e = .returned (.pointer (some ⟨w.heap.size + 2, 0, none⟩)) ∧ TB A w' (w.heap.size + 2) w.heap.size (w.heap.size + 1) [] Ty.v ∧ Below w.heap.size w w' := by
 refine (new_any w).mono ?_
 rintro e w' ⟨h1, h2, h3⟩
 refine ⟨h1, ⟨_, _, _, _, _, _, _, _, _, h2, ps_none (F := []) (fun u hu => by cases hu), ?_, Nat.zero_le _, HiF.nil, fun g hg ha => ?_⟩, h3⟩
 ·funext n
  show Ty.v (n : Int).toNat = _
  simp
 ·have h9 := hA g ha
  rcases hg with hg | hg | hg | hg
  ·exact hg
  ·omega
  ·omega
  ·omega
/-- Bounds of a type's own cells. -/
def Bd (x : Rw) : Prop := -9223372036854775808 ≤ x.V ∧ x.V ≤ 9223372036854775807 ∧ x.S.length ≤ maxLen
theorem vi_le {x : Rw} (h : x.V ≤ 9223372036854775807) (hl : ∀ v, v ∈ viL x.L → v ≤ 9223372036854775807) : ∀ v, v ∈ x.vi → v ≤ 9223372036854775807 := by
 obtain ⟨V, S, L⟩ := x
 intro v hv
 rw [Rw.vi] at hv
 split at hv
 ·exact hl v hv
 ·rw [List.mem_singleton.1 hv]; exact h
theorem mem_viL1 : ∀ {L : List Rw} {v : Int}, v ∈ viL L ↔ ∃ (k : Nat) (t : Rw), L[k]? = some t ∧ v ∈ t.vi
 | [], v => by simp [viL]
 | x :: l, v => by
  rw [viL, List.mem_append, mem_viL1 (L := l)]
  constructor
  ·rintro (h | ⟨k, t, h1, h2⟩)
   ·exact ⟨0, x, rfl, h⟩
   ·exact ⟨k + 1, t, by simpa using h1, h2⟩
  ·rintro ⟨k, t, h1, h2⟩
   match k, h1 with
   | 0, h1 => simp at h1; subst h1; exact Or.inl h2
   | k + 1, h1 => exact Or.inr ⟨k, t, by simpa using h1, h2⟩
theorem rt_vi {P : Nat → Prop} {w : World} {L : List Rw} {ao : Option Addr} (h : RT P w L ao) : ∀ v, v ∈ viL L → v ≤ 9223372036854775807 := by
 induction h with
 | mk aos cps h hv hr ih =>
  intro v hm
  obtain ⟨k, t, h1, h2⟩ := mem_viL1.1 hm
  exact vi_le (hv k t h1).2.1 (ih k t h1) v h2
theorem TB.lt (h : TB A w tb q r F ρ) : ∀ g, Own3 tb q r g → g < w.heap.size := by
 obtain ⟨O, K, nm, own, hi, σ, μ, R, d, h1, h2, h3, h4, h5, h6⟩ := h
 exact h1.own_lt
theorem TB.own (h : TB A w tb q r F ρ) : ∀ g, Own3 tb q r g → ¬ A g := by
 obtain ⟨O, K, nm, own, hi, σ, μ, R, d, h1, h2, h3, h4, h5, h6⟩ := h
 exact fun g hg => h6 g (Or.inr hg)
theorem TB.idem (h : TB A w tb q r F ρ) : Idem ρ := by
 obtain ⟨O, K, nm, own, hi, σ, μ, R, d, h1, h2, h3, h4, h5, h6⟩ := h
 rw [← h3]
 exact h2.idemN
theorem TB.only (h : TB A w tb q r F ρ) {S : Nat → Prop} {w' : World} (k : Only S w w') (hS : ∀ g, S g → A g) : TB A w' tb q r F ρ := by
 obtain ⟨O, K, nm, own, hi, σ, μ, R, d, h1, h2, h3, h4, h5, h6⟩ := h
 exact ⟨O, K, nm, own, hi, σ, μ, R, d, h1.only k (fun g hg => ⟨fun c => h6 g (Or.inl c) (hS g hg), fun c => h6 g (Or.inr c) (hS g hg)⟩), h2, h3, h4, h5, h6⟩
theorem TB.below (h : TB A w tb q r F ρ) {w' : World} (k : Below w.heap.size w w') : TB A w' tb q r F ρ := h.only (S := fun _ => False) (Only.of_below k) (fun g c => c.elim)
theorem TB.alloc (h : TB A w tb q r F ρ) (o : Obj) : TB A (w.alloc o) tb q r F ρ := h.below ((Below.refl _ _).alloc (Nat.le_refl _) o)
theorem TB.drew (h : TB A w tb q r F ρ) : TB A w.drew tb q r F ρ := h.below ⟨rfl, rfl, rfl, Nat.le_refl _, fun _ _ => rfl⟩
/-- What is kept off may be more, if that is new. -/
theorem TB.aug (h : TB A w tb q r F ρ) {A' : Nat → Prop} (k : ∀ g, A' g → A g ∨ w.heap.size ≤ g) : TB A' w tb q r F ρ := by
 obtain ⟨O, K, nm, own, hi, σ, μ, R, d, h1, h2, h3, h4, h5, h6⟩ := h
 refine ⟨O, K, nm, own, hi, σ, μ, R, d, h1, h2, h3, h4, h5, fun g hg ha => ?_⟩
 rcases k g ha with c | c
 ·exact h6 g hg c
 ·have := h1.new hg; omega
theorem hand_tb (h : TB A w tb q r F ρ) {L : List Rw} {ao : Option Addr} (hrt : RT (fun g => ¬ Own3 tb q r g) w L ao) (hm : mayL L = true) (hsz : szRL L ≤ 100000) (c : Nat) : Calls Tryd.prog 29 #[.pointer (some ⟨tb, 0, none⟩), .slice ao L.length c] w fun e w' => e = .returned (.bool true) ∧ TB A w' tb q r (F ++ viL L) ρ ∧ Only (Own3 tb q r) w w' := by
 obtain ⟨O, K, nm, own, hi, σ, μ, R, d, h1, h2, h3, h4, h5, h6⟩ := h
 refine (handed_any h1 hrt hm hsz c).mono ?_
 rintro e w' ⟨k1, k2, k3⟩
 refine ⟨k1, ⟨O, K, nm, own, _, σ, μ, R, d, k2, h2.grow (fun u hu => ⟨viL_pos L hm u hu, rt_vi hrt u hu⟩), h3, ?_, hiL L hm h5, h6⟩, k3⟩
 have := freeF_app F (viL L) R
 rw [List.length_append]
 omega
/-- A type whose variables were all handed. -/
def InF (F : List Int) (x : Rw) : Prop := x.may = true ∧ ∀ v, v ∈ x.vi → v ∈ F
theorem size_tb (h : TB A w tb q r F ρ) (hF : F.length ≤ 300000) {x : Rw} {ao : Option Addr} (c : Nat) (hx : InF F x) (hrt : RT (fun g => ¬ Own3 tb q r g) w x.L ao) {most : Nat} (hm : most ≤ 90000) : Calls Tryd.prog 30 #[.pointer (some ⟨tb, 0, none⟩), .agg #[.int .i64 x.V, .string ⟨x.S.toArray⟩, .slice ao x.L.length c], .int .i64 (most : Int)] w fun e w' => e = .returned (.int .i64 ((min (x.ty.ap ρ).sz (most + 1) : Nat) : Int)) ∧ TB A w' tb q r F ρ ∧ Only (Own3 tb q r) w w' := by
 obtain ⟨O, K, nm, own, hi, σ, μ, R, d, h1, h2, h3, h4, h5, h6⟩ := h
 refine (size_any (by omega) h1 h2 c (x.ok_vi hx.1 (fun v hv => Or.inl (hx.2 v hv))) hrt hm).mono ?_
 rintro e w' ⟨σ', μ', nm', k1, k2, k3, k4, k5⟩
 refine ⟨?_, ⟨O, K, nm', own, hi, σ', μ', R, d, k4, k3, h3, h4, h5, h6⟩, k5⟩
 rw [k1, rs_natR R hx.1, h3]
theorem vars_tb (h : TB A w tb q r F ρ) (hF : F.length ≤ 300000) {x : Rw} {ao : Option Addr} (c : Nat) (hx : InF F x) (hsz : x.sz ≤ 2000000) (hrt : RT (fun g => ¬ Own3 tb q r g) w x.L ao) : Calls Tryd.prog 33 #[.pointer (some ⟨tb, 0, none⟩), .agg #[.int .i64 x.V, .string ⟨x.S.toArray⟩, .slice ao x.L.length c]] w fun e w' => ∃ v, e = .returned v ∧ TB A w' tb q r F ρ ∧ Only (Own3 tb q r) w w' := by
 obtain ⟨O, K, nm, own, hi, σ, μ, R, d, h1, h2, h3, h4, h5, h6⟩ := h
 refine (vars_any (by omega) (by omega) h1 h2 c (x.ok_vi hx.1 (fun v hv => Or.inl (hx.2 v hv))) hsz hrt).mono ?_
 rintro e w' ⟨σ', μ', nm', v, l, k1, k2, k3, k4, k5, k6, _⟩
 exact ⟨v, k1, ⟨O, K, nm', own, hi, σ', μ', R, d, k4, k3, h3, h4, h5, h6⟩, k6⟩
def ResB (A : Nat → Prop) (tb q r : Nat) (F : List Int) (ρ : Nat → Ty) (t : Rw) (w : World) (e : Ending) (w' : World) : Prop := ∃ (al : Option Addr) (cp : Nat), e = .returned (.agg #[.int .i64 t.V, .string ⟨t.S.toArray⟩, .slice al t.L.length cp]) ∧ TB A w' tb q r F ρ ∧ RT (fun g => w.heap.size ≤ g) w' t.L al ∧ Only (Own3 tb q r) w w' ∧ Bd t
theorem res_tb (h : TB A w tb q r F ρ) (hF : F.length ≤ 300000) {x : Rw} {ao : Option Addr} (c : Nat) (hx : InF F x) (hsz : x.sz ≤ 100000) (hb : Bd x) (hrt : RT (fun g => ¬ Own3 tb q r g) w x.L ao) : Calls Tryd.prog 32 #[.pointer (some ⟨tb, 0, none⟩), .agg #[.int .i64 x.V, .string ⟨x.S.toArray⟩, .slice ao x.L.length c]] w fun e w' => ResB A tb q r F ρ (x.ty.ap ρ).rw w e w' := by
 obtain ⟨O, K, nm, own, hi, σ, μ, R, d, h1, h2, h3, h4, h5, h6⟩ := h
 have hs := sz_L x
 refine (res_any (by omega) _ σ w x ao c (Nat.le_refl _) (by omega) hb.2.2 h1 h2 (x.ok_vi hx.1 (fun v hv => Or.inl (hx.2 v hv))) hrt).mono ?_
 rintro e w' ⟨al, cp, σ', k1, k2, k3, k4, k5, k6, k7⟩
 rw [rs_natR R hx.1, h3] at k1 k5 k7
 exact ⟨al, cp, k1, ⟨O, K, nm, own, hi, σ', μ, R, d, k4, k3, h3, h4, h5, h6⟩, k5, k6, k7⟩
/-- What unify tells. -/
def UniB (A : Nat → Prop) (tb q r : Nat) (F : List Int) (ρ : Nat → Ty) (x y : Rw) (w : World) (e : Ending) (w' : World) : Prop := Only (Own3 tb q r) w w' ∧ ((∃ c, Un ρ [(x.ty, y.ty)] (.error c) ∧ e = .returned (.int .i64 (if c = 1 then 26 else 25))) ∨ ∃ ρ', Un ρ [(x.ty, y.ty)] (.ok ρ') ∧ e = .returned (.int .i64 0) ∧ TB A w' tb q r F ρ')
theorem un_in {ρ : Nat → Ty} (hi : Idem ρ) {s t : Ty} {e : Except Nat (Nat → Ty)} (h : Un ρ [(s.ap ρ, t.ap ρ)] e) : Un ρ [(s, t)] e := by
 refine un_alike h hi ?_
 show [((s.ap ρ).ap ρ, (t.ap ρ).ap ρ)] = [(s.ap ρ, t.ap ρ)]
 rw [hi.ap, hi.ap]
theorem uni_tb (hA : ∀ g, A g → g < w.heap.size) (h : TB A w tb q r F ρ) (hF : F.length ≤ 300000) {x y : Rw} {ao bo : Option Addr} (c d : Nat) (hx : InF F x) (hy : InF F y) (hsx : x.sz ≤ 1000) (hsy : y.sz ≤ 1000) (bx : Bd x) (by' : Bd y) (hrx : RT (fun g => ¬ Own3 tb q r g) w x.L ao) (hry : RT (fun g => ¬ Own3 tb q r g) w y.L bo) : Calls Tryd.prog 31 #[.pointer (some ⟨tb, 0, none⟩), .agg #[.int .i64 x.V, .string ⟨x.S.toArray⟩, .slice ao x.L.length c], .agg #[.int .i64 y.V, .string ⟨y.S.toArray⟩, .slice bo y.L.length d]] w fun e w' => UniB A tb q r F ρ x y w e w' := by
 have hid := h.idem
 obtain ⟨O, K, nm, own, hi, σ, μ, R, dd, h1, h2, h3, h4, h5, h6⟩ := h
 refine (uni_all (by omega) (freeF F R) ((x.rs R).sz + (y.rs R).sz) O K own nm R dd σ μ w x y ao bo c d (Or.inr ⟨Nat.le_refl _, Nat.le_refl _⟩) h1 h2 (x.ok_vi hx.1 (fun v hv => Or.inl (hx.2 v hv))) (y.ok_vi hy.1 (fun v hv => Or.inl (hy.2 v hv))) hsx hsy bx.2.2 by'.2.2 hrx hry (by omega)).mono ?_
 rintro e w' ⟨k1, k2⟩
 rw [rs_natR R hx.1, rs_natR R hy.1, h3] at k2
 refine ⟨k1, ?_⟩
 rcases k2 with ⟨c', k2, k3⟩ | ⟨K', own', nm', σ', R', d', O', μ', k2, k3, k4, k5, k6, k7, k8, k9⟩
 ·exact Or.inl ⟨c', un_in hid k2, k3⟩
 ·refine Or.inr ⟨natR R', un_in hid k2, k3, ⟨O', K', nm', own', hi, σ', μ', R', d', k6, k5, rfl, by omega, h5, fun g hg ha => ?_⟩⟩
  rcases hg with hg | hg
  ·rcases k8 g hg with h9 | h9
   ·exact h6 g (Or.inl h9) ha
   ·have := hA g ha; omega
  ·exact h6 g (Or.inr hg) ha
end
end Go.Proofs.YtnebhiaeechpaaaDoor
