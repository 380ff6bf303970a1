/-
 Layer 10, plain: a table's variable is named, two become one, a variable of the table's own is laid; how much is left to be known. No program is named.
-/
import Derived.Test.YtnebhiaeechpaaaDoorX10Tb
import Derived.Test.YtnebhiaeechpaaaDoorX10Ren
namespace Go.Proofs.YtnebhiaeechpaaaDoor
set_option linter.unusedVariables false
set_option linter.unusedSimpArgs false

/-- One place of what is known turned. -/
def upd (σ : Int → Option Rw) (v : Int) (z : Rw) (k : Int) : Option Rw := if k = v then some z else σ k
theorem upd_same (σ : Int → Option Rw) (v : Int) (z : Rw) : upd σ v z v = some z := if_pos rfl
theorem upd_other {σ : Int → Option Rw} {v k : Int} (z : Rw) (h : k ≠ v) : upd σ v z k = σ k := if_neg h
theorem okv_upd {F : List Int} {σ : Int → Option Rw} {v u : Int} (z : Rw) (h : OkV F σ u) : OkV F (upd σ v z) u := by
 rcases h with h | ⟨h1, h2⟩
 ·exact Or.inl h
 ·refine Or.inr ⟨h1, ?_⟩
  by_cases e : u = v
  ·rw [e, upd_same]; simp
  ·rw [upd_other z e]; exact h2
/-- A name all of whose parts are variables that there are. -/
def FlatN (F : List Int) (σ : Int → Option Rw) (z : Rw) : Prop := z.V = 0 ∧ (∀ y, y ∈ z.L → y = .mk y.V [] [] ∧ y.V ≠ 0 ∧ OkV F σ y.V) ∧ z.L.length ≤ 1000000 ∧ z.S.length ≤ 9223372036854775807
section
variable {F : List Int} {own : Nat} {σ : Int → Option Rw} {R : Int → Ty} {d : Int → Nat}
/-- One more number of the table's own. -/
theorem PS.more (h : PS F own σ R d) : PS F (own + 1) σ R d := ⟨h.pos, fun k z hk => (h.dom k z hk).imp id (fun h => ⟨by omega, h.2⟩), h.link, h.name, h.free⟩
/-- What one of the table's own is is laid. -/
def setR (R : Int → Ty) (v : Int) (t : Ty) (k : Int) : Ty := if k = v then t else R k
theorem PS.lay (h : PS F own σ R d) {v : Int} (hv : -(own : Int) ≤ v ∧ v < 0) (hn : σ v = none) {z : Rw} (hz : FlatN F σ z) : PS F own (upd σ v z) (setR R v (z.rs R)) d := by
 have hne : ∀ u, OkV F σ u → u ≠ v := fun u hu e => by
  rcases hu with h1 | ⟨_, h2⟩
  ·have := (h.pos u h1).1; omega
  ·rw [e] at h2; exact h2 hn
 have hR : ∀ u, OkV F σ u → setR R v (z.rs R) u = R u := fun u hu => if_neg (hne u hu)
 refine ⟨h.pos, fun k x hx => ?_, fun k x hx x0 => ?_, fun k x hx x0 => ?_, fun k hk hp => ?_⟩
 ·by_cases e : k = v
  ·subst e; exact Or.inr hv
  ·rw [upd_other z e] at hx; exact h.dom k x hx
 ·by_cases e : k = v
  ·subst e; rw [upd_same] at hx; cases hx; exact absurd hz.1 x0
  ·rw [upd_other z e] at hx
   obtain ⟨a1, a2, a3, a4⟩ := h.link k x hx x0
   refine ⟨a1, okv_upd z a2, ?_, a4⟩
   rw [hR _ a2]
   show (if k = v then _ else R k) = _
   rw [if_neg e, a3]
 ·by_cases e : k = v
  ·subst e
   rw [upd_same] at hx
   cases hx
   refine ⟨fun y hy => ?_, ?_, hz.2.2⟩
   ·obtain ⟨b1, b2, b3⟩ := hz.2.1 y hy
    exact ⟨b1, b2, okv_upd _ b3⟩
   ·show (if k = k then _ else R k) = _
    rw [if_pos rfl]
    refine ((rs_name R hz.1).trans (by rw [vars_rsL R hz.2.1])).trans ?_
    refine congrArg (Ty.c z.S) ?_
    exact List.map_congr_left (fun y hy => (hR _ (hz.2.1 y hy).2.2).symm)
  ·rw [upd_other z e] at hx
   obtain ⟨a1, a2, a3⟩ := h.name k x hx x0
   refine ⟨fun y hy => ⟨(a1 y hy).1, (a1 y hy).2.1, okv_upd _ (a1 y hy).2.2⟩, ?_, a3⟩
   show (if k = v then _ else R k) = _
   rw [if_neg e, a2]
   congr 1
   exact List.map_congr_left (fun y hy => (hR _ (a1 y hy).2.2).symm)
 ·by_cases e : k = v
  ·omega
  ·rw [upd_other z e] at hk
   show (if k = v then _ else R k) = _
   rw [if_neg e]
   exact h.free k hk hp
/-- What all comes to when a variable is named. -/
def nameR (R : Int → Ty) (v : Int) (x : Ty) (k : Int) : Ty := (R k).ap (oneT v.toNat x)
/-- A variable of which nothing is known is another one, or a name. -/
theorem PS.learn (h : PS F own σ R d) {v : Int} (hv : v ∈ F) (hn : σ v = none) {z : Rw} (hz : FlatN F σ z ∨ (z = .mk z.V [] [] ∧ z.V ≠ 0 ∧ OkV F σ z.V)) (ho : ¬ (z.rs R).occ v.toNat) : ∃ d', PS F own (upd σ v z) (nameR R v (z.rs R)) d' := by
 have hp := h.pos v hv
 have hvn : ((v.toNat : Nat) : Int) = v := Int.toNat_of_nonneg (by omega)
 have hRv := h.free v hn (by omega)
 have hX : (z.rs R).ap (oneT v.toNat (z.rs R)) = z.rs R := oneT_skip ho
 have hself : nameR R v (z.rs R) v = z.rs R := by
  show (R v).ap _ = _
  rw [hRv, Ty.ap, oneT_same]
 have key : ∀ u, OkV F σ u → ¬ (R u).occ v.toNat → nameR R v (z.rs R) u = R u := fun u _ hno => oneT_skip hno
 refine ⟨fun k => d k + (open Classical in if (R k).occ v.toNat then d z.V + 1 else 0), h.pos, fun k x hx => ?_, fun k x hx x0 => ?_, fun k x hx x0 => ?_, fun k hk hp => ?_⟩
 ·by_cases e : k = v
  ·subst e; exact Or.inl hv
  ·rw [upd_other z e] at hx; exact h.dom k x hx
 ·by_cases e : k = v
  ·subst e
   rw [upd_same] at hx
   cases hx
   rcases hz with hz | ⟨z1, z2, z3⟩
   ·exact absurd hz.1 x0
   ·have hno : ¬ (R z.V).occ k.toNat := by rw [← rs_var R z2]; exact ho
    have hyes : (R k).occ k.toNat := by rw [hRv]; rfl
    refine ⟨z1, okv_upd _ z3, ?_, ?_⟩
    ·rw [hself, key _ z3 hno, rs_var R z2]
    ·simp only [if_neg hno, if_pos hyes]; omega
  ·rw [upd_other z e] at hx
   obtain ⟨a1, a2, a3, a4⟩ := h.link k x hx x0
   refine ⟨a1, okv_upd z a2, ?_, ?_⟩
   ·show (R k).ap _ = (R x.V).ap _
    rw [a3]
   ·rw [a3]
    split <;> omega
 ·by_cases e : k = v
  ·subst e
   rw [upd_same] at hx
   cases hx
   rcases hz with hz | ⟨z1, z2, z3⟩
   ·refine ⟨fun y hy => ?_, ?_, hz.2.2⟩
    ·obtain ⟨b1, b2, b3⟩ := hz.2.1 y hy
     exact ⟨b1, b2, okv_upd _ b3⟩
    ·rw [hself]
     refine ((rs_name R hz.1).trans (by rw [vars_rsL R hz.2.1])).trans ?_
     refine congrArg (Ty.c z.S) ?_
     refine List.map_congr_left (fun y hy => (key y.V (hz.2.1 y hy).2.2 (fun c => ho ?_)).symm)
     rw [rs_name R hz.1, vars_rsL R hz.2.1, Ty.occ, occL_mem]
     exact ⟨_, List.mem_map_of_mem hy, c⟩
   ·exact absurd x0 z2
  ·rw [upd_other z e] at hx
   obtain ⟨a1, a2, a3⟩ := h.name k x hx x0
   refine ⟨fun y hy => ⟨(a1 y hy).1, (a1 y hy).2.1, okv_upd _ (a1 y hy).2.2⟩, ?_, a3⟩
   show (R k).ap _ = _
   rw [a2, Ty.ap, apL_map, List.map_map]
   rfl
 ·by_cases e : k = v
  ·rw [e, upd_same] at hk; cases hk
  ·rw [upd_other z e] at hk
   show (R k).ap _ = _
   rw [h.free k hk hp, Ty.ap, oneT_other]
   omega
/-- Two names that have become the same are one. -/
theorem PS.join (h : PS F own σ R d) {u v : Int} (hu : OkV F σ u) (hv : OkV F σ v) {y z : Rw} (hy : σ u = some y) (hz : σ v = some z) (y0 : y.V = 0) (z0 : z.V = 0) (hne : u ≠ v) (he : R u = R v) : ∃ d', PS F own (upd σ u (.mk v [] [])) R d' := by
 have v0 : v ≠ 0 := h.nz hv
 -- what leads to u
 let L : Int → Prop := fun k => ∃ j, (fun i => Nat.rec (motive := fun _ => Int) k (fun _ c => match σ c with | some x => if x.V = 0 then c else x.V | none => c) i) j = u
 have hL : ∀ k x, σ k = some x → x.V ≠ 0 → k ≠ u → (L k ↔ L x.V) := by
  intro k x hx x0 hk
  have step : ∀ i, (Nat.rec (motive := fun _ => Int) k (fun _ c => match σ c with | some x => if x.V = 0 then c else x.V | none => c) (i + 1) : Int) = Nat.rec (motive := fun _ => Int) x.V (fun _ c => match σ c with | some x => if x.V = 0 then c else x.V | none => c) i := by
   intro i
   induction i with
   | zero => show (match σ k with | some x => if x.V = 0 then k else x.V | none => k) = x.V; rw [hx]; exact if_neg x0
   | succ i ih =>
    show (match σ (Nat.rec (motive := fun _ => Int) k (fun _ c => match σ c with | some x => if x.V = 0 then c else x.V | none => c) (i + 1)) with | some x => if x.V = 0 then _ else x.V | none => _) = _
    rw [ih]
  constructor
  ·rintro ⟨j, hj⟩
   cases j with
   | zero => exact absurd hj hk
   | succ j => exact ⟨j, (step j).symm.trans hj⟩
  ·rintro ⟨j, hj⟩
   exact ⟨j + 1, (step j).trans hj⟩
 have hLu : L u := ⟨0, rfl⟩
 have hLv : ¬ L v := by
  rintro ⟨j, hj⟩
  have : ∀ i, (Nat.rec (motive := fun _ => Int) v (fun _ c => match σ c with | some x => if x.V = 0 then c else x.V | none => c) i : Int) = v := by
   intro i
   induction i with
   | zero => rfl
   | succ i ih =>
    show (match σ (Nat.rec (motive := fun _ => Int) v (fun _ c => match σ c with | some x => if x.V = 0 then c else x.V | none => c) i) with | some x => if x.V = 0 then _ else x.V | none => _) = _
    rw [ih, hz]
    exact if_pos z0
  exact hne ((this j).symm.trans hj).symm
 obtain ⟨M, hM⟩ : ∃ M : Int → Nat, ∀ k, (L k → M k = d v + 1) ∧ (¬ L k → M k = 0) := ⟨fun k => (open Classical in if L k then d v + 1 else 0), fun k => ⟨fun c => if_pos c, fun c => if_neg c⟩⟩
 refine ⟨fun k => d k + M k, h.pos, fun k x hx => ?_, fun k x hx x0 => ?_, fun k x hx x0 => ?_, fun k hk hp => ?_⟩
 ·by_cases e : k = u
  ·subst e; exact h.dom k y hy
  ·rw [upd_other _ e] at hx; exact h.dom k x hx
 ·by_cases e : k = u
  ·subst e
   rw [upd_same] at hx
   cases hx
   refine ⟨rfl, okv_upd _ hv, he, ?_⟩
   show d v + M v < d k + M k
   rw [(hM v).2 hLv, (hM k).1 hLu]
   omega
  ·rw [upd_other _ e] at hx
   obtain ⟨a1, a2, a3, a4⟩ := h.link k x hx x0
   refine ⟨a1, okv_upd _ a2, a3, ?_⟩
   have := hL k x hx x0 e
   show d x.V + M x.V < d k + M k
   by_cases c : L k
   ·rw [(hM k).1 c, (hM x.V).1 (this.1 c)]; omega
   ·rw [(hM k).2 c, (hM x.V).2 (fun c2 => c (this.2 c2))]; omega
 ·by_cases e : k = u
  ·subst e
   rw [upd_same] at hx
   cases hx
   exact absurd x0 v0
  ·rw [upd_other _ e] at hx
   obtain ⟨a1, a2, a3⟩ := h.name k x hx x0
   exact ⟨fun y hy => ⟨(a1 y hy).1, (a1 y hy).2.1, okv_upd _ (a1 y hy).2.2⟩, a2, a3⟩
 ·by_cases e : k = u
  ·subst e; rw [upd_same] at hk; cases hk
  ·rw [upd_other _ e] at hk; exact h.free k hk hp
end
/-- How many of those that were handed nothing is known of. -/
def isFree (R : Int → Ty) (k : Int) : Bool := match R k with
 | .v n => n == k.toNat
 | .c _ _ => false
def freeF (F : List Int) (R : Int → Ty) : Nat := F.countP (isFree R)
theorem isFree_yes {R : Int → Ty} {k : Int} (h : R k = .v k.toNat) : isFree R k = true := by unfold isFree; rw [h]; simp
theorem isFree_v {R : Int → Ty} {k : Int} (h : isFree R k = true) : R k = .v k.toNat := by
 unfold isFree at h
 cases hr : R k with
 | v n => rw [hr] at h; simp at h; rw [h]
 | c s l => rw [hr] at h; cases h
theorem countP_mono {p q : Int → Bool} : ∀ (l : List Int), (∀ k, k ∈ l → q k = true → p k = true) → l.countP q ≤ l.countP p
 | [], _ => Nat.le_refl _
 | x :: l, h => by
  have ih := countP_mono l (fun k hk => h k (List.mem_cons_of_mem _ hk))
  rw [List.countP_cons, List.countP_cons]
  by_cases c : q x = true
  ·rw [if_pos c, if_pos (h x List.mem_cons_self c)]; omega
  ·rw [if_neg c]; split <;> omega
theorem countP_less {p q : Int → Bool} : ∀ (l : List Int), (∀ k, k ∈ l → q k = true → p k = true) → (∃ k, k ∈ l ∧ p k = true ∧ q k = false) → l.countP q + 1 ≤ l.countP p
 | [], _, ⟨k, h, _⟩ => by cases h
 | x :: l, h, ⟨k, hk, hp, hq⟩ => by
  rw [List.countP_cons, List.countP_cons]
  rcases List.mem_cons.1 hk with rfl | hk
  ·have := countP_mono l (fun j hj => h j (List.mem_cons_of_mem _ hj))
   rw [if_pos hp, if_neg (by rw [hq]; simp)]
   omega
  ·have ih := countP_less l (fun j hj => h j (List.mem_cons_of_mem _ hj)) ⟨k, hk, hp, hq⟩
   by_cases c : q x = true
   ·rw [if_pos c, if_pos (h x List.mem_cons_self c)]; omega
   ·rw [if_neg c]; split <;> omega
section
variable {F : List Int} {own : Nat} {σ : Int → Option Rw} {R : Int → Ty} {d : Int → Nat}
/-- A variable is named: fewer are left. -/
theorem PS.fewer (h : PS F own σ R d) {v : Int} (hv : v ∈ F) (hn : σ v = none) {x : Rw} (hx : x.ok (OkV F σ)) (ho : ¬ (x.rs R).occ v.toNat) : freeF F (nameR R v (x.rs R)) + 1 ≤ freeF F R := by
 have hp := h.pos v hv
 have hRv := h.free v hn (by omega)
 refine countP_less F (fun k hk hf => ?_) ⟨v, hv, isFree_yes hRv, ?_⟩
 ·have hkp := h.pos k hk
  have e := isFree_v hf
  refine isFree_yes ?_
  have e' : (R k).ap (oneT v.toNat (x.rs R)) = .v k.toNat := e
  cases hr : R k with
  | c s l => rw [hr, Ty.ap] at e'; cases e'
  | v m =>
   rw [hr, Ty.ap] at e'
   by_cases c : m = v.toNat
   ·rw [c, oneT_same] at e'
    -- then k is free, and so it is m
    obtain ⟨_, h2⟩ := h.occ_rs x hx (n := k.toNat) (by rw [e']; rfl)
    rw [Int.toNat_of_nonneg (by omega)] at h2
    have h3 := h.free k h2 (by omega)
    rw [hr] at h3
    exact h3
   ·rw [oneT_other _ c] at e'
    exact e'
 ·cases hf : isFree (nameR R v (x.rs R)) v with
  | false => rfl
  | true =>
   have e := isFree_v hf
   have e' : (R v).ap (oneT v.toNat (x.rs R)) = .v v.toNat := e
   rw [hRv, Ty.ap, oneT_same] at e'
   rw [e'] at ho
   exact absurd rfl ho
end
end Go.Proofs.YtnebhiaeechpaaaDoor
