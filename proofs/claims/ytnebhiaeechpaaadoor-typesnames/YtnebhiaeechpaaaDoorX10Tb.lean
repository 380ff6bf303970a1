/-
 Layer 10, plain: a table whose variables lead to others or to names of variables, some of them its own; what each comes to. No program is named.
-/
import Derived.Test.YtnebhiaeechpaaaDoorX10Raw
namespace Go.Proofs.YtnebhiaeechpaaaDoor
set_option linter.unusedVariables false
set_option linter.unusedSimpArgs false

mutual
/-- What a node comes to, if each variable comes to what is told. -/
def Rw.rs (R : Int → Ty) : Rw → Ty
 | .mk v s l => if v = 0 then .c s (rsL R l) else R v
def rsL (R : Int → Ty) : List Rw → List Ty
 | [] => []
 | x :: l => x.rs R :: rsL R l
end
theorem rsL_map (R : Int → Ty) : ∀ l : List Rw, rsL R l = l.map (Rw.rs R)
 | [] => rfl
 | x :: l => by rw [rsL, rsL_map R l]; rfl
theorem rsL_len (R : Int → Ty) (l : List Rw) : (rsL R l).length = l.length := by rw [rsL_map, List.length_map]
theorem rs_var (R : Int → Ty) {x : Rw} (h : x.V ≠ 0) : x.rs R = R x.V := by
 obtain ⟨V, S, L⟩ := x
 rw [Rw.rs]
 exact if_neg h
theorem rs_name (R : Int → Ty) {x : Rw} (h : x.V = 0) : x.rs R = .c x.S (rsL R x.L) := by
 obtain ⟨V, S, L⟩ := x
 rw [Rw.rs]
 exact if_pos h
mutual
/-- A type that may be is what its variables come to. -/
theorem Rw.rs_may (R : Int → Ty) : ∀ (x : Rw), x.may = true → x.rs R = x.ty.ap (fun n => R (n : Int))
 | .mk v s l, h => by
  rcases may_parts h with ⟨h1, rfl, rfl⟩ | ⟨rfl, h2, h3⟩
  ·rw [Rw.rs, if_neg (by omega), Rw.ty, if_pos h1, Ty.ap]
   show R v = R ((v.toNat : Nat) : Int)
   rw [Int.toNat_of_nonneg (by omega)]
  ·rw [Rw.rs, if_pos rfl, Rw.ty, if_neg (by omega), Ty.ap, rsL_may R l h3]
theorem rsL_may (R : Int → Ty) : ∀ (l : List Rw), mayL l = true → rsL R l = apL (fun n => R (n : Int)) (tyL l)
 | [], h => by rw [rsL, tyL, apL]
 | x :: l, h => by
  rw [mayL, Bool.and_eq_true] at h
  rw [rsL, tyL, apL, x.rs_may R h.1, rsL_may R l h.2]
end
/-- A variable that there is: one that was handed, or one of the table's own of which something is known. -/
def OkV (F : List Int) (σ : Int → Option Rw) (u : Int) : Prop := u ∈ F ∨ (u < 0 ∧ σ u ≠ none)
mutual
/-- A node all of whose variables there are. -/
def Rw.ok (O : Int → Prop) : Rw → Prop
 | .mk v s l => (v ≠ 0 ∧ O v ∧ s = [] ∧ l = []) ∨ (v = 0 ∧ okL O l)
def okL (O : Int → Prop) : List Rw → Prop
 | [] => True
 | x :: l => x.ok O ∧ okL O l
end
theorem okL_mem {O : Int → Prop} : ∀ {l : List Rw}, okL O l ↔ ∀ x, x ∈ l → x.ok O
 | [] => ⟨(fun _ x h => by cases h), (fun _ => trivial)⟩
 | y :: l => by
  rw [okL, okL_mem]
  constructor
  ·rintro ⟨h1, h2⟩ x hx
   rcases List.mem_cons.1 hx with rfl | hx
   ·exact h1
   ·exact h2 x hx
  ·intro h
   exact ⟨h y List.mem_cons_self, fun x hx => h x (List.mem_cons_of_mem _ hx)⟩
theorem ok_var {O : Int → Prop} {x : Rw} (h : x.ok O) (hv : x.V ≠ 0) : O x.V ∧ x = .mk x.V [] [] := by
 obtain ⟨V, S, L⟩ := x
 rw [Rw.ok] at h
 rcases h with ⟨_, h1, rfl, rfl⟩ | ⟨h1, _⟩
 ·exact ⟨h1, rfl⟩
 ·exact absurd h1 hv
theorem ok_name {O : Int → Prop} {x : Rw} (h : x.ok O) (hv : x.V = 0) : okL O x.L := by
 obtain ⟨V, S, L⟩ := x
 rw [Rw.ok] at h
 rcases h with ⟨h1, _⟩ | ⟨_, h1⟩
 ·exact absurd hv h1
 ·exact h1
theorem ok_mk {O : Int → Prop} {u : Int} (h0 : u ≠ 0) (h : O u) : (Rw.mk u [] []).ok O := by
 rw [Rw.ok]
 exact Or.inl ⟨h0, h, rfl, rfl⟩
mutual
theorem Rw.ok_mono {O O' : Int → Prop} (h : ∀ u, O u → O' u) : ∀ (x : Rw), x.ok O → x.ok O'
 | .mk v s l, hx => by
  rw [Rw.ok] at hx ⊢
  rcases hx with ⟨h1, h2, h3⟩ | ⟨h1, h2⟩
  ·exact Or.inl ⟨h1, h v h2, h3⟩
  ·exact Or.inr ⟨h1, okL_mono h l h2⟩
theorem okL_mono {O O' : Int → Prop} (h : ∀ u, O u → O' u) : ∀ (l : List Rw), okL O l → okL O' l
 | [], _ => trivial
 | x :: l, hx => by rw [okL] at hx ⊢; exact ⟨x.ok_mono h hx.1, okL_mono h l hx.2⟩
end
mutual
/-- What two that agree on the variables that there are make of a node is the same. -/
theorem Rw.rs_congr {O : Int → Prop} {R R' : Int → Ty} (h : ∀ u, O u → R u = R' u) : ∀ (x : Rw), x.ok O → x.rs R = x.rs R'
 | .mk v s l, hx => by
  rw [Rw.ok] at hx
  rw [Rw.rs, Rw.rs]
  rcases hx with ⟨h1, h2, _⟩ | ⟨h1, h2⟩
  ·rw [if_neg h1, if_neg h1, h v h2]
  ·rw [if_pos h1, if_pos h1, rsL_congr h l h2]
theorem rsL_congr {O : Int → Prop} {R R' : Int → Ty} (h : ∀ u, O u → R u = R' u) : ∀ (l : List Rw), okL O l → rsL R l = rsL R' l
 | [], _ => by rw [rsL, rsL]
 | x :: l, hx => by rw [okL] at hx; rw [rsL, rsL, x.rs_congr h hx.1, rsL_congr h l hx.2]
end
mutual
/-- What is known more of each variable is known more of the node. -/
theorem Rw.rs_ap {O : Int → Prop} {R R' : Int → Ty} {t : Nat → Ty} (h : ∀ u, O u → R' u = (R u).ap t) : ∀ (x : Rw), x.ok O → x.rs R' = (x.rs R).ap t
 | .mk v s l, hx => by
  rw [Rw.ok] at hx
  rw [Rw.rs, Rw.rs]
  rcases hx with ⟨h1, h2, _⟩ | ⟨h1, h2⟩
  ·rw [if_neg h1, if_neg h1, h v h2]
  ·rw [if_pos h1, if_pos h1, Ty.ap, rsL_ap h l h2]
theorem rsL_ap {O : Int → Prop} {R R' : Int → Ty} {t : Nat → Ty} (h : ∀ u, O u → R' u = (R u).ap t) : ∀ (l : List Rw), okL O l → rsL R' l = apL t (rsL R l)
 | [], _ => by rw [rsL, rsL, apL]
 | x :: l, hx => by rw [okL] at hx; rw [rsL, rsL, apL, x.rs_ap h hx.1, rsL_ap h l hx.2]
end
/-- R is what each variable comes to; d falls where a variable is another one. -/
structure PS (F : List Int) (own : Nat) (σ : Int → Option Rw) (R : Int → Ty) (d : Int → Nat) : Prop where
 pos : ∀ u, u ∈ F → 0 < u ∧ u ≤ 9223372036854775807
 dom : ∀ k z, σ k = some z → k ∈ F ∨ (-(own : Int) ≤ k ∧ k < 0)
 link : ∀ k z, σ k = some z → z.V ≠ 0 → z = .mk z.V [] [] ∧ OkV F σ z.V ∧ R k = R z.V ∧ d z.V < d k
 name : ∀ k z, σ k = some z → z.V = 0 → (∀ y, y ∈ z.L → y = .mk y.V [] [] ∧ y.V ≠ 0 ∧ OkV F σ y.V) ∧ R k = .c z.S (z.L.map (fun y => R y.V)) ∧ z.L.length ≤ 1000000 ∧ z.S.length ≤ 9223372036854775807
 free : ∀ k, σ k = none → 0 ≤ k → R k = .v k.toNat
/-- The end of a way. -/
def End (σ : Int → Option Rw) (k : Int) : Prop := ∀ z, σ k = some z → z.V = 0
/-- Ways that are shorter, perhaps; nothing else. -/
structure Cmp (σ σ' : Int → Option Rw) : Prop where
 none : ∀ k, σ' k = none ↔ σ k = none
 name : ∀ k z, σ k = some z → z.V = 0 → σ' k = some z
 link : ∀ k z, σ k = some z → z.V ≠ 0 → ∃ z', σ' k = some z' ∧ z'.V ≠ 0
theorem Cmp.refl (σ : Int → Option Rw) : Cmp σ σ := ⟨fun _ => Iff.rfl, fun _ _ h _ => h, fun k z h h0 => ⟨z, h, h0⟩⟩
theorem Cmp.trans {σ σ' σ'' : Int → Option Rw} (h : Cmp σ σ') (k : Cmp σ' σ'') : Cmp σ σ'' := by
 refine ⟨fun j => (k.none j).trans (h.none j), fun j z hz h0 => k.name j z (h.name j z hz h0) h0, fun j z hz h0 => ?_⟩
 obtain ⟨z', h1, h2⟩ := h.link j z hz h0
 exact k.link j z' h1 h2
theorem Cmp.okv {F : List Int} {σ σ' : Int → Option Rw} (h : Cmp σ σ') {u : Int} : OkV F σ' u ↔ OkV F σ u := by
 unfold OkV
 have := h.none u
 constructor
 ·rintro (h1 | ⟨h1, h2⟩)
  ·exact Or.inl h1
  ·exact Or.inr ⟨h1, fun c => h2 (this.2 c)⟩
 ·rintro (h1 | ⟨h1, h2⟩)
  ·exact Or.inl h1
  ·exact Or.inr ⟨h1, fun c => h2 (this.1 c)⟩
theorem Cmp.end_ {σ σ' : Int → Option Rw} (h : Cmp σ σ') {u : Int} (he : End σ u) : End σ' u := by
 intro z hz
 cases hs : σ u with
 | none => rw [(h.none u).2 hs] at hz; cases hz
 | some y =>
  have h0 := he y hs
  rw [h.name u y hs h0] at hz
  cases hz
  exact h0
theorem Cmp.ok {F : List Int} {σ σ' : Int → Option Rw} (h : Cmp σ σ') {x : Rw} (hx : x.ok (OkV F σ)) : x.ok (OkV F σ') := x.ok_mono (fun u hu => h.okv.2 hu) hx
section
variable {F : List Int} {own : Nat} {σ : Int → Option Rw} {R : Int → Ty} {d : Int → Nat}
/-- Nothing is known. -/
theorem ps_none (hF : ∀ u, u ∈ F → 0 < u ∧ u ≤ 9223372036854775807) : PS F 0 (fun _ => none) (fun k => .v k.toNat) (fun _ => 0) :=
 ⟨hF, fun k z h => (by cases h), fun k z h => (by cases h), fun k z h => (by cases h), fun k _ _ => rfl⟩
theorem PS.zero (h : PS F own σ R d) : σ 0 = none := by
 cases hs : σ 0 with
 | none => rfl
 | some z =>
  rcases h.dom 0 z hs with h1 | h1
  ·have := (h.pos 0 h1).1; omega
  ·omega
theorem PS.nz (h : PS F own σ R d) {u : Int} (hu : OkV F σ u) : u ≠ 0 := by
 rcases hu with h1 | ⟨h1, _⟩
 ·have := (h.pos u h1).1; omega
 ·omega
theorem PS.rng (h : PS F own σ R d) {u : Int} (hu : OkV F σ u) : -(own : Int) ≤ u ∧ u ≤ 9223372036854775807 := by
 rcases hu with h1 | ⟨h1, h2⟩
 ·have := h.pos u h1; omega
 ·cases hs : σ u with
  | none => exact absurd hs h2
  | some z =>
   rcases h.dom u z hs with h3 | h3
   ·have := h.pos u h3; omega
   ·omega
theorem PS.in_F (h : PS F own σ R d) {u : Int} (hu : OkV F σ u) (hs : σ u = none) : u ∈ F := by
 rcases hu with h1 | ⟨_, h2⟩
 ·exact h1
 ·exact absurd hs h2
/-- A name of variables comes to the name of what they come to. -/
theorem vars_rsL {F : List Int} {σ : Int → Option Rw} : ∀ {l : List Rw} (R : Int → Ty), (∀ y, y ∈ l → y = .mk y.V [] [] ∧ y.V ≠ 0 ∧ OkV F σ y.V) → rsL R l = l.map (fun y => R y.V)
 | [], R, _ => rfl
 | y :: l, R, h => by
  have h1 := h y List.mem_cons_self
  rw [rsL, rs_var R h1.2.1, vars_rsL R (fun z hz => h z (List.mem_cons_of_mem _ hz))]
  rfl
theorem PS.rs_known (h : PS F own σ R d) {k : Int} {z : Rw} (hs : σ k = some z) : z.rs R = R k ∧ z.ok (OkV F σ) := by
 by_cases h0 : z.V = 0
 ·obtain ⟨h1, h2, _⟩ := h.name k z hs h0
  refine ⟨?_, ?_⟩
  ·rw [rs_name R h0, vars_rsL R h1, h2]
  ·obtain ⟨V, S, L⟩ := z
   rw [Rw.ok]
   exact Or.inr ⟨h0, okL_mem.2 (fun y hy => by
    obtain ⟨e, e0, eo⟩ := h1 y hy
    rw [e]
    exact ok_mk e0 eo)⟩
 ·obtain ⟨h1, h2, h3, _⟩ := h.link k z hs h0
  refine ⟨?_, ?_⟩
  ·rw [rs_var R h0, h3]
  ·rw [h1]; exact ok_mk h0 h2
theorem szL_mem : ∀ {l : List Ty} {x : Ty}, x ∈ l → x.sz ≤ szL l
 | [], x, h => by cases h
 | y :: l, x, h => by
  rw [szL]
  rcases List.mem_cons.1 h with rfl | h
  ·omega
  ·have := szL_mem h; omega
/-- What stands in what a variable comes to was handed, and nothing is known of it. -/
theorem PS.occ (h : PS F own σ R d) : ∀ (s e : Nat) (k : Int), OkV F σ k → (R k).sz ≤ s → d k ≤ e → ∀ n : Nat, (R k).occ n → (n : Int) ∈ F ∧ σ (n : Int) = none := by
 intro s
 induction s with
 | zero => intro e k _ hs; have := (R k).sz_pos; omega
 | succ s ihs =>
  intro e
  induction e with
  | zero =>
   intro k hk hs he n ho
   cases hz : σ k with
   | none =>
    have hF := h.in_F hk hz
    have hp := (h.pos k hF).1
    have e1 := h.free k hz (by omega)
    rw [e1, Ty.occ] at ho
    have : (n : Int) = k := by omega
    rw [this]
    exact ⟨hF, hz⟩
   | some z =>
    by_cases h0 : z.V = 0
    ·obtain ⟨h1, h2, _⟩ := h.name k z hz h0
     rw [h2, Ty.occ, occL_mem] at ho
     obtain ⟨x, hx, hx2⟩ := ho
     obtain ⟨y, hy, rfl⟩ := List.mem_map.1 hx
     have hsz := szL_mem hx
     rw [h2, Ty.sz] at hs
     exact ihs _ y.V (h1 y hy).2.2 (by omega) (Nat.le_refl _) n hx2
    ·have := (h.link k z hz h0).2.2.2
     omega
  | succ e ihe =>
   intro k hk hs he n ho
   cases hz : σ k with
   | none =>
    have hF := h.in_F hk hz
    have hp := (h.pos k hF).1
    have e1 := h.free k hz (by omega)
    rw [e1, Ty.occ] at ho
    have : (n : Int) = k := by omega
    rw [this]
    exact ⟨hF, hz⟩
   | some z =>
    by_cases h0 : z.V = 0
    ·obtain ⟨h1, h2, _⟩ := h.name k z hz h0
     rw [h2, Ty.occ, occL_mem] at ho
     obtain ⟨x, hx, hx2⟩ := ho
     obtain ⟨y, hy, rfl⟩ := List.mem_map.1 hx
     have hsz := szL_mem hx
     rw [h2, Ty.sz] at hs
     exact ihs _ y.V (h1 y hy).2.2 (by omega) (Nat.le_refl _) n hx2
    ·obtain ⟨_, h2, h3, h4⟩ := h.link k z hz h0
     rw [h3] at ho hs
     exact ihe z.V h2 hs (by omega) n ho
theorem PS.occ_free (h : PS F own σ R d) {k : Int} (hk : OkV F σ k) {n : Nat} (ho : (R k).occ n) : (n : Int) ∈ F ∧ σ (n : Int) = none := h.occ _ _ k hk (Nat.le_refl _) (Nat.le_refl _) n ho
mutual
theorem PS.occ_rs (h : PS F own σ R d) : ∀ (x : Rw), x.ok (OkV F σ) → ∀ {n : Nat}, (x.rs R).occ n → (n : Int) ∈ F ∧ σ (n : Int) = none
 | .mk v s l, hx, n, ho => by
  rw [Rw.ok] at hx
  rw [Rw.rs] at ho
  rcases hx with ⟨h1, h2, _⟩ | ⟨h1, h2⟩
  ·rw [if_neg h1] at ho
   exact h.occ_free h2 ho
  ·rw [if_pos h1, Ty.occ] at ho
   exact h.occ_rsL l h2 ho
theorem PS.occ_rsL (h : PS F own σ R d) : ∀ (l : List Rw), okL (OkV F σ) l → ∀ {n : Nat}, occL n (rsL R l) → (n : Int) ∈ F ∧ σ (n : Int) = none
 | [], _, n, ho => by rw [rsL] at ho; cases ho
 | x :: l, hx, n, ho => by
  rw [okL] at hx
  rw [rsL] at ho
  rcases ho with ho | ho
  ·exact h.occ_rs x hx.1 ho
  ·exact h.occ_rsL l hx.2 ho
end
/-- What is told is told as far as it is known. -/
theorem PS.idem (h : PS F own σ R d) : Idem (fun n => R (n : Int)) := by
 intro n
 by_cases c : (n : Int) ∈ F
 ·refine Ty.ap_id _ (fun m hm => ?_)
  obtain ⟨_, h2⟩ := h.occ_free (Or.inl c) hm
  exact h.free (m : Int) h2 (by omega)
 ·have e : σ (n : Int) = none := by
   cases hs : σ (n : Int) with
   | none => rfl
   | some z =>
    rcases h.dom _ z hs with h1 | h1
    ·exact absurd h1 c
    ·omega
  have e1 := h.free (n : Int) e (by omega)
  show (R (n : Int)).ap _ = R (n : Int)
  rw [e1, Ty.ap]
  exact e1
theorem PS.idem_rs (h : PS F own σ R d) {x : Rw} (hx : x.ok (OkV F σ)) : (x.rs R).ap (fun n => R (n : Int)) = x.rs R := by
 refine Ty.ap_id _ (fun m hm => ?_)
 obtain ⟨_, h2⟩ := h.occ_rs x hx hm
 exact h.free (m : Int) h2 (by omega)
/-- At an end: nothing is known, or a name is. -/
theorem PS.at_end (h : PS F own σ R d) {u : Int} (hu : OkV F σ u) (he : End σ u) : (σ u = none ∧ u ∈ F ∧ R u = .v u.toNat) ∨ (∃ z, σ u = some z ∧ z.V = 0 ∧ R u = .c z.S (rsL R z.L) ∧ okL (OkV F σ) z.L) := by
 cases hs : σ u with
 | none =>
  have hF := h.in_F hu hs
  exact Or.inl ⟨rfl, hF, h.free u hs (by have := (h.pos u hF).1; omega)⟩
 | some z =>
  have h0 := he z hs
  obtain ⟨h1, h2⟩ := h.rs_known hs
  exact Or.inr ⟨z, rfl, h0, by rw [← h1, rs_name R h0], ok_name h2 h0⟩
/-- A way is made shorter. -/
theorem PS.shorter (h : PS F own σ R d) {v : Int} {y z : Rw} (hy : σ v = some y) (y0 : y.V ≠ 0) (hz : σ y.V = some z) (z0 : z.V ≠ 0) :
  PS F own (fun k => if k = v then some z else σ k) R d ∧ Cmp σ (fun k => if k = v then some z else σ k) := by
 obtain ⟨_, o1, r1, d1⟩ := h.link v y hy y0
 obtain ⟨e2, o2, r2, d2⟩ := h.link y.V z hz z0
 have hc : Cmp σ (fun k => if k = v then some z else σ k) := by
  refine ⟨fun k => ?_, fun k x hx x0 => ?_, fun k x hx x0 => ?_⟩
  ·by_cases e : k = v
   ·subst e; simp [hy]
   ·simp [e]
  ·by_cases e : k = v
   ·subst e; rw [hy] at hx; cases hx; exact absurd x0 y0
   ·simp only [if_neg e]; exact hx
  ·by_cases e : k = v
   ·exact ⟨z, by simp [e], z0⟩
   ·exact ⟨x, by simp only [if_neg e]; exact hx, x0⟩
 refine ⟨⟨h.pos, fun k x hx => ?_, fun k x hx x0 => ?_, fun k x hx x0 => ?_, fun k hk hp => ?_⟩, hc⟩
 ·by_cases e : k = v
  ·subst e; exact h.dom k y hy
  ·simp only [if_neg e] at hx; exact h.dom k x hx
 ·by_cases e : k = v
  ·subst e
   simp only [if_true] at hx
   cases hx
   exact ⟨e2, hc.okv.2 o2, by rw [r1, r2], by omega⟩
  ·simp only [if_neg e] at hx
   obtain ⟨a1, a2, a3, a4⟩ := h.link k x hx x0
   exact ⟨a1, hc.okv.2 a2, a3, a4⟩
 ·by_cases e : k = v
  ·subst e
   simp only [if_true] at hx
   cases hx
   exact absurd x0 z0
  ·simp only [if_neg e] at hx
   obtain ⟨a1, a2⟩ := h.name k x hx x0
   exact ⟨fun q hq => ⟨(a1 q hq).1, (a1 q hq).2.1, hc.okv.2 (a1 q hq).2.2⟩, a2⟩
 ·exact h.free k ((hc.none k).1 hk) hp
end
end Go.Proofs.YtnebhiaeechpaaaDoor
