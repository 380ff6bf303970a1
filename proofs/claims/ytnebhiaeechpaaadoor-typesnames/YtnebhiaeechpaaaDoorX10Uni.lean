/-
 Layer 10, plain: steps of a unification, as the program's table takes them. No program is named.
-/
import Derived.Test.YtnebhiaeechpaaaDoorX10Sub
namespace Go.Proofs.YtnebhiaeechpaaaDoor
set_option linter.unusedVariables false
set_option linter.unusedSimpArgs false
theorem un_equal : ∀ (s : Nat) {r : Nat → Ty} {ps : List (Ty × Ty)}, Idem r → szP r ps ≤ s → (∀ p, p ∈ ps → p.1.ap r = p.2.ap r) → Un r ps (.ok r)
 | _, r, [], _, _, _ => .done
 | 0, r, (a, b) :: ps, hi, hs, h => by
  rw [szP] at hs
  have := (a.ap r).sz_pos
  show Un r ((a, b) :: ps) _
  simp only at hs
  omega
 | s + 1, r, (a, b) :: ps, hi, hs, h => by
  have hab : a.ap r = b.ap r := h (a, b) List.mem_cons_self
  have hps : ∀ p, p ∈ ps → p.1.ap r = p.2.ap r := fun p hp => h p (List.mem_cons_of_mem _ hp)
  rw [szP] at hs
  simp only at hs
  cases ha : a.ap r with
  | v n =>
   have := (a.ap r).sz_pos
   exact .same ha (hab ▸ ha) (un_equal s hi (by omega) hps)
  | c t l =>
   have hb : b.ap r = .c t l := hab ▸ ha
   have hl : apL r l = l := by
    have h1 := hi.ap a
    rw [ha, Ty.ap] at h1
    exact (Ty.c.inj h1).2
   refine .parts ha hb rfl (un_equal s hi ?_ ?_)
   ·rw [szP_app, szP_zip rfl hl hl]
    rw [ha, hb, Ty.sz] at hs
    omega
   ·intro p hp
    rcases List.mem_append.1 hp with hp | hp
    ·have : ∀ (m : List Ty) (p : Ty × Ty), p ∈ m.zip m → p.1 = p.2 := by
      intro m
      induction m with
      | nil => intro p hp; cases hp
      | cons x m ih =>
       intro p hp
       rw [List.zip_cons_cons] at hp
       rcases List.mem_cons.1 hp with rfl | hp
       ·rfl
       ·exact ih p hp
     rw [this l p hp]
    ·exact hps p hp
section
variable {F : List Int} {own own' : Nat} {σ σ' : Int → Option Rw} {R R' : Int → Ty} {d d' : Int → Nat}
theorem PS.ap_ok (h : PS F own σ R d) {u : Int} (hu : OkV F σ u) : (R u).ap (natR R) = R u := by
 refine Ty.ap_id _ (fun m hm => ?_)
 obtain ⟨_, h2⟩ := h.occ_free hu hm
 exact h.free (m : Int) h2 (by omega)
/-- A variable was named. -/
theorem PS.learned (h : PS F own σ R d) {v : Int} (hv : v ∈ F) (hn : σ v = none) {x : Rw} (hx : x.ok (OkV F σ)) (ho : ¬ (x.rs R).occ v.toNat) (h1 : ∀ u, OkV F σ u → OkV F σ' u ∧ R' u = (R u).ap (oneT v.toNat (x.rs R))) (h2 : ∀ n : Nat, R' (n : Int) = (R (n : Int)).ap (oneT v.toNat (x.rs R))) (h3 : ∀ k z, σ k = some z → z.V = 0 → σ' k = some z) (t : Ty) : natR R' = nameV (natR R) v.toNat ((x.rs R).ap (natR R)) ∧ UEx F σ R σ' R' t ∧ freeF F R' + 1 ≤ freeF F R := by
 have e0 := h.apN hx
 have e1 : natR R' = nameV (natR R) v.toNat ((x.rs R).ap (natR R)) := by
  funext n
  rw [e0]
  exact h2 n
 have e2 : freeF F R' + 1 ≤ freeF F R := by
  have := h.fewer hv hn hx ho
  have e3 : freeF F R' = freeF F (nameR R v (x.rs R)) := by
   refine List.countP_congr (fun k hk => ?_)
   have : R' k = nameR R v (x.rs R) k := (h1 k (Or.inl hk)).2
   unfold isFree
   rw [this]
  omega
 refine ⟨e1, ⟨fun u hu => ⟨(h1 u hu).1, ?_⟩, fun k z hk hz => Or.inl (h3 k z hk hz), Or.inl (by omega)⟩, e2⟩
 rw [(h1 u hu).2, e1, nameV_ap, h.ap_ok hu, e0]
/-- Ways made shorter ahead of it change nothing of it. -/
theorem UEx.cmp {σ2 : Int → Option Rw} {t : Ty} (h : UEx F σ2 R σ' R' t) (k : Cmp σ σ2) : UEx F σ R σ' R' t := ⟨fun u hu => h.okv u (k.okv.2 hu), fun j z hj hz => h.stay j z (k.name j z hj hz) hz, h.less⟩
/-- A free variable that stands in another type at its end, and isn't it, stands within a name. -/
theorem PS.occ_name (h : PS F own σ R d) {v : Int} (hv : v ∈ F) {y : Rw} (hy : y.ok (OkV F σ)) (he : y.V ≠ 0 → End σ y.V) (hne : v ≠ y.V) (ho : (y.rs R).occ v.toNat) : ∃ s l, y.rs R = .c s l ∧ occL v.toNat l := by
 by_cases h0 : y.V = 0
 ·rw [rs_name R h0] at ho ⊢
  exact ⟨_, _, rfl, ho⟩
 ·obtain ⟨k1, _⟩ := ok_var hy h0
  rw [rs_var R h0] at ho ⊢
  rcases h.at_end k1 (he h0) with ⟨_, z2, z3⟩ | ⟨z, _, _, z3, _⟩
  ·rw [z3, Ty.occ] at ho
   have h1 := h.pos v hv
   have h2 := h.pos _ z2
   omega
  ·rw [z3] at ho ⊢
   exact ⟨_, _, rfl, ho⟩
end
end Go.Proofs.YtnebhiaeechpaaaDoor
