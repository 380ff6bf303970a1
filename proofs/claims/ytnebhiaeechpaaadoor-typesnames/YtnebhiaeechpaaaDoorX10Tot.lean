/-
 Layer 10, plain: making pairs one always comes to something: each name takes a variable away, each other step a node. No program is named.
-/
import Derived.Test.YtnebhiaeechpaaaDoorX10Ren
namespace Go.Proofs.YtnebhiaeechpaaaDoor
set_option linter.unusedVariables false
set_option linter.unusedSimpArgs false

/-- How many variables below N nothing is known of. -/
noncomputable def freeN (r : Nat → Ty) : Nat → Nat
 | 0 => 0
 | N + 1 => freeN r N + (open Classical in if r N = .v N then 1 else 0)
/-- All that can be met are variables below N. -/
def Within (N : Nat) (r : Nat → Ty) (ps : List (Ty × Ty)) : Prop := (∀ m, m < N → ∀ n, (r m).occ n → n < N) ∧ ∀ p, p ∈ ps → (∀ n, p.1.occ n → n < N) ∧ (∀ n, p.2.occ n → n < N)
/-- How many nodes all pairs have, as far as they are known. -/
def szP (r : Nat → Ty) : List (Ty × Ty) → Nat
 | [] => 0
 | p :: ps => (p.1.ap r).sz + (p.2.ap r).sz + szP r ps
theorem szP_app (r : Nat → Ty) : ∀ (ps qs : List (Ty × Ty)), szP r (ps ++ qs) = szP r ps + szP r qs
 | [], qs => by simp [szP]
 | p :: ps, qs => by
  rw [List.cons_append, szP, szP, szP_app r ps qs]
  omega
theorem szP_zip {r : Nat → Ty} : ∀ {l l' : List Ty}, l.length = l'.length → apL r l = l → apL r l' = l' → szP r (l.zip l') = szL l + szL l'
 | [], [], _, _, _ => rfl
 | [], y :: l', h, _, _ => by cases h
 | x :: l, [], h, _, _ => by cases h
 | x :: l, y :: l', h, h1, h2 => by
  rw [apL] at h1 h2
  have e1 := List.cons.inj h1
  have e2 := List.cons.inj h2
  rw [List.zip_cons_cons, szP, szL, szL, szP_zip (by simpa using h) e1.2 e2.2, e1.1, e2.1]
  omega
theorem within_ap {N : Nat} {r : Nat → Ty} (h : ∀ m, m < N → ∀ n, (r m).occ n → n < N) {t : Ty} (ht : ∀ n, t.occ n → n < N) : ∀ n, (t.ap r).occ n → n < N := fun n hn => by
 obtain ⟨m, h1, h2⟩ := t.occ_ap.1 hn
 exact h m (ht m h1) n h2
theorem within_name {N n : Nat} {r : Nat → Ty} {x : Ty} {ps : List (Ty × Ty)} (h : Within N r ps) (hx : ∀ k, x.occ k → k < N) : Within N (nameV r n x) ps := by
 refine ⟨fun m hm k hk => ?_, h.2⟩
 obtain ⟨j, h1, h2⟩ := (r m).occ_ap.1 hk
 by_cases e : j = n
 ·subst e
  rw [oneT_same] at h2
  exact hx k h2
 ·rw [oneT_other _ e, Ty.occ] at h2
  rw [← h2]
  exact h.1 m hm j h1
theorem free_name {r : Nat → Ty} {n : Nat} {t : Ty} (hi : Idem r) (hn : r n = .v n) (ho : ¬ (t.ap r).occ n) : ∀ (N : Nat), freeN (nameV r n (t.ap r)) N + (if n < N then 1 else 0) = freeN r N
 | 0 => by simp [freeN]
 | N + 1 => by
  have ih := free_name hi hn ho N
  rw [freeN, freeN]
  by_cases e : N = n
  ·subst e
   rw [if_neg (by omega)] at ih
   have h1 : ¬ nameV r N (t.ap r) N = .v N := by
    show ¬ (r N).ap (oneT N (t.ap r)) = .v N
    rw [hn, Ty.ap, oneT_same]
    intro c
    exact ho (by rw [c]; rfl)
   rw [if_neg h1, if_pos hn, if_pos (by omega)]
   omega
  ·have h1 : nameV r n (t.ap r) N = .v N ↔ r N = .v N := by
    show (r N).ap (oneT n (t.ap r)) = .v N ↔ _
    constructor
    ·intro c
     cases hr : r N with
     | c s l => rw [hr, Ty.ap] at c; cases c
     | v m =>
      by_cases em : m = n
      ·subst em
       rw [hr, Ty.ap, oneT_same] at c
       have hf := hi.free (t := t) (n := N) (by rw [c]; rfl)
       rw [hf] at hr
       exact hr.symm
      ·rw [hr, Ty.ap, oneT_other _ em] at c
       rw [c] at hr ⊢
    ·intro c
     rw [c, Ty.ap, oneT_other _ e]
   by_cases c : r N = .v N
   ·rw [if_pos (h1.2 c), if_pos c]
    by_cases g : n < N
    ·rw [if_pos g] at ih; rw [if_pos (by omega)]; omega
    ·rw [if_neg g] at ih; rw [if_neg (by omega)]; omega
   ·rw [if_neg (fun d => c (h1.1 d)), if_neg c]
    by_cases g : n < N
    ·rw [if_pos g] at ih; rw [if_pos (by omega)]; omega
    ·rw [if_neg g] at ih; rw [if_neg (by omega)]; omega
/-- One step of it. -/
theorem un_step {N z : Nat} {r : Nat → Ty} {ps : List (Ty × Ty)} (hname : ∀ (n : Nat) (t : Ty), r n = .v n → ¬ (t.ap r).occ n → ∀ qs, Within N (nameV r n (t.ap r)) qs → n < N → ∃ e, Un (nameV r n (t.ap r)) qs e) (hless : ∀ qs, Within N r qs → szP r qs ≤ z → ∃ e, Un r qs e) (hi : Idem r) (hw : Within N r ps) (hz : szP r ps ≤ z + 1) : ∃ e, Un r ps e := by
 cases ps with
 | nil => exact ⟨_, .done⟩
 | cons p ps =>
  obtain ⟨a, b⟩ := p
  have hwa := (hw.2 (a, b) List.mem_cons_self).1
  have hwb := (hw.2 (a, b) List.mem_cons_self).2
  have hwr : ∀ p, p ∈ ps → (∀ n, p.1.occ n → n < N) ∧ (∀ n, p.2.occ n → n < N) := fun p hp => hw.2 p (List.mem_cons_of_mem _ hp)
  rw [szP] at hz
  have s1 := (a.ap r).sz_pos
  have s2 := (b.ap r).sz_pos
  have hza : szP r ps ≤ z := by simp only at hz; omega
  cases ha : a.ap r with
  | v n =>
   have hn : r n = .v n := hi.free (t := a) (by rw [ha]; rfl)
   have hnN : n < N := within_ap hw.1 hwa n (by rw [ha]; rfl)
   cases hb : b.ap r with
   | v m =>
    by_cases e : m = n
    ·subst e
     obtain ⟨x, hx⟩ := hless ps ⟨hw.1, hwr⟩ hza
     exact ⟨x, .same ha hb hx⟩
    ·have ho : ¬ (b.ap r).occ n := by rw [hb, Ty.occ]; exact e
     obtain ⟨x, hx⟩ := hname n b hn ho ps (within_name ⟨hw.1, hwr⟩ (within_ap hw.1 hwb)) hnN
     exact ⟨x, .nameL ha ho hx⟩
   | c s l =>
    by_cases ho : occL n l
    ·exact ⟨_, .occL ha hb ho⟩
    ·have ho' : ¬ (b.ap r).occ n := by rw [hb]; exact ho
     obtain ⟨x, hx⟩ := hname n b hn ho' ps (within_name ⟨hw.1, hwr⟩ (within_ap hw.1 hwb)) hnN
     exact ⟨x, .nameL ha ho' hx⟩
  | c s l =>
   cases hb : b.ap r with
   | v n =>
    have hn : r n = .v n := hi.free (t := b) (by rw [hb]; rfl)
    have hnN : n < N := within_ap hw.1 hwb n (by rw [hb]; rfl)
    by_cases ho : occL n l
    ·exact ⟨_, .occR ha hb ho⟩
    ·have ho' : ¬ (a.ap r).occ n := by rw [ha]; exact ho
     obtain ⟨x, hx⟩ := hname n a hn ho' ps (within_name ⟨hw.1, hwr⟩ (within_ap hw.1 hwa)) hnN
     exact ⟨x, .nameR ha hb ho hx⟩
   | c s' l' =>
    by_cases hs : s = s'
    ·by_cases hl : l.length = l'.length
     ·subst hs
      have fa := hi.ap a
      have fb := hi.ap b
      rw [ha, Ty.ap] at fa
      rw [hb, Ty.ap] at fb
      have fa' := (Ty.c.inj fa).2
      have fb' := (Ty.c.inj fb).2
      have wa := within_ap hw.1 hwa
      have wb := within_ap hw.1 hwb
      rw [ha] at wa
      rw [hb] at wb
      obtain ⟨x, hx⟩ := hless (l.zip l' ++ ps) ⟨hw.1, fun p hp => by
       rcases List.mem_append.1 hp with hp | hp
       ·obtain ⟨p1, p2⟩ := p
        have hm := List.of_mem_zip hp
        exact ⟨fun n hn => wa n (occL_mem.2 ⟨p1, hm.1, hn⟩), fun n hn => wb n (occL_mem.2 ⟨p2, hm.2, hn⟩)⟩
       ·exact hwr p hp⟩ (by
       rw [szP_app, szP_zip hl fa' fb']
       simp only [ha, hb, Ty.sz] at hz
       omega)
      exact ⟨x, .parts ha hb hl hx⟩
     ·exact ⟨_, .unlike ha hb (Or.inr hl)⟩
    ·exact ⟨_, .unlike ha hb (Or.inl hs)⟩
/-- It always comes to something. -/
theorem un_total {N : Nat} : ∀ (f z : Nat) (r : Nat → Ty) (ps : List (Ty × Ty)), Idem r → Within N r ps → freeN r N ≤ f → szP r ps ≤ z → ∃ e, Un r ps e := by
 intro f
 induction f with
 | zero =>
  intro z
  induction z with
  | zero =>
   intro r ps hi hw hf hz
   cases ps with
   | nil => exact ⟨_, .done⟩
   | cons p ps =>
    have := (p.1.ap r).sz_pos
    rw [szP] at hz
    omega
  | succ z ih =>
   intro r ps hi hw hf hz
   exact un_step (fun n t hn ho qs hq hlt => by
    have := free_name hi hn ho N
    rw [if_pos hlt] at this
    omega) (fun qs hq hs => ih r qs hi hq hf hs) hi hw hz
 | succ f ihf =>
  intro z
  induction z with
  | zero =>
   intro r ps hi hw hf hz
   cases ps with
   | nil => exact ⟨_, .done⟩
   | cons p ps =>
    have := (p.1.ap r).sz_pos
    rw [szP] at hz
    omega
  | succ z ih =>
   intro r ps hi hw hf hz
   exact un_step (fun n t hn ho qs hq hlt => by
    have := free_name hi hn ho N
    rw [if_pos hlt] at this
    exact ihf _ _ qs (idem_name hi hn ho) hq (by omega) (Nat.le_refl _)) (fun qs hq hs => ih r qs hi hq hf hs) hi hw hz
end Go.Proofs.YtnebhiaeechpaaaDoor
