/-
 Layer 10, plain: variables numbered anew; two types that are each an instance of the other are one but for the numbers. No program is named.
-/
import Derived.Test.YtnebhiaeechpaaaDoorX10Un
namespace Go.Proofs.YtnebhiaeechpaaaDoor
set_option linter.unusedVariables false
set_option linter.unusedSimpArgs false

/-- A variable behind those that were met. -/
def addV (acc : List Nat) (n : Nat) : List Nat := if n ∈ acc then acc else acc ++ [n]
mutual
/-- The variables, from the left, each once, behind some. -/
def Ty.vs : Ty → List Nat → List Nat
 | .v n, acc => addV acc n
 | .c _ l, acc => vsL l acc
def vsL : List Ty → List Nat → List Nat
 | [], acc => acc
 | x :: l, acc => vsL l (x.vs acc)
end
/-- Variables numbered from 1 on. -/
def canT (t : Ty) : Ty := t.ap (fun n => .v ((t.vs []).idxOf n + 1))
theorem mem_addV {acc : List Nat} {n m : Nat} : m ∈ addV acc n ↔ m ∈ acc ∨ m = n := by
 unfold addV
 split
 ·rename_i h
  exact ⟨Or.inl, fun h' => h'.elim id (fun e => e ▸ h)⟩
 ·simp
mutual
theorem Ty.mem_vs {m : Nat} : ∀ (t : Ty) (acc : List Nat), m ∈ t.vs acc ↔ m ∈ acc ∨ t.occ m
 | .v n, acc => by
  rw [Ty.vs, mem_addV, Ty.occ]
  exact ⟨fun h => h.imp id Eq.symm, fun h => h.imp id Eq.symm⟩
 | .c s l, acc => by rw [Ty.vs, Ty.occ]; exact mem_vsL l acc
theorem mem_vsL {m : Nat} : ∀ (l : List Ty) (acc : List Nat), m ∈ vsL l acc ↔ m ∈ acc ∨ occL m l
 | [], acc => by rw [vsL]; exact ⟨Or.inl, fun h => h.elim id (fun h => by cases h)⟩
 | x :: l, acc => by rw [vsL, mem_vsL l, x.mem_vs, occL, or_assoc]
end
/-- A renaming that parts what it should. -/
def InjOn (π : Nat → Nat) (P : Nat → Prop) : Prop := ∀ a b, P a → P b → π a = π b → a = b
theorem addV_map {π : Nat → Nat} {acc : List Nat} {n : Nat} (h : InjOn π (fun m => m ∈ acc ∨ m = n)) : addV (acc.map π) (π n) = (addV acc n).map π := by
 unfold addV
 by_cases c : n ∈ acc
 ·rw [if_pos c, if_pos (List.mem_map_of_mem c)]
 ·rw [if_neg c, if_neg, List.map_append]
  ·rfl
  ·intro hc
   obtain ⟨m, h1, h2⟩ := List.mem_map.1 hc
   have := h m n (Or.inl h1) (Or.inr rfl) h2
   exact c (this ▸ h1)
mutual
theorem Ty.vs_map {π : Nat → Nat} : ∀ (t : Ty) (acc : List Nat), InjOn π (fun m => m ∈ acc ∨ t.occ m) → (t.ap (fun n => .v (π n))).vs (acc.map π) = (t.vs acc).map π
 | .v n, acc, h => by
  rw [Ty.ap, Ty.vs, Ty.vs]
  exact addV_map (fun a b ha hb e => h a b (ha.imp id (fun h => h.symm)) (hb.imp id (fun h => h.symm)) e)
 | .c s l, acc, h => by rw [Ty.ap, Ty.vs, Ty.vs]; exact vsL_map l acc h
theorem vsL_map {π : Nat → Nat} : ∀ (l : List Ty) (acc : List Nat), InjOn π (fun m => m ∈ acc ∨ occL m l) → vsL (apL (fun n => .v (π n)) l) (acc.map π) = (vsL l acc).map π
 | [], acc, h => by rw [apL, vsL, vsL]
 | x :: l, acc, h => by
  rw [apL, vsL, vsL, x.vs_map acc (fun a b ha hb e => h a b (ha.imp id Or.inl) (hb.imp id Or.inl) e)]
  refine vsL_map l (x.vs acc) (fun a b ha hb e => h a b ?_ ?_ e)
  ·rcases ha with ha | ha
   ·rcases (x.mem_vs acc).1 ha with h1 | h1
    ·exact Or.inl h1
    ·exact Or.inr (Or.inl h1)
   ·exact Or.inr (Or.inr ha)
  ·rcases hb with ha | ha
   ·rcases (x.mem_vs acc).1 ha with h1 | h1
    ·exact Or.inl h1
    ·exact Or.inr (Or.inl h1)
   ·exact Or.inr (Or.inr ha)
end
theorem idx_map {π : Nat → Nat} : ∀ {l : List Nat} {n : Nat}, InjOn π (fun m => m ∈ l ∨ m = n) → (l.map π).idxOf (π n) = l.idxOf n
 | [], n, h => by simp
 | a :: l, n, h => by
  rw [List.map_cons, List.idxOf_cons, List.idxOf_cons]
  by_cases c : a = n
  ·subst c; simp
  ·have c2 : π a ≠ π n := fun e => c (h a n (Or.inl List.mem_cons_self) (Or.inr rfl) e)
   rw [show (π a == π n) = false from beq_eq_false_iff_ne.2 c2, show (a == n) = false from beq_eq_false_iff_ne.2 c, idx_map (l := l) (n := n) (fun x y hx hy e => h x y (hx.imp (List.mem_cons_of_mem _) id) (hy.imp (List.mem_cons_of_mem _) id) e)]
/-- Other numbers for the variables: numbered anew, the same. -/
theorem can_map {π : Nat → Nat} {t : Ty} (h : InjOn π (fun m => t.occ m)) : canT (t.ap (fun n => .v (π n))) = canT t := by
 unfold canT
 have h1 := t.vs_map (π := π) [] (fun a b ha hb e => h a b (ha.elim (fun h => by cases h) id) (hb.elim (fun h => by cases h) id) e)
 rw [List.map_nil] at h1
 rw [h1, Ty.ap_ap]
 refine t.ap_congr (fun n hn => ?_)
 rw [Ty.ap, idx_map]
 intro a b ha hb e
 have hm : ∀ x, x ∈ t.vs [] ∨ x = n → t.occ x := fun x hx => by
  rcases hx with hx | rfl
  ·exact ((t.mem_vs []).1 hx).elim (fun h => by cases h) id
  ·exact hn
 exact h a b (hm a ha) (hm b hb) e
/-- Each an instance of the other: one but for the numbers. -/
theorem can_both {s t : Ty} {σ τ : Nat → Ty} (h : s.ap σ = t) (k : t.ap τ = s) : canT s = canT t := by
 have h1 : ∀ n, s.occ n → (σ n).ap τ = .v n := fun n hn => by
  have e : s.ap (fun n => (σ n).ap τ) = s.ap Ty.v := by rw [← Ty.ap_ap, h, k]; exact (s.ap_id (fun _ _ => rfl)).symm
  exact s.ap_inj e n hn
 let π : Nat → Nat := fun n => match σ n with | .v m => m | .c _ _ => 0
 have h2 : ∀ n, s.occ n → σ n = .v (π n) := fun n hn => by
  have := h1 n hn
  cases hs : σ n with
  | v m => show _ = Ty.v (match σ n with | .v m => m | .c _ _ => 0); rw [hs]
  | c a l => rw [hs, Ty.ap] at this; cases this
 have h3 : t = s.ap (fun n => .v (π n)) := by rw [← h]; exact s.ap_congr h2
 rw [h3]
 refine (can_map (fun a b ha hb e => ?_)).symm
 have ha' := h1 a ha
 have hb' := h1 b hb
 rw [h2 a ha, Ty.ap] at ha'
 rw [h2 b hb, Ty.ap, ← e, ha'] at hb'
 exact Ty.v.inj hb'
/-- In which order two are handed changes nothing but which variable is which. -/
theorem un_turned {a b : Ty} {q u : Nat → Ty} (h : Un Ty.v [(a, b)] (.ok q)) (k : Un Ty.v [(b, a)] (.ok u)) (t : Ty) : canT (t.ap q) = canT (t.ap u) := by
 obtain ⟨i1, k1, m1⟩ := un_ok h rfl idem_id
 obtain ⟨i2, k2, m2⟩ := un_ok k rfl idem_id
 obtain ⟨u', e1, g1⟩ := un_general h k2 (fun p hp => by
  rw [List.mem_singleton.1 hp]
  exact (m2 (b, a) List.mem_cons_self).symm)
 obtain ⟨q', e2, g2⟩ := un_general k k1 (fun p hp => by
  rw [List.mem_singleton.1 hp]
  exact (m1 (a, b) List.mem_cons_self).symm)
 cases e1
 cases e2
 exact can_both (σ := u) (τ := q) (g1.ap t) (g2.ap t)
theorem un_turned_fails {a b : Ty} {q : Nat → Ty} {e : Except Nat (Nat → Ty)} (h : Un Ty.v [(a, b)] (.ok q)) (k : Un Ty.v [(b, a)] e) : ∃ u, e = .ok u := by
 obtain ⟨i1, k1, m1⟩ := un_ok h rfl idem_id
 obtain ⟨u, e1, _⟩ := un_general k k1 (fun p hp => by
  rw [List.mem_singleton.1 hp]
  exact (m1 (a, b) List.mem_cons_self).symm)
 exact ⟨u, e1⟩
/-- What was made one, made one once more: nothing is known more. -/
theorem un_again {r : Nat → Ty} {ps : List (Ty × Ty)} {e : Except Nat (Nat → Ty)} (h : Un r ps e) : Idem r → Made r ps → e = .ok r := by
 induction h with
 | done => intro _ _; rfl
 | same ha hb h ih => intro hi hm; exact ih hi (fun p hp => hm p (List.mem_cons_of_mem _ hp))
 | @nameL r a b ps e n ha ho h ih =>
  intro hi hm
  have h1 : a.ap r = b.ap r := hm (a, b) List.mem_cons_self
  rw [← h1, ha] at ho
  exact absurd rfl ho
 | @occL r a b ps n s l ha hb ho =>
  intro hi hm
  have h1 : a.ap r = b.ap r := hm (a, b) List.mem_cons_self
  rw [ha, hb] at h1
  cases h1
 | @nameR r a b ps e n s l ha hb ho h ih =>
  intro hi hm
  have h1 : a.ap r = b.ap r := hm (a, b) List.mem_cons_self
  rw [ha, hb] at h1
  cases h1
 | @occR r a b ps n s l ha hb ho =>
  intro hi hm
  have h1 : a.ap r = b.ap r := hm (a, b) List.mem_cons_self
  rw [ha, hb] at h1
  cases h1
 | @unlike r a b ps s s' l l' ha hb ho =>
  intro hi hm
  have h1 : a.ap r = b.ap r := hm (a, b) List.mem_cons_self
  rw [ha, hb] at h1
  have h2 := Ty.c.inj h1
  rcases ho with ho | ho
  ·exact absurd h2.1 ho
  ·exact absurd (congrArg List.length h2.2) ho
 | @parts r a b ps e s l l' ha hb hl h ih =>
  intro hi hm
  refine ih hi (fun p hp => ?_)
  rcases List.mem_append.1 hp with hp | hp
  ·have h1 : a.ap r = b.ap r := hm (a, b) List.mem_cons_self
   rw [ha, hb] at h1
   have h2 := (Ty.c.inj h1).2
   exact (zip_made hl).2 (by rw [h2]) p hp
  ·exact hm p (List.mem_cons_of_mem _ hp)
end Go.Proofs.YtnebhiaeechpaaaDoor
