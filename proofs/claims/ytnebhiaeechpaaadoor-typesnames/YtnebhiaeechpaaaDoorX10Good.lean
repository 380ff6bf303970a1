/-
 Layer 10, plain: types whose names aren't empty and whose variables are above 0: what is made of such stays such. No program is named.
-/
import Derived.Test.YtnebhiaeechpaaaDoorX10Nu
namespace Go.Proofs.YtnebhiaeechpaaaDoor
set_option linter.unusedVariables false
set_option linter.unusedSimpArgs false
mutual
def Ty.good : Ty → Prop
 | .v n => 0 < n
 | .c s l => s ≠ [] ∧ goodL l
def goodL : List Ty → Prop
 | [] => True
 | x :: l => x.good ∧ goodL l
end
theorem goodL_mem : ∀ {l : List Ty}, goodL l → ∀ x, x ∈ l → x.good
 | [], _, x, h => by cases h
 | y :: l, hg, x, h => by
  rw [goodL] at hg
  rcases List.mem_cons.1 h with rfl | h
  ·exact hg.1
  ·exact goodL_mem hg.2 x h
mutual
theorem Rw.good : ∀ (x : Rw), x.may = true → x.ty.good
 | .mk v s l, h => by
  rcases may_parts h with ⟨h1, rfl, rfl⟩ | ⟨rfl, h2, h3⟩
  ·rw [Rw.ty, if_pos h1, Ty.good]; omega
  ·rw [Rw.ty, if_neg (by omega), Ty.good]; exact ⟨h2, tyL_good l h3⟩
theorem tyL_good : ∀ (l : List Rw), mayL l = true → goodL (tyL l)
 | [], _ => by rw [tyL, goodL]; trivial
 | x :: l, h => by
  rw [mayL, Bool.and_eq_true] at h
  rw [tyL, goodL]
  exact ⟨x.good h.1, tyL_good l h.2⟩
end
mutual
theorem Ty.rw_may : ∀ (t : Ty), t.good → t.rw.may = true
 | .v n, h => by
  rw [Ty.good] at h
  rw [Ty.rw, Rw.may, mayL]
  simp
  omega
 | .c s l, h => by
  rw [Ty.good] at h
  rw [Ty.rw, Rw.may, rwL_may l h.2]
  simp [h.1]
theorem rwL_may : ∀ (l : List Ty), goodL l → mayL (rwL l) = true
 | [], _ => by rw [rwL, mayL]
 | x :: l, h => by
  rw [goodL] at h
  rw [rwL, mayL, x.rw_may h.1, rwL_may l h.2]
  rfl
end
mutual
theorem Ty.rw_ty : ∀ (t : Ty), t.good → t.rw.ty = t
 | .v n, h => by
  rw [Ty.good] at h
  rw [Ty.rw, Rw.ty, if_pos (by omega)]
  simp
 | .c s l, h => by
  rw [Ty.good] at h
  rw [Ty.rw, Rw.ty, if_neg (by omega), rwL_ty l h.2]
theorem rwL_ty : ∀ (l : List Ty), goodL l → tyL (rwL l) = l
 | [], _ => by rw [rwL, tyL]
 | x :: l, h => by
  rw [goodL] at h
  rw [rwL, tyL, x.rw_ty h.1, rwL_ty l h.2]
end
/-- Put for what is above 0: such types. -/
def GoodR (r : Nat → Ty) : Prop := ∀ n, 0 < n → (r n).good
mutual
theorem Ty.good_ap {r : Nat → Ty} (hr : GoodR r) : ∀ (t : Ty), t.good → (t.ap r).good
 | .v n, h => by rw [Ty.ap]; exact hr n h
 | .c s l, h => by rw [Ty.good] at h; rw [Ty.ap, Ty.good]; exact ⟨h.1, goodL_ap hr l h.2⟩
theorem goodL_ap {r : Nat → Ty} (hr : GoodR r) : ∀ (l : List Ty), goodL l → goodL (apL r l)
 | [], h => by rw [apL]; exact h
 | x :: l, h => by rw [goodL] at h; rw [apL, goodL]; exact ⟨x.good_ap hr h.1, goodL_ap hr l h.2⟩
end
theorem good_id : GoodR Ty.v := fun n h => h
theorem good_name {r : Nat → Ty} (hr : GoodR r) (n : Nat) {x : Ty} (hx : x.good) : GoodR (nameV r n x) := fun k hk => by
 refine (r k).good_ap (fun m hm => ?_) (hr k hk)
 unfold oneT
 split
 ·exact hx
 ·exact hm
theorem un_good {r : Nat → Ty} {ps : List (Ty × Ty)} {e : Except Nat (Nat → Ty)} (h : Un r ps e) : ∀ {q : Nat → Ty}, e = .ok q → GoodR r → (∀ p, p ∈ ps → p.1.good ∧ p.2.good) → GoodR q := by
 induction h with
 | done => intro q e hr _; cases e; exact hr
 | same ha hb h ih => intro q e hr hp; exact ih e hr (fun p hp' => hp p (List.mem_cons_of_mem _ hp'))
 | @nameL r a b ps e n ha ho h ih => intro q e hr hp; exact ih e (good_name hr _ (b.good_ap hr (hp (a, b) List.mem_cons_self).2)) (fun p hp' => hp p (List.mem_cons_of_mem _ hp'))
 | occL => intro q e; cases e
 | @nameR r a b ps e n s l ha hb ho h ih => intro q e hr hp; exact ih e (good_name hr _ (a.good_ap hr (hp (a, b) List.mem_cons_self).1)) (fun p hp' => hp p (List.mem_cons_of_mem _ hp'))
 | occR => intro q e; cases e
 | unlike => intro q e; cases e
 | @parts r a b ps e s l l' ha hb hl h ih =>
  intro q e hr hp
  refine ih e hr (fun p hp' => ?_)
  rcases List.mem_append.1 hp' with hp' | hp'
  ·have h1 := a.good_ap hr (hp (a, b) List.mem_cons_self).1
   have h2 := b.good_ap hr (hp (a, b) List.mem_cons_self).2
   rw [ha, Ty.good] at h1
   rw [hb, Ty.good] at h2
   obtain ⟨h3, h4⟩ := List.of_mem_zip (a := p.1) (b := p.2) hp'
   exact ⟨goodL_mem h1.2 _ h3, goodL_mem h2.2 _ h4⟩
  ·exact hp p (List.mem_cons_of_mem _ hp')
theorem un_good1 {a b : Ty} {q : Nat → Ty} (h : Un Ty.v [(a, b)] (.ok q)) (ha : a.good) (hb : b.good) : GoodR q := un_good h rfl good_id (fun p hp => by rw [List.mem_singleton.1 hp]; exact ⟨ha, hb⟩)
end Go.Proofs.YtnebhiaeechpaaaDoor
