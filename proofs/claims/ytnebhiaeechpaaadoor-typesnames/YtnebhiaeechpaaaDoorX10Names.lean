/-
 Layer 10, plain: types whose variables have other numbers: three times each, and five. No program is named.
-/
import Derived.Test.YtnebhiaeechpaaaDoorP10RCan
import Derived.Test.YtnebhiaeechpaaaDoorX10Good
import Derived.Test.YtnebhiaeechpaaaDoorX10Ren
namespace Go.Proofs.YtnebhiaeechpaaaDoor
set_option linter.unusedVariables false
set_option linter.unusedSimpArgs false
def pi5 (n : Nat) : Nat := 3 * n + 5
theorem pi5_inj (a b : Nat) (h : pi5 a = pi5 b) : a = b := by unfold pi5 at h; omega
theorem rn_pi {F : List Nat} {n : Nat} (h : n ∈ F) : rn F (F.map pi5) n = pi5 n := by
 unfold rn
 have hi := List.idxOf_lt_length_iff.2 h
 rw [if_pos h, List.getD_eq_getElem?_getD, List.getElem?_map, List.getElem?_eq_getElem hi, List.getElem_idxOf hi]
 rfl
theorem ap_rn {F : List Nat} {t : Ty} (h : ∀ n, t.occ n → n ∈ F) : t.ap (fun n => .v (rn F (F.map pi5) n)) = t.ren pi5 := t.ap_congr (fun n hn => by rw [rn_pi (h n hn)])
theorem ren_sz (π : Nat → Nat) (t : Ty) : (t.ren π).sz = t.sz := by
 unfold Ty.ren
 induction t using Ty.rec (motive_2 := fun l => szL (apL (fun n => .v (π n)) l) = szL l) with
 | v n => rw [Ty.ap, Ty.sz, Ty.sz]
 | c s l ih => rw [Ty.ap, Ty.sz, Ty.sz, ih]
 | nil => rw [apL]
 | cons x l ih1 ih2 => rw [apL, szL, szL, ih1, ih2]
theorem ren_good {t : Ty} (h : t.good) : (t.ren pi5).good := Ty.good_ap (fun n hn => by rw [Ty.good]; unfold pi5; omega) t h
theorem like_v (π : Nat → Nat) : Like π Ty.v Ty.v := fun n => (ren_v π n).symm
theorem names_un {a b : Ty} {e e2 : Except Nat (Nat → Ty)} (h : Un Ty.v [(a, b)] e) (k : Un Ty.v [(a.ren pi5, b.ren pi5)] e2) : (∀ c, e = .error c → e2 = .error c) ∧ ∀ q, e = .ok q → ∃ q2, e2 = .ok q2 ∧ Like pi5 q q2 := by
 obtain ⟨e', h1, h2, h3⟩ := un_ren pi5_inj h (like_v pi5)
 have h4 : e' = e2 := un_one h1 k
 subst h4
 exact ⟨h2, h3⟩
theorem can_like {q q2 : Nat → Ty} (h : Like pi5 q q2) (t : Ty) : canT ((t.ren pi5).ap q2) = canT (t.ap q) := by rw [h.ap]; exact can_map (fun a b _ _ => pi5_inj a b)
theorem both_occ {x y : Rw} {n : Nat} (h : x.ty.occ n ∨ y.ty.occ n) : (Ty.c [42] [x.ty, y.ty]).occ n := by
 rw [Ty.occ, occL_mem]
 rcases h with h | h
 ·exact ⟨_, List.mem_cons_self, h⟩
 ·exact ⟨_, List.mem_cons_of_mem _ List.mem_cons_self, h⟩
/-- What Unify told, its number and what is known since. -/
def UNum (x y : Ty) (e : Int) (P : (Nat → Ty) → Prop) : Prop := (e = 3 ∧ (512 < (x.ap Ty.v).sz ∨ 512 < (y.ap Ty.v).sz)) ∨ ((x.ap Ty.v).sz ≤ 512 ∧ (y.ap Ty.v).sz ≤ 512 ∧ ((∃ c, Un Ty.v [(x, y)] (.error c) ∧ (e = 25 ∨ e = 26) ∧ e = if c = 1 then 26 else 25) ∨ ∃ ρ', Un Ty.v [(x, y)] (.ok ρ') ∧ e = 0 ∧ P ρ'))
theorem UNum.map {x y : Ty} {e : Int} {P Q : (Nat → Ty) → Prop} (h : UNum x y e P) (k : ∀ ρ, P ρ → Q ρ) : UNum x y e Q := by
 rcases h with h | ⟨h1, h2, h | ⟨ρ, h3, h4, h5⟩⟩
 ·exact Or.inl h
 ·exact Or.inr ⟨h1, h2, Or.inl h⟩
 ·exact Or.inr ⟨h1, h2, Or.inr ⟨ρ, h3, h4, k ρ h5⟩⟩
theorem names_num {x y : Ty} {e1 e2 : Int} {P Q : (Nat → Ty) → Prop} (H1 : UNum x y e1 P) (H2 : UNum (x.ren pi5) (y.ren pi5) e2 Q) : e2 = e1 ∧ ((e1 = 3 ∨ e1 = 25 ∨ e1 = 26) ∨ (e1 = 0 ∧ ∃ ρ ρ2, Un Ty.v [(x, y)] (.ok ρ) ∧ Un Ty.v [(x.ren pi5, y.ren pi5)] (.ok ρ2) ∧ Like pi5 ρ ρ2 ∧ P ρ ∧ Q ρ2)) := by
 unfold UNum at H1 H2
 have i1 : ∀ t : Ty, (t.ap Ty.v).sz = t.sz := fun t => by rw [t.ap_id (fun _ _ => rfl)]
 rw [i1, i1] at H1 H2
 rw [ren_sz, ren_sz] at H2
 rcases H1 with ⟨rfl, hb⟩ | ⟨b1, b2, h⟩
 ·rcases H2 with ⟨rfl, _⟩ | ⟨d1, d2, _⟩
  ·exact ⟨rfl, Or.inl (Or.inl rfl)⟩
  ·exfalso; omega
 ·rcases H2 with ⟨_, hb⟩ | ⟨d1, d2, k⟩
  ·exfalso; omega
  ·rcases h with ⟨c, hu, he, hc⟩ | ⟨ρ, hu, rfl, hP⟩
   ·rcases k with ⟨c', ku, ke, kc⟩ | ⟨ρ', ku, ke, _⟩
    ·have h9 := (names_un hu ku).1 c rfl
     obtain rfl : c' = c := by cases h9; rfl
     refine ⟨by rw [hc, kc], Or.inl ?_⟩
     omega
    ·have h9 := (names_un hu ku).1 c rfl
     cases h9
   ·rcases k with ⟨c', ku, ke, kc⟩ | ⟨ρ', ku, rfl, hQ⟩
    ·obtain ⟨q2, h9, _⟩ := (names_un hu ku).2 ρ rfl
     cases h9
    ·obtain ⟨q2, h9, hl⟩ := (names_un hu ku).2 ρ rfl
     obtain rfl : ρ' = q2 := by cases h9; rfl
     exact ⟨rfl, Or.inr ⟨rfl, ρ, ρ', hu, ku, hl, hP, hQ⟩⟩
end Go.Proofs.YtnebhiaeechpaaaDoor
