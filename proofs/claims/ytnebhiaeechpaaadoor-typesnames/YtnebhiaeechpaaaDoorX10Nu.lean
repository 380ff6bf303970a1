/-
 Layer 10, plain: variables numbered as they are met: what was met ahead keeps its number. No program is named.
-/
import Derived.Test.YtnebhiaeechpaaaDoorX10Hi
import Derived.Test.YtnebhiaeechpaaaDoorX10Can
namespace Go.Proofs.YtnebhiaeechpaaaDoor
set_option linter.unusedVariables false
set_option linter.unusedSimpArgs false
def nu (acc : List Nat) (n : Nat) : Ty := .v (acc.idxOf n + 1)
theorem canT_nu (t : Ty) : canT t = t.ap (nu (t.vs [])) := rfl
theorem addV_ext (acc : List Nat) (n : Nat) : ∃ r, addV acc n = acc ++ r := by
 unfold addV
 split
 ·exact ⟨[], (List.append_nil _).symm⟩
 ·exact ⟨[n], rfl⟩
mutual
theorem Ty.vs_ext : ∀ (t : Ty) (acc : List Nat), ∃ r, t.vs acc = acc ++ r
 | .v n, acc => by rw [Ty.vs]; exact addV_ext acc n
 | .c s l, acc => by rw [Ty.vs]; exact vsL_ext l acc
theorem vsL_ext : ∀ (l : List Ty) (acc : List Nat), ∃ r, vsL l acc = acc ++ r
 | [], acc => by rw [vsL]; exact ⟨[], (List.append_nil _).symm⟩
 | x :: l, acc => by
  rw [vsL]
  obtain ⟨r, h⟩ := x.vs_ext acc
  obtain ⟨r2, h2⟩ := vsL_ext l (x.vs acc)
  exact ⟨r ++ r2, by rw [h2, h, List.append_assoc]⟩
end
theorem vsL_snoc : ∀ (l : List Ty) (t : Ty) (acc : List Nat), vsL (l ++ [t]) acc = t.vs (vsL l acc)
 | [], t, acc => by rw [List.nil_append, vsL, vsL, vsL]
 | x :: l, t, acc => by rw [List.cons_append, vsL, vsL, vsL_snoc l t]
theorem nu_ext {acc : List Nat} {n : Nat} (h : n ∈ acc) (r : List Nat) : nu (acc ++ r) n = nu acc n := by
 unfold nu
 rw [List.idxOf_append, if_pos h]
theorem apL_nu {l : List Ty} {acc : List Nat} (h : ∀ n, occL n l → n ∈ acc) (r : List Nat) : apL (nu (acc ++ r)) l = apL (nu acc) l := apL_congr l (fun n hn => nu_ext (h n hn) r)
theorem nu_parts {l : List Ty} {acc : List Nat} (t : Ty) : apL (nu (vsL (l ++ [t]) acc)) l = apL (nu (vsL l acc)) l := by
 rw [vsL_snoc]
 obtain ⟨r, h⟩ := t.vs_ext (vsL l acc)
 rw [h]
 exact apL_nu (fun n hn => (mem_vsL l acc).2 (Or.inr hn)) r
mutual
theorem Ty.vs_len : ∀ (t : Ty) (acc : List Nat), (t.vs acc).length ≤ acc.length + t.sz
 | .v n, acc => by
  rw [Ty.vs, Ty.sz]
  unfold addV
  split
  ·omega
  ·rw [List.length_append]; simp
 | .c s l, acc => by rw [Ty.vs, Ty.sz]; have := vsL_len l acc; omega
theorem vsL_len : ∀ (l : List Ty) (acc : List Nat), (vsL l acc).length ≤ acc.length + szL l
 | [], acc => by rw [vsL]; omega
 | x :: l, acc => by
  rw [vsL, szL]
  have h1 := x.vs_len acc
  have h2 := vsL_len l (x.vs acc)
  omega
end
theorem tyL_at {L : List Rw} {k : Nat} {t : Rw} (h : L[k]? = some t) : (tyL L).take (k + 1) = (tyL L).take k ++ [t.ty] := by
 have h1 : (tyL L)[k]? = some t.ty := by rw [tyL_map, List.getElem?_map, h]; rfl
 obtain ⟨q1, q2⟩ := List.getElem?_eq_some_iff.1 h1
 rw [List.take_succ_eq_append_getElem q1, q2]
theorem tyL_len (L : List Rw) : (tyL L).length = L.length := by rw [tyL_map, List.length_map]
theorem apL_app (r : Nat → Ty) (l l' : List Ty) : apL r (l ++ l') = apL r l ++ apL r l' := by rw [apL_map, apL_map, apL_map, List.map_append]
theorem canT_sz (t : Ty) : (canT t).sz = t.sz := by
 rw [canT_nu]
 have key : ∀ (r : Nat → Nat), (∀ t : Ty, (t.ap (fun n => .v (r n))).sz = t.sz) := fun r t => by
  induction t using Ty.rec (motive_2 := fun l => szL (apL (fun n => .v (r n)) l) = szL l) with
  | v n => rw [Ty.ap, Ty.sz, Ty.sz]
  | c s l ih => rw [Ty.ap, Ty.sz, Ty.sz, ih]
  | nil => rw [apL]
  | cons x l ih1 ih2 => rw [apL, szL, szL, ih1, ih2]
 exact key _ t
end Go.Proofs.YtnebhiaeechpaaaDoor
