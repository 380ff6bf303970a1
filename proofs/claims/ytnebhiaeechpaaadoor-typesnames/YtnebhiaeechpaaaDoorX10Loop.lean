/-
 Layer 10, plain: the parts of two names made one, one pair behind the other, as the program's table takes them. No program is named.
-/
import Derived.Test.YtnebhiaeechpaaaDoorX10Uni
namespace Go.Proofs.YtnebhiaeechpaaaDoor
set_option linter.unusedVariables false
set_option linter.unusedSimpArgs false
theorem freeF_nat {F : List Int} {R R' : Int → Ty} (hF : ∀ u, u ∈ F → 0 < u ∧ u ≤ 9223372036854775807) (h : natR R' = natR R) : freeF F R' = freeF F R := by
 refine List.countP_congr (fun k hk => ?_)
 have h1 := congrFun h k.toNat
 unfold natR at h1
 rw [Int.toNat_of_nonneg (by have := hF k hk; omega)] at h1
 unfold isFree
 rw [h1]
/-- k pairs of parts are made one. -/
structure ULoop (F : List Int) (σ : Int → Option Rw) (R : Int → Ty) (σ' : Int → Option Rw) (R' : Int → Ty) (L L2 : List Rw) (k : Nat) : Prop where
 un : Un (natR R) (((rsL R L).zip (rsL R L2)).take k) (.ok (natR R'))
 okv : ∀ u, OkV F σ u → OkV F σ' u ∧ R' u = (R u).ap (natR R')
 stay : ∀ j z, σ j = some z → z.V = 0 → σ' j = some z ∨ ∃ t, t ∈ (rsL R' L).take k ∧ Sub (R' j) t
 less : freeF F R' < freeF F R ∨ natR R' = natR R
section
variable {F : List Int} {own own' : Nat} {σ σ' σ'' : Int → Option Rw} {R R' R'' : Int → Ty} {d d' : Int → Nat} {L L2 : List Rw} {k : Nat} {t u : Rw}
theorem ULoop.start (hs : PS F own σ R d) : ULoop F σ R σ R L L2 0 := by
 have h := (Cmp.refl σ).uex hs (.v 0)
 exact ⟨by rw [List.take_zero]; exact .done, h.okv, fun j z hj hz => Or.inl hj, Or.inr rfl⟩
theorem ULoop.ok (h : ULoop F σ R σ' R' L L2 k) {x : Rw} (hx : x.ok (OkV F σ)) : x.ok (OkV F σ') := x.ok_mono (fun _ hu => (h.okv _ hu).1) hx
theorem ULoop.rs (h : ULoop F σ R σ' R' L L2 k) {x : Rw} (hx : x.ok (OkV F σ)) : x.rs R' = (x.rs R).ap (natR R') := x.rs_ap (fun u hu => (h.okv u hu).2) hx
theorem PS.okv (hs : PS F own σ R d) {j : Int} {z : Rw} (hj : σ j = some z) : OkV F σ j := (hs.dom j z hj).imp id (fun h => ⟨h.2, fun c => by rw [hj] at c; cases c⟩)
theorem ULoop.parts (h : ULoop F σ R σ' R' L L2 k) {l : List Rw} (hx : okL (OkV F σ) l) : rsL R' l = apL (natR R') (rsL R l) := rsL_ap (fun u hu => (h.okv u hu).2) l hx
theorem zip_at (ht : L[k]? = some t) (hu : L2[k]? = some u) : ((rsL R L).zip (rsL R L2))[k]? = some (t.rs R, u.rs R) := by
 rw [List.getElem?_zip_eq_some]
 simp [rsL_map, ht, hu]
theorem zip_next (ht : L[k]? = some t) (hu : L2[k]? = some u) : ((rsL R L).zip (rsL R L2)).take (k + 1) = ((rsL R L).zip (rsL R L2)).take k ++ [(t.rs R, u.rs R)] := by
 obtain ⟨q1, q2⟩ := List.getElem?_eq_some_iff.1 (zip_at (R := R) ht hu)
 rw [List.take_succ_eq_append_getElem q1, q2]
theorem ULoop.pair (h : ULoop F σ R σ' R' L L2 k) (hs' : PS F own' σ' R' d') (hx : okL (OkV F σ) L) (hy : okL (OkV F σ) L2) (ht : L[k]? = some t) (hu : L2[k]? = some u) {e : Except Nat (Nat → Ty)} (hun : Un (natR R') [(t.rs R', u.rs R')] e) : Un (natR R) (((rsL R L).zip (rsL R L2)).take (k + 1)) e := by
 have h1 := okL_mem.1 hx t (List.mem_of_getElem? ht)
 have h2 := okL_mem.1 hy u (List.mem_of_getElem? hu)
 rw [zip_next ht hu]
 exact un_next h.un hs'.idemN hun (by rw [hs'.apN (h.ok h1), h.rs h1]) (by rw [hs'.apN (h.ok h2), h.rs h2])
theorem ULoop.fail (h : ULoop F σ R σ' R' L L2 k) (hs' : PS F own' σ' R' d') (hx : okL (OkV F σ) L) (hy : okL (OkV F σ) L2) (ht : L[k]? = some t) (hu : L2[k]? = some u) {c : Nat} (hun : Un (natR R') [(t.rs R', u.rs R')] (.error c)) : Un (natR R) ((rsL R L).zip (rsL R L2)) (.error c) := by
 have h1 := un_stop (h.pair hs' hx hy ht hu hun) (((rsL R L).zip (rsL R L2)).drop (k + 1)) rfl
 rw [List.take_append_drop] at h1
 exact h1
theorem ULoop.next (h : ULoop F σ R σ' R' L L2 k) (hs : PS F own σ R d) (hs' : PS F own' σ' R' d') (hx : okL (OkV F σ) L) (hy : okL (OkV F σ) L2) (ht : L[k]? = some t) (hu : L2[k]? = some u) (hun : Un (natR R') [(t.rs R', u.rs R')] (.ok (natR R''))) (hex : UEx F σ' R' σ'' R'' (t.rs R'')) : ULoop F σ R σ'' R'' L L2 (k + 1) := by
 have hF := hs.pos
 have hk : Knows (natR R') (natR R'') := (un_ok hun rfl hs'.idemN).2.1
 refine ⟨h.pair hs' hx hy ht hu hun, fun v hv => ?_, fun j z hj hz => ?_, ?_⟩
 ·obtain ⟨a1, a2⟩ := h.okv v hv
  obtain ⟨b1, b2⟩ := hex.okv v a1
  refine ⟨b1, ?_⟩
  rw [b2, a2, hk.ap]
 ·have hLx : rsL R'' L = apL (natR R'') (rsL R' L) := rsL_ap (fun v hv => (hex.okv v hv).2) L (okL_mono (fun v hv => (h.okv v hv).1) L hx)
  have hgt : (rsL R'' L)[k]? = some (t.rs R'') := by rw [rsL_map, List.getElem?_map, ht]; rfl
  have htk : (rsL R'' L).take (k + 1) = (rsL R'' L).take k ++ [t.rs R''] := by
   obtain ⟨q1, q2⟩ := List.getElem?_eq_some_iff.1 hgt
   rw [List.take_succ_eq_append_getElem q1, q2]
  rcases h.stay j z hj hz with h1 | ⟨s, h1, h2⟩
  ·rcases hex.stay j z h1 hz with h3 | h3
   ·exact Or.inl h3
   ·exact Or.inr ⟨_, by rw [htk]; exact List.mem_append_right _ List.mem_cons_self, h3⟩
  ·refine Or.inr ⟨s.ap (natR R''), ?_, ?_⟩
   ·rw [htk, hLx, apL_map, ← List.map_take]
    exact List.mem_append_left _ (List.mem_map_of_mem h1)
   ·by_cases hz2 : OkV F σ' j
    ·rw [(hex.okv j hz2).2]
     exact h2.ap _
    ·exfalso
     refine hz2 (h.okv j ?_).1
     exact hs.okv hj
 ·rcases hex.less with h1 | h1
  ·rcases h.less with h2 | h2
   ·exact Or.inl (by omega)
   ·exact Or.inl (by rw [freeF_nat hF h2] at h1; exact h1)
  ·rcases h.less with h2 | h2
   ·exact Or.inl (by rw [freeF_nat hF h1]; exact h2)
   ·exact Or.inr (h1.trans h2)
theorem ULoop.meas (h : ULoop F σ R σ' R' L L2 k) (hs : PS F own σ R d) (hx : okL (OkV F σ) L) (hy : okL (OkV F σ) L2) (ht : L[k]? = some t) (hu : L2[k]? = some u) {f s : Nat} (hm : freeF F R < f ∨ (freeF F R ≤ f ∧ (1 + szL (rsL R L)) + (1 + szL (rsL R L2)) ≤ s + 1)) : freeF F R' < f ∨ (freeF F R' ≤ f ∧ (t.rs R').sz + (u.rs R').sz ≤ s) := by
 rcases h.less with h1 | h1
 ·rcases hm with hm | hm
  ·exact Or.inl (by omega)
  ·exact Or.inl (by omega)
 ·have hf := freeF_nat hs.pos h1
  rcases hm with hm | ⟨hm, hz⟩
  ·exact Or.inl (by omega)
  ·refine Or.inr ⟨by omega, ?_⟩
   have o1 := okL_mem.1 hx t (List.mem_of_getElem? ht)
   have o2 := okL_mem.1 hy u (List.mem_of_getElem? hu)
   have m1 : t.rs R ∈ rsL R L := by rw [rsL_map]; exact List.mem_map_of_mem (List.mem_of_getElem? ht)
   have m2 : u.rs R ∈ rsL R L2 := by rw [rsL_map]; exact List.mem_map_of_mem (List.mem_of_getElem? hu)
   rw [h.rs o1, h.rs o2, h1, hs.apN o1, hs.apN o2]
   have := szL_mem m1
   have := szL_mem m2
   omega
/-- All pairs are made one. -/
theorem ULoop.all (h : ULoop F σ R σ' R' L L2 L.length) (hs : PS F own σ R d) (hl : L.length = L2.length) (hx : okL (OkV F σ) L) (hy : okL (OkV F σ) L2) : Un (natR R) ((rsL R L).zip (rsL R L2)) (.ok (natR R')) ∧ rsL R' L = rsL R' L2 := by
 have h1 := h.un
 have e : ((rsL R L).zip (rsL R L2)).take L.length = (rsL R L).zip (rsL R L2) := List.take_of_length_le (by simp [rsL_len, hl])
 rw [e] at h1
 refine ⟨h1, ?_⟩
 rw [h.parts hx, h.parts hy]
 exact (zip_made (by rw [rsL_len, rsL_len, hl])).1 (un_ok h1 rfl hs.idemN).2.2
theorem ULoop.uex (h : ULoop F σ R σ' R' L L2 L.length) (S : List UInt8) : UEx F σ R σ' R' (.c S (rsL R' L)) := ⟨h.okv, fun j z hj hz => (h.stay j z hj hz).imp id (fun ⟨t, h1, h2⟩ => .part (List.mem_of_mem_take h1) h2), h.less⟩
theorem ULoop.kept (h : ULoop F σ R σ' R' L L2 L.length) {S : List UInt8} {v : Int} {z : Rw} (hv : σ v = some z) (hz : z.V = 0) (he : R' v = .c S (rsL R' L)) : σ' v = some z := by
 rcases h.stay v z hv hz with h1 | ⟨t, h1, h2⟩
 ·exact h1
 ·exfalso
  have h3 := h2.sz
  have h4 := szL_mem (List.mem_of_mem_take h1)
  rw [he, Ty.sz] at h3
  omega
theorem ULoop.join (h : ULoop F σ R σ' R' L L2 L.length) (hs : PS F own σ R d) (hs' : PS F own' σ' R' d') (hl : L.length = L2.length) (hx : okL (OkV F σ) L) (hy : okL (OkV F σ) L2) {S : List UInt8} {u v : Int} (hne : u ≠ v) (su : σ u = some (.mk 0 S L)) (sv : σ v = some (.mk 0 S L2)) : σ' u ≠ none ∧ (∃ d'', PS F own' (upd σ' u (.mk v [] [])) R' d'') ∧ UEx F σ R (upd σ' u (.mk v [] [])) R' (.c S (rsL R' L)) := by
 have hu := hs.okv su
 have hv := hs.okv sv
 have e1 : R' u = .c S (rsL R' L) := by
  rw [(h.okv u hu).2, ← (hs.rs_known su).1, rs_name R (x := .mk 0 S L) rfl, Ty.ap, h.parts hx]
  rfl
 have e2 : R' v = .c S (rsL R' L) := by
  rw [(h.all hs hl hx hy).2, (h.okv v hv).2, ← (hs.rs_known sv).1, rs_name R (x := .mk 0 S L2) rfl, Ty.ap, h.parts hy]
  rfl
 have k1 := h.kept su rfl e1
 have k2 := h.kept sv rfl e2
 refine ⟨fun c => by (rw [k1] at c; cases c), hs'.join (h.okv u hu).1 (h.okv v hv).1 k1 k2 rfl rfl hne (by rw [e1, e2]), fun w hw => ⟨okv_upd _ (h.okv w hw).1, (h.okv w hw).2⟩, fun j z hj hz => ?_, h.less⟩
 by_cases e : j = u
 ·subst e
  exact Or.inr (by rw [e1]; exact .refl _)
 ·rw [upd_other _ e]
  exact (h.uex S).stay j z hj hz
end
end Go.Proofs.YtnebhiaeechpaaaDoor
