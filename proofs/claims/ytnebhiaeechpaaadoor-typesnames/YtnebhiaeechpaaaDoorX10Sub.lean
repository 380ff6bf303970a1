/-
 Layer 10, plain: parts of types; what is known behind a unification, as the program's table is. No program is named.
-/
import Derived.Test.YtnebhiaeechpaaaDoorX10Ext
import Derived.Test.YtnebhiaeechpaaaDoorX10Tot
namespace Go.Proofs.YtnebhiaeechpaaaDoor
set_option linter.unusedVariables false
set_option linter.unusedSimpArgs false
/-- A type stands within another one, or is it. -/
inductive Sub : Ty → Ty → Prop
 | refl (t : Ty) : Sub t t
 | part {x y : Ty} {s : List UInt8} {l : List Ty} (h : y ∈ l) (k : Sub x y) : Sub x (.c s l)
theorem Sub.sz {x y : Ty} (h : Sub x y) : x.sz ≤ y.sz := by
 induction h with
 | refl => exact Nat.le_refl _
 | part h k ih =>
  have := szL_mem h
  rw [Ty.sz]
  omega
theorem Sub.ap {x y : Ty} (q : Nat → Ty) (h : Sub x y) : Sub (x.ap q) (y.ap q) := by
 induction h with
 | refl => exact .refl _
 | part h k ih =>
  rw [Ty.ap]
  refine .part ?_ ih
  rw [apL_map]
  exact List.mem_map_of_mem h
/-- What the variables that were handed are. -/
def natR (R : Int → Ty) (n : Nat) : Ty := R (n : Int)
/-- What has become of a table: q is put for what was handed; names stay, but those that were made one with a part of t. -/
structure UEx (F : List Int) (σ : Int → Option Rw) (R : Int → Ty) (σ' : Int → Option Rw) (R' : Int → Ty) (t : Ty) : Prop where
 okv : ∀ u, OkV F σ u → OkV F σ' u ∧ R' u = (R u).ap (natR R')
 stay : ∀ k z, σ k = some z → z.V = 0 → σ' k = some z ∨ Sub (R' k) t
 less : freeF F R' < freeF F R ∨ natR R' = natR R
section
variable {F : List Int} {own : Nat} {σ : Int → Option Rw} {R : Int → Ty} {d : Int → Nat}
theorem PS.idemN (h : PS F own σ R d) : Idem (natR R) := h.idem
theorem PS.apN (h : PS F own σ R d) {x : Rw} (hx : x.ok (OkV F σ)) : (x.rs R).ap (natR R) = x.rs R := h.idem_rs hx
/-- One pair more. -/
theorem un_next {r q : Nat → Ty} {ps : List (Ty × Ty)} {a b a' b' : Ty} {e : Except Nat (Nat → Ty)} (h : Un r ps (.ok q)) (hi : Idem q) (k : Un q [(a', b')] e) (ha : a'.ap q = a.ap q) (hb : b'.ap q = b.ap q) : Un r (ps ++ [(a, b)]) e := by
 refine un_join h rfl (un_alike k hi ?_)
 unfold Alike
 simp [ha, hb]
theorem Cmp.uex {σ' : Int → Option Rw} (hs : PS F own σ R d) (h : Cmp σ σ') (t : Ty) : UEx F σ R σ' R t := by
 refine ⟨fun u hu => ⟨h.okv.2 hu, ?_⟩, fun k z hk hz => Or.inl (h.name k z hk hz), Or.inr rfl⟩
 refine (Ty.ap_id _ (fun m hm => ?_)).symm
 obtain ⟨_, h2⟩ := hs.occ_free hu hm
 exact hs.free (m : Int) h2 (by omega)
theorem UEx.ok {σ' : Int → Option Rw} {R' : Int → Ty} {t : Ty} (h : UEx F σ R σ' R' t) {x : Rw} (hx : x.ok (OkV F σ)) : x.ok (OkV F σ') := x.ok_mono (fun _ hu => (h.okv _ hu).1) hx
theorem UEx.rs {σ' : Int → Option Rw} {R' : Int → Ty} {t : Ty} (h : UEx F σ R σ' R' t) {x : Rw} (hx : x.ok (OkV F σ)) : x.rs R' = (x.rs R).ap (natR R') := x.rs_ap (fun u hu => (h.okv u hu).2) hx
end
end Go.Proofs.YtnebhiaeechpaaaDoor
