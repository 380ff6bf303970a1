/-
 Layer 10: a Table as the statements see it: just which variables were handed. No condition but that it lies in memory.
-/
import Derived.Test.YtcfgfclapljilaaDoorL10Tbn
import Derived.Test.YtcfgfclapljilaaDoorL10Awake
namespace Go.Proofs.YtcfgfclapljilaaDoor
open Go.ChangeShapes Go.WideShapes Go.ChangeAt Go.RowKit Go.Deep
set_option linter.unusedVariables false
set_option linter.unusedSimpArgs false
def TBs (A : Nat → Prop) (w : World) (tb q r : Nat) (n : Nat) (V : List Int) (ρ : Nat → Ty) : Prop := ∃ F : List Int, F.length ≤ n ∧ (∀ v, v ∈ F ↔ v ∈ V) ∧ TB A w tb q r F ρ
section
variable {A : Nat → Prop} {w : World} {tb q r n : Nat} {V : List Int} {ρ : Nat → Ty}
theorem TBs.lt (h : TBs A w tb q r n V ρ) : ∀ g, Own3 tb q r g → g < w.heap.size := by
 obtain ⟨F, h1, h0, h2⟩ := h
 exact h2.lt
theorem TBs.only (h : TBs A w tb q r n V ρ) {S : Nat → Prop} {w' : World} (k : Only S w w') (hS : ∀ g, S g → A g) : TBs A w' tb q r n V ρ := by
 obtain ⟨F, h1, h0, h2⟩ := h
 exact ⟨F, h1, h0, h2.only k hS⟩
theorem TBs.below (h : TBs A w tb q r n V ρ) {w' : World} (k : Below w.heap.size w w') : TBs A w' tb q r n V ρ := by
 obtain ⟨F, h1, h0, h2⟩ := h
 exact ⟨F, h1, h0, h2.below k⟩
theorem TBs.drew (h : TBs A w tb q r n V ρ) : TBs A w.drew tb q r n V ρ := h.below ⟨rfl, rfl, rfl, Nat.le_refl _, fun _ _ => rfl⟩
theorem TBs.aug (h : TBs A w tb q r n V ρ) {A' : Nat → Prop} (k : ∀ g, A' g → A g ∨ w.heap.size ≤ g) : TBs A' w tb q r n V ρ := by
 obtain ⟨F, h1, h0, h2⟩ := h
 exact ⟨F, h1, h0, h2.aug k⟩
theorem TBs.iff (h : TBs A w tb q r n V ρ) {V' : List Int} (k : ∀ v, v ∈ V ↔ v ∈ V') : TBs A w tb q r n V' ρ := by
 obtain ⟨F, h1, h0, h2⟩ := h
 exact ⟨F, h1, fun v => (h0 v).trans (k v), h2⟩
theorem TBs.idem (h : TBs A w tb q r n V ρ) : Idem ρ := by
 obtain ⟨F, h1, h0, h2⟩ := h
 exact h2.idem
theorem new_s (w : World) {A : Nat → Prop} (hA : ∀ g, A g → g < w.heap.size) : Calls Tryd.prog 10 #[] w fun e w' => e = .returned (.pointer (some ⟨w.heap.size + 2, 0, none⟩)) ∧ TBs A w' (w.heap.size + 2) w.heap.size (w.heap.size + 1) 0 [] Ty.v ∧ Below w.heap.size w w' := by
 refine (api_new w hA).mono ?_
 rintro e w' ⟨h1, h2, h3⟩
 exact ⟨h1, ⟨_, Nat.le_refl _, fun v => Iff.rfl, h2⟩, h3⟩
theorem size_s (h : TBs A w tb q r n V ρ) {x : Rw} {ao : Option Addr} (c : Nat) (hx : x.may = true) (hsx : x.sz ≤ 100000) (bx : Bd x) (hrx : RT (fun g => ¬ Own3 tb q r g) w x.L ao) (hn : n + x.sz ≤ 300000) {most : Nat} (hm : most ≤ 90000) : Calls Tryd.prog 12 #[.pointer (some ⟨tb, 0, none⟩), .agg #[.int .i64 x.V, .string ⟨x.S.toArray⟩, .slice ao x.L.length c], .int .i64 (most : Int)] w fun e w' => e = .returned (.int .i64 ((min (x.ty.ap ρ).sz (most + 1) : Nat) : Int)) ∧ TBs A w' tb q r (n + x.sz) (V ++ x.vi) ρ ∧ Only (Own3 tb q r) w w' := by
 obtain ⟨F, h1, h0, h2⟩ := h
 refine (api_size h2 c hx hsx bx hrx (by omega) hm).mono ?_
 rintro e w' ⟨k1, k2, k3⟩
 have := viL_le F [x]
 rw [sz_one] at this
 exact ⟨k1, ⟨_, by omega, fun v => by simp [viL, h0], k2⟩, k3⟩
theorem vars_s (h : TBs A w tb q r n V ρ) {x : Rw} {ao : Option Addr} (c : Nat) (hx : x.may = true) (hsx : x.sz ≤ 100000) (bx : Bd x) (hrx : RT (fun g => ¬ Own3 tb q r g) w x.L ao) (hn : n + x.sz ≤ 300000) : Calls Tryd.prog 15 #[.pointer (some ⟨tb, 0, none⟩), .agg #[.int .i64 x.V, .string ⟨x.S.toArray⟩, .slice ao x.L.length c]] w fun e w' => ∃ v, e = .returned v ∧ TBs A w' tb q r (n + x.sz) (V ++ x.vi) ρ ∧ Only (Own3 tb q r) w w' := by
 obtain ⟨F, h1, h0, h2⟩ := h
 refine (api_vars h2 c hx hsx bx hrx (by omega)).mono ?_
 rintro e w' ⟨v, k1, k2, k3⟩
 have := viL_le F [x]
 rw [sz_one] at this
 exact ⟨v, k1, ⟨_, by omega, fun v => by simp [viL, h0], k2⟩, k3⟩
def ResS (A : Nat → Prop) (tb q r n : Nat) (V : List Int) (ρ : Nat → Ty) (t : Rw) (w : World) (e : Ending) (w' : World) : Prop := ∃ (al : Option Addr) (cp : Nat), e = .returned (.agg #[.int .i64 t.V, .string ⟨t.S.toArray⟩, .slice al t.L.length cp]) ∧ TBs A w' tb q r n V ρ ∧ RT (fun g => w.heap.size ≤ g) w' t.L al ∧ Only (Own3 tb q r) w w' ∧ Bd t
theorem res_s (h : TBs A w tb q r n V ρ) {x : Rw} {ao : Option Addr} (c : Nat) (hx : x.may = true) (hsx : x.sz ≤ 100000) (bx : Bd x) (hrx : RT (fun g => ¬ Own3 tb q r g) w x.L ao) (hn : n + x.sz ≤ 300000) : Calls Tryd.prog 13 #[.pointer (some ⟨tb, 0, none⟩), .agg #[.int .i64 x.V, .string ⟨x.S.toArray⟩, .slice ao x.L.length c]] w fun e w' => ResS A tb q r (n + x.sz) (V ++ x.vi) ρ (x.ty.ap ρ).rw w e w' := by
 obtain ⟨F, h1, h0, h2⟩ := h
 refine (api_resolve h2 c hx hsx bx hrx (by omega)).mono ?_
 rintro e w' ⟨al, cp, k1, k2, k3, k4, k5⟩
 have := viL_le F [x]
 rw [sz_one] at this
 exact ⟨al, cp, k1, ⟨_, by omega, fun v => by simp [viL, h0], k2⟩, k3, k4, k5⟩
def UnifyS (A : Nat → Prop) (tb q r n : Nat) (V : List Int) (ρ : Nat → Ty) (x y : Rw) (w : World) (e : Ending) (w' : World) : Prop := ∃ ev : Int, e = .returned (.int .i64 ev) ∧ Only (Own3 tb q r) w w' ∧ (ev = 3 ∨ (∃ c, Un ρ [(x.ty, y.ty)] (.error c) ∧ ev = if c = 1 then 26 else 25) ∨ ∃ ρ', Un ρ [(x.ty, y.ty)] (.ok ρ') ∧ ev = 0 ∧ TBs A w' tb q r (n + (x.sz + y.sz)) (V ++ (x.vi ++ y.vi)) ρ')
theorem unify_s (hA : ∀ g, A g → g < w.heap.size) (h : TBs A w tb q r n V ρ) {x y : Rw} {ao bo : Option Addr} (c d : Nat) (hx : x.may = true) (hy : y.may = true) (hsx : x.sz + y.sz ≤ 100000) (bx : Bd x) (by' : Bd y) (hrx : RT (fun g => ¬ Own3 tb q r g) w x.L ao) (hry : RT (fun g => ¬ Own3 tb q r g) w y.L bo) (hn : n + (x.sz + y.sz) ≤ 300000) : Calls Tryd.prog 11 #[.pointer (some ⟨tb, 0, none⟩), .agg #[.int .i64 x.V, .string ⟨x.S.toArray⟩, .slice ao x.L.length c], .agg #[.int .i64 y.V, .string ⟨y.S.toArray⟩, .slice bo y.L.length d]] w fun e w' => UnifyS A tb q r n V ρ x y w e w' := by
 obtain ⟨F, h1, h0, h2⟩ := h
 refine (api_unify hA h2 c d hx hy hsx bx by' hrx hry (by omega)).mono ?_
 have := viL_le F [x, y]
 rw [sz_two] at this
 rintro e w' (⟨k1, k2, k3⟩ | ⟨k1, k2, k3, k4⟩)
 ·exact ⟨3, k1, k3, Or.inl rfl⟩
 ·rcases k4 with ⟨c', k4, k5⟩ | ⟨ρ', k4, k5, k6⟩
  ·exact ⟨_, k5, k3, Or.inr (Or.inl ⟨c', k4, rfl⟩)⟩
  ·exact ⟨0, k5, k3, Or.inr (Or.inr ⟨ρ', k4, rfl, ⟨_, by omega, fun v => by simp [viL, h0], k6⟩⟩)⟩
theorem fresh_s (h : TBs A w tb q r n V ρ) (hF : ∀ v, v ∈ V → v ≤ 9223372036854775807) : Calls Tryd.prog 24 #[.pointer (some ⟨tb, 0, none⟩)] w fun e w' => ∃ hi, HiF V hi ∧ e = .returned (.agg #[.int .i64 (frI hi), .string ⟨#[]⟩, .slice none 0 0]) ∧ Only (Own3 tb q r) w w' := by
 obtain ⟨F, h1, h0, h2⟩ := h
 refine (api_fresh h2 (fun v hv => hF v ((h0 v).1 hv))).mono ?_
 rintro e w' ⟨hi, k1, k2, k3, _⟩
 exact ⟨hi, ⟨fun v hv => k1.top v ((h0 v).2 hv), k1.one.imp id (fun h => (h0 hi).1 h), k1.pos⟩, k2, k3⟩
/-- A star of parts is made one as the parts are. -/
theorem un_star {s : List UInt8} {l l' : List Ty} (hl : l.length = l'.length) {e : Except Nat (Nat → Ty)} (h : Un Ty.v (l.zip l') e) : Un Ty.v [(.c s (.c sInt [] :: l), .c s (.c sInt [] :: l'))] e := by
 refine .parts (s := s) (l := .c sInt [] :: l) (l' := .c sInt [] :: l') (ap_v _) (ap_v _) (by simp [hl]) ?_
 rw [List.zip_cons_cons, List.cons_append, List.append_nil]
 refine .parts (s := sInt) (l := []) (l' := []) (ap_v _) (ap_v _) rfl ?_
 simpa using h
end
end Go.Proofs.YtcfgfclapljilaaDoor
