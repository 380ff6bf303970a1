/-
 Layer 10: the program's others and vars: which variables stand in a type as far as it is known. Condition: the Table lies in memory.
-/
import Derived.Test.YtnebhiaeechpaaaDoorP10Nodes
import Derived.Test.YtnebhiaeechpaaaDoorX10Vw
import Derived.Deep.AppendLies
namespace Go.Proofs.YtnebhiaeechpaaaDoor
open Go.ChangeShapes Go.WideShapes Go.ChangeAt Go.RowKit Go.Deep
set_option linter.unusedVariables false
set_option linter.unusedSimpArgs false
set_option maxHeartbeats 4000000
set_option maxRecDepth 20000
def i64v (k : Int) : Value := .int .i64 k
/-- Numbers in a row of the call's own. -/
def IW (w : World) (B : Nat) (v : Value) (l : List Int) : Prop := w.ownsRow B 3 1 v l.length (l.map i64v)
section
variable {w w' : World} {B : Nat} {v : Value} {l : List Int}
theorem IW.slice (h : IW w B v l) : ∃ ao c, v = .slice ao l.length c := by
 rcases h.2 with ⟨rfl, e⟩ | ⟨g, cap, cur, rfl, _⟩
 ·rw [e]; exact ⟨none, 0, rfl⟩
 ·exact ⟨_, cap, rfl⟩
theorem IW.own (h : IW w B v l) : ∀ g, v.ownBlock = some g → B ≤ g ∧ g < w.heap.size := fun g hg => h.lt g hg
theorem IW.keep (h : IW w B v l) (k : ∀ g, v.ownBlock = some g → w'.heap[g]? = w.heap[g]?) : IW w' B v l := by
 refine ⟨h.1, ?_⟩
 rcases h.2 with c | ⟨g, cap, cur, e, hb, hg, rest⟩
 ·exact Or.inl c
 ·exact Or.inr ⟨g, cap, cur, e, hb, (k g (by rw [e]; rfl)).trans hg, rest⟩
theorem IW.alloc (h : IW w B v l) (o : Obj) : IW (w.alloc o) B v l := h.keep (fun g hg => blk_alloc_lt _ _ _ (h.own g hg).2)
theorem IW.nil (w : World) (B : Nat) : IW w B (.slice none 0 0) [] := ⟨rfl, Or.inl ⟨rfl, rfl⟩⟩
end
theorem int_new (w : World) (b : Int) : (w.alloc (.cells #[.int .i64 b] 3)).cell? ⟨w.heap.size, 0, none⟩ = some (.int .i64 b) := by
 have h9 := blk_alloc_new w (.cells #[.int .i64 b] 3)
 unfold World.cell?
 rw [h9]
 rfl
theorem infoI10 : (Tryd.prog.info? 3).map (fun i => (i.zero, i.size, i.bytes)) = some (some (.int .i64 0), 1, 8) := by kernel_rfl
theorem append_int {w : World} {ops : Array Oper} {rest : List Oper} {o : Oper} {a : Act} {Q : Exit → Act → World → Prop} (hgd : o.guard = none) (s x : Operand)
  (ho : o.op = .call { callee := .builtin .append, args := #[s, x], argTypes := #[35, 35] }) (B : Nat) (v : Value) (l : List Int) (hs : a.eval s = v) (hown : IW w B v l)
  (gx c : Nat) (b : Int) (hx : a.eval x = .slice (some ⟨gx, 0, none⟩) 1 c) (hu : w.cell? ⟨gx, 0, none⟩ = some (.int .i64 b)) (hn : l.length < 10000000000) (hB : B ≤ w.heap.size)
  (h : ∀ g cap w', IW w' B (.slice (some ⟨g, 0, none⟩) (l.length + 1) cap) (l ++ [b]) → w.grownBy w' v.ownBlock → (v.ownBlock = some g ∨ g = w.heap.size) → wpList Tryd.prog ops Q rest (a.put o.dst (.slice (some ⟨g, 0, none⟩) (l.length + 1) cap)) w') : wpList Tryd.prog ops Q (o :: rest) a w := by
 obtain ⟨i0, hi, hz0, hz1, hz2⟩ := info_parts infoI10
 refine wpList_append_lies w hgd s x 35 ho B 3 i0 _ 1 8 Tryd.underlying35 hi hz0 hz1 hz2 rfl (by decide) v l.length (l.map i64v) hs hown ⟨gx, 0, none⟩ 1 c [.int .i64 b] hx rfl ?_ ?_ (by omega) (by unfold maxLen; omega) (by omega) hB _ rfl ?_
 ·intro j y hy
  match j, hy with
  | 0, hy => simp at hy; subst hy; exact hu
 ·intro y hy
  simp at hy
  subst hy
  rfl
 ·intro g cap w' q1 q2 q3 _
  refine h g cap w' ?_ q2 q3
  unfold IW
  rw [List.map_append, List.length_append]
  exact q1
/-- What others may turn: the Table's blocks, and the row. -/
def OwnV (tb q r : Nat) (v : Value) (g : Nat) : Prop := Own3 tb q r g ∨ v.ownBlock = some g
/-- The room of a type that was met: names count their parts alone. -/
def bnd (R : Int → Ty) (x : Rw) : Nat := (x.rs R).sz - nam x
def OthersAs (O : Nat → Prop) (tb q r K own : Nat) (hi : Int) (F : List Int) (R : Int → Ty) (d : Int → Nat) (B : Nat) (σ : Int → Option Rw) (μ : Int → Option Int) (v : Value) (l : List Int) (t : Ty) (b : Nat) (w : World) (e : Ending) (w' : World) : Prop := ∃ (σ' : Int → Option Rw) (μ' : Int → Option Int) (nm' : Nat) (v' : Value) (l' : List Int), e = .returned v' ∧ Cmp σ σ' ∧ PS F own σ' R d ∧ PT O w' tb q r K nm' own hi σ' μ' ∧ IW w' B v' l' ∧ Only (OwnV tb q r v) w w' ∧ (v'.ownBlock = v.ownBlock ∨ ∀ g, v'.ownBlock = some g → w.heap.size ≤ g) ∧ VCnt (allV F own) μ' nm' l' ∧ VStep R t b μ l μ' l'
def OthersFor (O : Nat → Prop) (tb q r K own : Nat) (hi : Int) (F : List Int) (R : Int → Ty) (d : Int → Nat) (B : Nat) (s : Nat) : Prop := ∀ (σ : Int → Option Rw) (μ : Int → Option Int) (nm : Nat) (w : World) (x : Rw) (ao : Option Addr) (c : Nat) (v : Value) (l : List Int), 2 * (x.rs R).sz + 1 ≤ s + nam x → x.sz ≤ 2000000 → PT O w tb q r K nm own hi σ μ → PS F own σ R d → x.ok (OkV F σ) → RT (fun g => ¬ Own3 tb q r g ∧ g < B) w x.L ao → IW w B v l → VCnt (allV F own) μ nm l → ClosedM R μ l (bnd R x) → B ≤ w.heap.size →
  Calls Tryd.prog 43 #[.pointer (some ⟨tb, 0, none⟩), .agg #[.int .i64 x.V, .string ⟨x.S.toArray⟩, .slice ao x.L.length c], v] w fun e w' => OthersAs O tb q r K own hi F R d B σ μ v l (x.rs R) (bnd R x) w e w'
/-- How it stands while parts are gone through. -/
def InV (O : Nat → Prop) (tb q r K own : Nat) (hi : Int) (F : List Int) (R : Int → Ty) (d : Int → Nat) (B : Nat) (σ : Int → Option Rw) (μ : Int → Option Int) (v : Value) (l : List Int) (S : List UInt8) (Z : List Ty) (b : Nat) (w0 : World) (vv iv : Value) (wr : World) : Prop := ∃ (k : Nat) (σ' : Int → Option Rw) (μ' : Int → Option Int) (nm' : Nat) (l' : List Int), k ≤ Z.length ∧ iv = .int .i64 (k : Int) ∧ Cmp σ σ' ∧ PS F own σ' R d ∧ PT O wr tb q r K nm' own hi σ' μ' ∧ IW wr B vv l' ∧ Only (OwnV tb q r v) w0 wr ∧ (vv.ownBlock = v.ownBlock ∨ ∀ g, vv.ownBlock = some g → w0.heap.size ≤ g) ∧ VCnt (allV F own) μ' nm' l' ∧ VStep R (.c S (Z.take k)) b μ l μ' l'
section
variable {O : Nat → Prop} {tb q r K own : Nat} {hi : Int} {F : List Int} {R : Int → Ty} {d : Int → Nat} {B : Nat}
theorem others_name (hK : K ≤ 1000000000) (hF : F.length ≤ 1000000) (hOB : ∀ g, O g ∨ Own3 tb q r g → g < B) {s : Nat} (IH : OthersFor O tb q r K own hi F R d B s) (σ : Int → Option Rw) (μ : Int → Option Int) (nm : Nat) (w : World) (S : List UInt8) (L : List Rw) (ao : Option Addr) (c : Nat) (v : Value) (l : List Int) (hm : 2 * ((Rw.mk 0 S L).rs R).sz + 1 ≤ s + 1 + 1) (hsz : szRL L ≤ 2000000) (h : PT O w tb q r K nm own hi σ μ) (hs : PS F own σ R d) (hx : okL (OkV F σ) L) (hrt : RT (fun g => ¬ Own3 tb q r g ∧ g < B) w L ao) (hw : IW w B v l) (hc : VCnt (allV F own) μ nm l) (hcl : ClosedM R μ l (bnd R (.mk 0 S L))) (hB : B ≤ w.heap.size) :
  Calls Tryd.prog 43 #[.pointer (some ⟨tb, 0, none⟩), .agg #[.int .i64 0, .string ⟨S.toArray⟩, .slice ao L.length c], v] w fun e w' => OthersAs O tb q r K own hi F R d B σ μ v l ((Rw.mk 0 S L).rs R) (bnd R (.mk 0 S L)) w e w' := by
 have es : (Rw.mk 0 S L).rs R = .c S (rsL R L) := rs_name R (x := .mk 0 S L) rfl
 have eb : bnd R (.mk 0 S L) = szL (rsL R L) := by
  unfold bnd
  rw [es, Ty.sz]
  show 1 + szL (rsL R L) - 1 = _
  omega
 rw [es, Ty.sz] at hm
 rw [eb] at hcl
 rw [es, eb]
 obtain ⟨Z, hZ⟩ : ∃ Z, rsL R L = Z := ⟨_, rfl⟩
 have HZl : Hid (Z.length = L.length) := by show _ = _; rw [← hZ, rsL_len]
 have HZ := hidden hZ
 rw [hZ] at hm hcl ⊢
 have HS := hidden hs
 have HI := hidden IH
 have HX := hidden hx
 have HCL := hidden hcl
 have HC := hidden hc
 have how := h.ow
 have HOB := hidden hOB
 have HB : Hid (∀ g, OwnV tb q r v g → g < w.heap.size) := fun g hg => by
  rcases hg with hg | hg
  ·exact h.own_lt g hg
  ·exact (hw.own g hg).2
 obtain ⟨vo, vc, rfl⟩ := hw.slice
 have T0 := hidden (h.alloc (.cells #[.int .i64 0, .string ⟨S.toArray⟩, .slice ao L.length c] 24))
 have X0 := hidden (hrt.alloc (.cells #[.int .i64 0, .string ⟨S.toArray⟩, .slice ao L.length c] 24))
 have W0 := hidden (hw.alloc (.cells #[.int .i64 0, .string ⟨S.toArray⟩, .slice ao L.length c] 24))
 have A0 := hidden (B3.new w 0 ⟨S.toArray⟩ (.slice ao L.length c))
 have L0 := hidden ((Only.refl (OwnV tb q r (.slice vo l.length vc)) w).alloc (.cells #[.int .i64 0, .string ⟨S.toArray⟩, .slice ao L.length c] 24))
 have SZ := hidden (nblk_alloc w (.cells #[.int .i64 0, .string ⟨S.toArray⟩, .slice ao L.length c] 24))
 obtain ⟨vv, hvv⟩ : ∃ vv, Value.slice vo l.length vc = vv := ⟨_, rfl⟩
 rw [hvv] at W0 L0 HB ⊢
 clear h hs IH hx hrt hZ hw hc hcl hOB es eb hvv
 go_enter Tryd.func43, Tryd.ntmps43
 go_upto_region 1 with fail
 generalize w.alloc (.cells #[.int .i64 0, .string ⟨S.toArray⟩, .slice ao L.length c] 24) = w0 at *
 obtain ⟨n, hn⟩ : ∃ n, L.length = n := ⟨_, rfl⟩
 rw [hn] at A0 HZl ⊢
 have HLy := hidden hn
 clear hn
 obtain ⟨a0, a1, a2, af⟩ := A0.out.cells
 clear a0 a1 af
 go_wp2_with fail
 clear a2
 go_loopw [2, 17] (fun v2 iv wr => InV O tb q r K own hi F R d B σ μ vv l S Z (szL Z) w0 v2 iv wr) (fun v2 iv wr => (n - intOf iv).toNat)
 case atStart => exact ⟨0, σ, μ, nm, l, Nat.zero_le _, rfl, Cmp.refl σ, HS.out, T0.out, W0.out, Only.refl _ _, Or.inl rfl, HC.out, by rw [List.take_zero]; exact VStep.nil R S _ μ l⟩
 case round =>
  obtain ⟨k, σ1, μ1, nm1, l1, k1, rfl, g1, g2, g3, g4, g5, g6, g7, g8⟩ := hrel
  rw [HZl.out] at k1
  have G1 := hidden g1
  have G2 := hidden g2
  have G3 := hidden g3
  have G4 := hidden g4
  have G5 := hidden g5
  have G6 := hidden g6
  have G7 := hidden g7
  have G8 := hidden g8
  have AR : Hid (B3 wr w.heap.size 0 ⟨S.toArray⟩ (.slice ao n c)) := A0.out.keep (g5.block _ A0.out.lt (fun e => by have h9 := HB.out _ e; omega))
  have hszw := g5.size
  have hk9 : k ≤ 2000000 := by have h9 := len_szRL L; have h8 := HLy.out; omega
  clear g1 g2 g3 g4 g5 g6 g7 g8
  by_cases hlt : k < n
  ·have z1 : (k : Int) < (n : Int) := by omega
   have zi : (0 : Int) ≤ (k : Int) ∧ (k : Int) < (n : Int) := ⟨by omega, z1⟩
   obtain ⟨t, ht⟩ : ∃ t, L[k]? = some t := ⟨_, List.getElem?_eq_getElem (by rw [HLy.out]; exact hlt)⟩
   have htok := okL_mem.1 HX.out t (List.mem_of_getElem? ht)
   have X1 := X0.out.keep (w' := wr) (fun g hg hl => G5.out.block g hl (fun e => by
    rcases e with e | e
    ·exact hg.1 e
    ·have h9 := (W0.out.own g e).1; omega))
   obtain ⟨a, al2, cp2, rfl, t0, t1, t2, hv, hr2⟩ := rt_part X1 ht
   have hZk : Z[k]? = some (t.rs R) := by rw [← HZ.out, rsL_map, List.getElem?_map, ht]; rfl
   have hts := take_succ_sz hZk
   have htl := szL_take Z (k + 1)
   have hnt : nam t ≤ 1 := by unfold nam; split <;> omega
   have hbt : bnd R t ≤ szL Z := by unfold bnd; omega
   obtain ⟨uo, uc, rfl⟩ := G4.out.slice
   have R2 := hidden (hr2.alloc (.cells #[.int .i64 t.V, .string ⟨t.S.toArray⟩, .slice al2 t.L.length cp2] 24))
   have T2 := hidden (G3.out.alloc (.cells #[.int .i64 t.V, .string ⟨t.S.toArray⟩, .slice al2 t.L.length cp2] 24))
   have B2 := hidden (B3.new wr t.V ⟨t.S.toArray⟩ (.slice al2 t.L.length cp2))
   have I2 := hidden (G4.out.alloc (.cells #[.int .i64 t.V, .string ⟨t.S.toArray⟩, .slice al2 t.L.length cp2] 24))
   have O2 := hidden (G5.out.alloc (.cells #[.int .i64 t.V, .string ⟨t.S.toArray⟩, .slice al2 t.L.length cp2] 24))
   have S2 := hidden (nblk_alloc wr (.cells #[.int .i64 t.V, .string ⟨t.S.toArray⟩, .slice al2 t.L.length cp2] 24))
   have HN := hidden (HI.out σ1 μ1 nm1 _ t al2 cp2 (.slice uo l1.length uc) l1 (by omega) (by have h9 := sz_part (List.mem_of_getElem? ht); omega) T2.out G2.out (G1.out.ok htok) R2.out I2.out G7.out ((G8.out.closed HCL.out).less hbt) (by have h9 := S2.out; have h8 := SZ.out; omega))
   have HTK : Hid (Z.take (k + 1) = Z.take k ++ [t.rs R]) := by
    show _ = _
    obtain ⟨q1, q2⟩ := List.getElem?_eq_some_iff.1 hZk
    rw [List.take_succ_eq_append_getElem q1, q2]
   have HBT := hidden hbt
   obtain ⟨vw, hvw⟩ : ∃ vw, Value.slice uo l1.length uc = vw := ⟨_, rfl⟩
   rw [hvw] at HN G4 G6 I2 ⊢
   clear hr2 ht X1 hv htok hZk hts htl hbt hvw
   go_upto_region 4 with fail
   generalize wr.alloc (.cells #[.int .i64 t.V, .string ⟨t.S.toArray⟩, .slice al2 t.L.length cp2] 24) = w1 at *
   clear t0 t1 t2
   obtain ⟨b0, b1, b2, bf⟩ := B2.out.cells
   go_wp2_with fail
   refine HN.out.mono ?_
   rintro e w2 ⟨σ2, μ2, nm2, v2, l2, rfl, j1, j2, j3, j4, j5, j6, j7, j8⟩
   have J1 := hidden (G1.out.trans j1)
   have J2 := hidden j2
   have J3 := hidden j3
   have J4 := hidden j4
   have J5 : Hid (Only (OwnV tb q r vv) w0 w2) := O2.out.fresh j5 (fun g hg => by
    rcases hg with hg | hg
    ·exact Or.inr (Or.inl hg)
    ·rcases G6.out with h9 | h9
     ·exact Or.inr (Or.inr (by rw [← h9]; exact hg))
     ·exact Or.inl (h9 g hg))
   have J6 : Hid (v2.ownBlock = vv.ownBlock ∨ ∀ g, v2.ownBlock = some g → w0.heap.size ≤ g) := by
    rcases j6 with h9 | h9
    ·rcases G6.out with h8 | h8
     ·exact Or.inl (h9.trans h8)
     ·exact Or.inr (fun g hg => h8 g (by rw [← h9]; exact hg))
    ·exact Or.inr (fun g hg => by have h7 := h9 g hg; have h6 := S2.out; omega)
   have J7 := hidden j7
   have J8 := hidden (G8.out.snoc j8 HBT.out)
   clear j1 j2 j3 j4 j5 j6 j7 j8 b0 b1 b2 bf
   go_wp2_with fail
   go_roundw
   case rel => exact ⟨k + 1, σ2, μ2, nm2, l2, by rw [HZl.out]; omega, by go_num, J1.out, J2.out, J3.out, J4.out, J5.out, J6.out, J7.out, by rw [HTK.out]; exact J8.out⟩
   case measure => simp [intOf]; omega
  ·have z1 : ¬ (k : Int) < (n : Int) := by omega
   have HTK : Hid (Z.take k = Z) := List.take_of_length_le (by rw [HZl.out]; omega)
   obtain ⟨a0, a1, a2, af⟩ := AR.out.cells
   go_wp2_with fail
   go_ret
   exact ⟨σ1, μ1, nm1, _, l1, rfl, G1.out, G2.out, G3.out, G4.out, L0.out.trans G5.out, (by
    rcases G6.out with h9 | h9
    ·exact Or.inl h9
    ·exact Or.inr (fun g hg => by have h7 := h9 g hg; have h6 := SZ.out; omega)), G7.out, by have h9 := G8.out; rw [HTK.out] at h9; exact h9⟩
theorem nil_var {x : Rw} {O : Int → Prop} (h : x.ok O) (hv : x.V ≠ 0) : x = .mk x.V [] [] := (ok_var h hv).2
theorem others_var (hK : K ≤ 1000000000) (hF : F.length ≤ 1000000) (hOB : ∀ g, O g ∨ Own3 tb q r g → g < B) {s : Nat} (IH : OthersFor O tb q r K own hi F R d B s) (σ : Int → Option Rw) (μ : Int → Option Int) (nm : Nat) (w : World) (V : Int) (ao : Option Addr) (c : Nat) (v : Value) (l : List Int) (hm : 2 * (R V).sz ≤ s) (h : PT O w tb q r K nm own hi σ μ) (hs : PS F own σ R d) (hx : OkV F σ V) (hw : IW w B v l) (hc : VCnt (allV F own) μ nm l) (hcl : ClosedM R μ l (R V).sz) (hB : B ≤ w.heap.size) :
  Calls Tryd.prog 43 #[.pointer (some ⟨tb, 0, none⟩), .agg #[.int .i64 V, .string ⟨#[]⟩, .slice ao 0 c], v] w fun e w' => OthersAs O tb q r K own hi F R d B σ μ v l (R V) (R V).sz w e w' := by
 have HS := hidden hs
 have HI := hidden IH
 have HX := hidden hx
 have HCL := hidden hcl
 have HC := hidden hc
 have how := h.ow
 have HOB := hidden hOB
 have hb : (V == 0) = false := beq_eq_false_iff_ne.2 (hs.nz hx)
 have HB : Hid (∀ g, OwnV tb q r v g → g < w.heap.size) := fun g hg => by
  rcases hg with hg | hg
  ·exact h.own_lt g hg
  ·exact (hw.own g hg).2
 obtain ⟨vo, vc, rfl⟩ := hw.slice
 have T0 := hidden (h.alloc (.cells #[.int .i64 V, .string ⟨#[]⟩, .slice ao 0 c] 24))
 have W0 := hidden (hw.alloc (.cells #[.int .i64 V, .string ⟨#[]⟩, .slice ao 0 c] 24))
 have A0 := hidden (B3.new w V ⟨#[]⟩ (.slice ao 0 c))
 have L0 := hidden ((Only.refl (OwnV tb q r (.slice vo l.length vc)) w).alloc (.cells #[.int .i64 V, .string ⟨#[]⟩, .slice ao 0 c] 24))
 have SZ := hidden (nblk_alloc w (.cells #[.int .i64 V, .string ⟨#[]⟩, .slice ao 0 c] 24))
 clear h hs IH hx hw hc hcl hOB
 go_enter Tryd.func43, Tryd.ntmps43
 go_upto_region 1 with fail
 generalize w.alloc (.cells #[.int .i64 V, .string ⟨#[]⟩, .slice ao 0 c] 24) = w0 at *
 obtain ⟨a0, a1, a2, af⟩ := A0.out.cells
 clear a1 af
 go_wp2_with fail
 go_loopw [2, 17] (fun v2 iv wr => v2 = .slice vo l.length vc ∧ iv = .int .i64 0 ∧ wr = w0) (fun v2 iv wr => 0)
 case atStart => exact ⟨rfl, rfl, rfl⟩
 case round =>
  obtain ⟨rfl, rfl, rfl⟩ := hrel
  go_wp2_with fail
  refine (last_any hK T0.out HS.out HX.out).mono ?_
  rintro e w1 ⟨u, σ1, rfl, g1, g2, g3, g4, g5, g6, g7⟩
  have W1 : Hid (IW w1 B (.slice vo l.length vc) l) := W0.out.keep (fun g hg => g7.block g (W0.out.own g hg).2 (fun e => by have h9 := HOB.out g (Or.inr e); have h8 := (W0.out.own g hg).1; omega))
  have L1 : Hid (Only (OwnV tb q r (.slice vo l.length vc)) w w1) := L0.out.trans (g7.mono (fun g _ hg => Or.inl hg))
  have G1 := hidden g1
  have G2 := hidden g2
  have G4 := hidden g4
  have G5 := hidden g5
  have G6 := hidden g6
  have hru := g5.rng g1
  have rg : -9223372036854775808 ≤ u ∧ u ≤ 9223372036854775807 := by omega
  have hs7 := g7.size
  have hsw : B ≤ w1.heap.size := by have h9 := SZ.out; omega
  have HCT := hidden (allV_len F own)
  have hlt := HC.out.lt
  rw [HCT.out] at hlt
  have GV := hidden g3
  rw [← g3] at hm HCL
  clear g1 g2 g3 g4 g5 g7 hru hlt a0 a2
  obtain ⟨t0, t1, t2, t3, tf⟩ := g6.cells
  clear t1 t2 tf
  cases hmu : μ u with
  | some y =>
   have l1 := g6.met_yes rg hmu
   have HM : Hid (μ u ≠ none) := by show _ ≠ _; rw [hmu]; simp
   clear g6 hmu
   go_wp2_with fail
   go_ret
   exact ⟨σ1, μ, nm, _, l, rfl, G4.out, G5.out, G6.out, W1.out, L1.out, Or.inl rfl, HC.out, by rw [← GV.out]; exact VStep.met HCL.out HM.out⟩
  | none =>
   have l1 := g6.met_no rg hmu
   have HCP := hidden (HC.out.put (c := u) (G5.out.inAll G1.out) hmu)
   have hlt := HC.out.lt
   rw [HCT.out] at hlt
   obtain ⟨w2, m1, m2, m3⟩ := g6.meet (k := u) (by unfold maxLen; omega) rg u
   have T2 := hidden m2
   have W2 : Hid (IW w2 B (.slice vo l.length vc) l) := W1.out.keep (fun g hg => grown_keep m3 (W1.out.own g hg).2 (fun e => by have h9 := HOB.out g (Or.inr (Or.inr (Or.inr e))); have h8 := (W1.out.own g hg).1; omega))
   have L2 : Hid (Only (OwnV tb q r (.slice vo l.length vc)) w w2) := L1.out.trans (Only.grown m3 (Or.inl (Or.inr (Or.inr rfl))))
   obtain ⟨s0, s1, s2, s3, sf⟩ := m2.cells
   have hs8 := m3.size
   have HMU := hidden hmu
   have HLL := hidden HC.out.2
   clear g6 m2 m3 s1 s2 s3 sf hmu
   rcases G5.out.at_end G1.out G2.out with ⟨z1, z2, z3⟩ | ⟨z, z1, z2, z3, z4⟩
   ·have l2 := (T2.out.val_no rg z1).2
    have hp := (G5.out.pos u z2).1
    have VS := hidden (VStep.one (μ := μ) (l := l) z3 hp)
    have HCA := hidden (HC.out.add (c := u) (G5.out.inAll G1.out) HMU.out u)
    clear z1 z2 z3
    go_upto_region 15 with fail
    have T3 := hidden (T2.out.alloc (.cells #[.int .i64 0, .string ⟨#[]⟩, .slice none 0 0] 24))
    have W3 := hidden (W2.out.alloc (.cells #[.int .i64 0, .string ⟨#[]⟩, .slice none 0 0] 24))
    have L3 := hidden (L2.out.alloc (.cells #[.int .i64 0, .string ⟨#[]⟩, .slice none 0 0] 24))
    have S3 := hidden (nblk_alloc w2 (.cells #[.int .i64 0, .string ⟨#[]⟩, .slice none 0 0] 24))
    generalize w2.alloc (.cells #[.int .i64 0, .string ⟨#[]⟩, .slice none 0 0] 24) = w3 at *
    have hs9 : B ≤ w3.heap.size := by have h9 := S3.out; omega
    have hl9 : l.length < 10000000000 := by have h9 := HLL.out; omega
    clear l1 l2 m1 t0 t3 s0
    go_wp2_with (at_builtin; refine append_int rfl (.tmp 62) (.tmp 64) rfl B (.slice vo l.length vc) l rfl (W3.out.alloc _) w3.heap.size 1 u rfl (int_new _ _) hl9 (by rw [nblk_alloc]; omega) ?_; intro g6 c6 w8 hr6 gr6 or6; have I8 := hidden hr6; have G8 := hidden gr6; have O8 := hidden or6; clear hr6 gr6 or6)
    go_ret
    have hne : ∀ g, O g ∨ Own3 tb q r g → (Value.slice vo l.length vc).ownBlock ≠ some g := fun g hg e => by
     have h9 := HOB.out g hg
     have h8 := (W3.out.own g e).1
     omega
    have T8 : PT O w8 tb q r K (nm + 1) own hi σ1 (updM μ u u) := (T3.out.alloc (.cells #[.int .i64 u] 3)).keep (fun g hg hl => G8.out.block g hl (fun e => hne g hg e.symm))
    have L8 : Only (OwnV tb q r (.slice vo l.length vc)) w w8 := (L3.out.alloc (.cells #[.int .i64 u] 3)).trans ⟨G8.out.os, G8.out.tape, G8.out.output, G8.out.size, fun k hk hs => G8.out.block k hk (fun e => hs (Or.inr e.symm))⟩
    refine ⟨σ1, updM μ u u, nm + 1, _, l ++ [u], rfl, G4.out, G5.out, T8, ?_, L8, ?_, HCA.out, by rw [← GV.out]; exact VS.out⟩
    ·exact I8.out
    ·rcases O8.out with h9 | h9
     ·exact Or.inl h9.symm
     ·refine Or.inr (fun g hg => ?_)
      have e9 : g6 = g := by simpa [Value.ownBlock] using hg
      have h8 := L3.out.size
      rw [nblk_alloc] at h9
      omega
   ·obtain ⟨al, cp, k1, k2, _, l2⟩ := T2.out.val_yes rg z1
    have RK : Hid (RT (fun g => ¬ Own3 tb q r g ∧ g < B) w2 z.L al) := k1.mono (fun g hg _ => ⟨fun e => by
     have h9 := T2.out.ap g hg
     rcases e with e | e | e
     ·exact h9.1 e
     ·exact h9.2.1 e
     ·exact h9.2.2.1 e, HOB.out g (Or.inl hg)⟩)
    obtain ⟨q1, q2⟩ := G5.out.rs_known z1
    obtain ⟨qa, _, qb, _⟩ := G5.out.name u z z1 z2
    have en : nam z = 1 := if_pos z2
    have ez : z.rs R = R u := q1
    have eb : bnd R z = (R u).sz - 1 := by unfold bnd; rw [ez, en]
    have hzs : z.sz ≤ 2000000 := by
     rw [sz_L]
     have : szRL z.L = z.L.length := by
      clear q1 q2 qb k1 RK ez eb l2 z3 z4
      generalize z.L = M at qa
      induction M with
      | nil => rfl
      | cons y M ih =>
       rw [szRL, ih (fun y hy => qa y (List.mem_cons_of_mem _ hy)), (qa y List.mem_cons_self).1]
       simp [Rw.sz, szRL]
       omega
     omega
    have hp9 := (R u).sz_pos
    have HN := hidden (HI.out σ1 (updM μ u u) (nm + 1) (w2.alloc (.cells #[.int .i64 z.V, .string ⟨z.S.toArray⟩, .slice al z.L.length cp] 24)) z al cp (.slice vo l.length vc) l (by rw [ez, en]; omega) hzs (T2.out.alloc _) G5.out q2 (RK.out.alloc _) (W2.out.alloc _) HCP.out (by rw [eb]; exact (HCL.out.less (by omega)).put (c := u) (by omega)) (by rw [nblk_alloc]; omega))
    rw [ez, eb] at HN
    have B3z := hidden (B3.new w2 z.V ⟨z.S.toArray⟩ (.slice al z.L.length cp))
    have L3 := hidden (L2.out.alloc (.cells #[.int .i64 z.V, .string ⟨z.S.toArray⟩, .slice al z.L.length cp] 24))
    clear z1 z2 z3 z4 q1 q2 qa qb en ez eb hzs k1 k2 RK
    go_upto_region 16 with fail
    generalize w2.alloc (.cells #[.int .i64 z.V, .string ⟨z.S.toArray⟩, .slice al z.L.length cp] 24) = w3 at *
    clear l1 l2 m1 t0 t3 s0
    obtain ⟨b0, b1, b2, bf⟩ := B3z.out.cells
    go_wp2_with fail
    refine HN.out.mono ?_
    rintro e w4 ⟨σ2, μ2, nm2, v2, l2, rfl, j1, j2, j3, j4, j5, j6, j7, j8⟩
    have J1 := hidden (G4.out.trans j1)
    have J2 := hidden j2
    have J3 := hidden j3
    have J4 := hidden j4
    have J5 := hidden (L3.out.trans j5)
    have J6 : Hid (v2.ownBlock = (Value.slice vo l.length vc).ownBlock ∨ ∀ g, v2.ownBlock = some g → w.heap.size ≤ g) := by
     rcases j6 with h9 | h9
     ·exact Or.inl h9
     ·exact Or.inr (fun g hg => by have h7 := h9 g hg; have h6 := L3.out.size; omega)
    have J7 := hidden j7
    have J8 := hidden (VStep.name j8 (by omega))
    clear j1 j2 j3 j4 j5 j6 j7 j8 b0 b1 b2 bf
    go_wp2_with fail
    go_ret
    exact ⟨σ2, μ2, nm2, v2, l2, rfl, J1.out, J2.out, J3.out, J4.out, J5.out, J6.out, J7.out, by rw [← GV.out]; exact J8.out⟩
theorem others_any (hK : K ≤ 1000000000) (hF : F.length ≤ 1000000) (hOB : ∀ g, O g ∨ Own3 tb q r g → g < B) : ∀ s, OthersFor O tb q r K own hi F R d B s
 | 0 => fun σ μ nm w x ao c v l hm => by
  have := (x.rs R).sz_pos
  have : nam x ≤ 1 := by unfold nam; split <;> omega
  omega
 | s + 1 => fun σ μ nm w x ao c v l hm hsz h hs hx hrt hw hc hcl hB => by
  have IH := others_any hK hF hOB s
  by_cases hv : x.V = 0
  ·have en : nam x = 1 := if_pos hv
   have hx2 := ok_name hx hv
   obtain ⟨V, S, L⟩ := x
   have hv' : V = 0 := hv
   subst hv'
   rw [en] at hm
   exact others_name hK hF hOB IH σ μ nm w S L ao c v l hm (by rw [Rw.sz] at hsz; omega) h hs hx2 hrt hw hc hcl hB
  ·have en : nam x = 0 := if_neg hv
   obtain ⟨k1, k2⟩ := ok_var hx hv
   have es : x.rs R = R x.V := rs_var R hv
   have eb : bnd R x = (R x.V).sz := by unfold bnd; rw [en, es]; omega
   rw [eb] at hcl ⊢
   rw [en, es] at hm
   rw [es]
   have := others_var hK hF hOB IH σ μ nm w x.V ao c v l (by omega) h hs k1 hw hc hcl hB
   rw [k2]
   exact this
end
end Go.Proofs.YtnebhiaeechpaaaDoor
