/-
 Layer 10: the program's flat and variable: a type as it is kept, each part of it a variable. Condition: the Table lies in memory.
-/
import Derived.Test.YtnebhiaeechpaaaDoorP10Size
import Derived.Test.YtnebhiaeechpaaaDoorM10Row
import Derived.Test.YtnebhiaeechpaaaDoorX10Ext
namespace Go.Proofs.YtnebhiaeechpaaaDoor
open Go.ChangeShapes Go.WideShapes Go.ChangeAt Go.RowKit Go.Deep
set_option linter.unusedVariables false
set_option linter.unusedSimpArgs false
set_option maxHeartbeats 4000000
set_option maxRecDepth 20000
/-- A row of nodes without parts lies in its own block. -/
theorem TW10.rt0 {w : World} {B : Nat} {L : List TD} {ao : Option Addr} {n c : Nat} (h : TW10 w B (.slice ao n c) L) (h0 : ∀ d, d ∈ L → d.t.L = []) : RT (fun g => (Value.slice ao n c).ownBlock = some g) w (L.map TD.t) ao ∧ n = L.length := by
 have hn : n = L.length := by
  rcases h.1.2 with ⟨e, e2⟩ | ⟨g, cap, cur, e, _⟩
  ·simp only [Value.slice.injEq] at e; omega
  ·simp only [Value.slice.injEq] at e; exact e.2.1
 refine ⟨?_, hn⟩
 refine .mk (fun k => (L[k]?.map TD.ao).getD none) (fun k => (L[k]?.map TD.cp).getD 0) (fun k t hk => ?_) (fun k t hk => ?_) (fun k t hk => ?_)
 ·rw [List.getElem?_map] at hk
  cases hd : L[k]? with
  | none => rw [hd] at hk; cases hk
  | some d =>
   rw [hd] at hk
   simp only [Option.map_some, Option.some.injEq] at hk
   subst hk
   have hkl : k < L.length := (List.getElem?_eq_some_iff.1 hd).1
   rcases h.1.2 with ⟨e, e2⟩ | ⟨g, cap, cur, e, hb, hg, hc, hm, hs, ht⟩
   ·omega
   ·simp only [Value.slice.injEq] at e
    obtain ⟨rfl, _, rfl⟩ := e
    have hcell : ∀ j, j < 3 → w.cell? ⟨g, k * 3 + j, none⟩ = d.cells[j]? := fun j hj => by
     have h1 := flat3_at L k j d hd hj
     rw [← ht, List.getElem?_take, if_pos (by omega)] at h1
     have h2 : cur[k * 3 + j]? = d.cells[j]? := by rw [← h1]; simp
     simp only [World.cell?, hg]
     rw [← h2]
     simp
    have eA : (⟨g, 0, none⟩ : Addr).add (k * 3) = ⟨g, k * 3, none⟩ := by
     unfold Addr.add
     split
     ·rename_i e0; rw [e0]
     ·simp
    refine ⟨⟨g, 0, none⟩, rfl, by rw [eA]; rfl, by rw [eA]; exact hcell 0 (by omega), by rw [eA]; exact hcell 1 (by omega), ?_⟩
    rw [eA]
    simp only [hd, Option.map_some, Option.getD_some]
    exact hcell 2 (by omega)
 ·rw [List.getElem?_map] at hk
  cases hd : L[k]? with
  | none => rw [hd] at hk; cases hk
  | some d =>
   rw [hd] at hk
   simp only [Option.map_some, Option.some.injEq] at hk
   subst hk
   exact h.2.2 d (List.mem_of_getElem? hd)
 ·rw [List.getElem?_map] at hk
  cases hd : L[k]? with
  | none => rw [hd] at hk; cases hk
  | some d =>
   rw [hd] at hk
   simp only [Option.map_some, Option.some.injEq] at hk
   subst hk
   rw [h0 d (List.mem_of_getElem? hd)]
   exact rt_nil
/-- What flat makes: the node z, kept as x; the table knows more of its own. -/
def FlatAs (O : Nat → Prop) (tb q r K nm own : Nat) (hi : Int) (F : List Int) (R : Int → Ty) (d : Int → Nat) (σ : Int → Option Rw) (μ : Int → Option Int) (x : Rw) (w : World) (e : Ending) (w' : World) : Prop := ∃ (z : Rw) (al : Option Addr) (cp own' : Nat) (σ' : Int → Option Rw) (R' : Int → Ty) (O' : Nat → Prop), e = .returned (.agg #[.int .i64 z.V, .string ⟨z.S.toArray⟩, .slice al z.L.length cp]) ∧ Ext F own σ R own' σ' R' ∧ PS F own' σ' R' d ∧ PT O' w' tb q r (K + 2 * szRL x.L) nm own' hi σ' μ ∧ RT O' w' z.L al ∧ (∀ g, O g → O' g) ∧ (∀ g, O' g → O g ∨ w.heap.size ≤ g) ∧ Only (Own3 tb q r) w w' ∧ z.rs R' = x.rs R ∧ (x.V = 0 → FlatN F σ' z) ∧ (x.V ≠ 0 → z = .mk x.V [] [])
/-- What variable tells: a variable u that is x. -/
def VarAs (O : Nat → Prop) (tb q r K nm own : Nat) (hi : Int) (F : List Int) (R : Int → Ty) (d : Int → Nat) (σ : Int → Option Rw) (μ : Int → Option Int) (x : Rw) (w : World) (e : Ending) (w' : World) : Prop := ∃ (u : Int) (al : Option Addr) (cp own' : Nat) (σ' : Int → Option Rw) (R' : Int → Ty) (O' : Nat → Prop), e = .returned (.agg #[.int .i64 u, .string ⟨#[]⟩, .slice al 0 cp]) ∧ Ext F own σ R own' σ' R' ∧ PS F own' σ' R' d ∧ PT O' w' tb q r (K + 2 * x.sz) nm own' hi σ' μ ∧ (∀ g, O g → O' g) ∧ (∀ g, O' g → O g ∨ w.heap.size ≤ g) ∧ Only (Own3 tb q r) w w' ∧ R' u = x.rs R ∧ OkV F σ' u
def FlatFor (tb q r nm : Nat) (hi : Int) (F : List Int) (d : Int → Nat) (μ : Int → Option Int) (s : Nat) : Prop := ∀ (O : Nat → Prop) (K own : Nat) (R : Int → Ty) (σ : Int → Option Rw) (w : World) (x : Rw) (ao : Option Addr) (c : Nat), x.sz ≤ s → x.sz ≤ 1000000 → x.S.length ≤ maxLen → PT O w tb q r K nm own hi σ μ → PS F own σ R d → x.ok (OkV F σ) → RT (fun g => ¬ Own3 tb q r g) w x.L ao → K + 2 * szRL x.L ≤ 1000000000 → Calls Tryd.prog 50 #[.pointer (some ⟨tb, 0, none⟩), .agg #[.int .i64 x.V, .string ⟨x.S.toArray⟩, .slice ao x.L.length c]] w fun e w' => FlatAs O tb q r K nm own hi F R d σ μ x w e w'
def VarFor (tb q r nm : Nat) (hi : Int) (F : List Int) (d : Int → Nat) (μ : Int → Option Int) (s : Nat) : Prop := ∀ (O : Nat → Prop) (K own : Nat) (R : Int → Ty) (σ : Int → Option Rw) (w : World) (x : Rw) (ao : Option Addr) (c : Nat), x.sz ≤ s → x.sz ≤ 1000000 → x.S.length ≤ maxLen → PT O w tb q r K nm own hi σ μ → PS F own σ R d → x.ok (OkV F σ) → RT (fun g => ¬ Own3 tb q r g) w x.L ao → K + 2 * x.sz ≤ 1000000000 → Calls Tryd.prog 54 #[.pointer (some ⟨tb, 0, none⟩), .agg #[.int .i64 x.V, .string ⟨x.S.toArray⟩, .slice ao x.L.length c]] w fun e w' => VarAs O tb q r K nm own hi F R d σ μ x w e w'
theorem B3.set2 {w : World} {p : Nat} {V : Int} {x : ByteArray} {v : Value} (h : B3 w p V x v) (v' : Value) : B3 (w.setCell ⟨p, 2, none⟩ v') p V x v' := by
 unfold B3 at *
 simp [World.setCell, Array.getElem?_modify, h]
theorem PT.setOwn {O : Nat → Prop} {w : World} {tb q r K nm own : Nat} {hi : Int} {σ : Int → Option Rw} {μ : Int → Option Int} (h : PT O w tb q r K nm own hi σ μ) : PT O (w.setCell ⟨tb, 1, none⟩ (.int .i64 ((own : Int) + 1))) tb q r (K + 1) nm (own + 1) hi σ μ := by
 obtain ⟨n, m, h1, h2, h3⟩ := h.mp
 have ko : ∀ g, g ≠ tb → (w.setCell ⟨tb, 1, none⟩ (.int .i64 ((own : Int) + 1))).heap[g]? = w.heap[g]? := fun g hg => blk_setCell_other _ _ _ _ hg
 have how := h.ow
 refine ⟨?_, ⟨n, m, by omega, h2.keep (ko q (fun e => h.tq e.symm)), h3.keep (fun g hg _ => ko g (h.ap g hg).1)⟩, h.mt.keep (ko r (fun e => h.tr e.symm)), by omega, h.tq, h.tr, h.qr, fun g hg => ⟨(h.ap g hg).1, (h.ap g hg).2.1, (h.ap g hg).2.2.1, by rw [nblk_setCell]; exact (h.ap g hg).2.2.2⟩⟩
 have hb := h.blk
 have e : ((own + 1 : Nat) : Int) = (own : Int) + 1 := by omega
 rw [e]
 simp [World.setCell, Array.getElem?_modify, hb]
section
variable {tb q r nm : Nat} {hi : Int} {F : List Int} {d : Int → Nat} {μ : Int → Option Int}
theorem var_step {s : Nat} (IH : FlatFor tb q r nm hi F d μ s) : VarFor tb q r nm hi F d μ s := by
 intro O K own R σ w x ao c hm hsz hsl h hs hx hrt hK
 have HI := hidden IH
 have HS := hidden hs
 have HX := hidden hx
 have T := hidden h
 have X := hidden hrt
 have how := h.ow
 by_cases hv : x.V = 0
 ·have hx2 := ok_name hx hv
  obtain ⟨V, S, L⟩ := x
  have hv' : V = 0 := hv
  subst hv'
  clear h hs hx hrt hv IH
  show Calls Tryd.prog 54 #[.pointer (some ⟨tb, 0, none⟩), .agg #[.int .i64 0, .string ⟨S.toArray⟩, .slice ao L.length c]] w _
  go_enter Tryd.func54, Tryd.ntmps54
  go_upto_region 1 with fail
  obtain ⟨a1, a2, a3⟩ := two_new w 0 ⟨S.toArray⟩ (.slice ao L.length c)
  have A := hidden a1
  have C := hidden a2
  have D := hidden a3
  have T0 := hidden (T.out.below a3 (Nat.le_refl _))
  have X0 := hidden (X.out.beneath a3 (Nat.le_refl _))
  have HB : Hid (∀ g, O g ∨ Own3 tb q r g → g < w.heap.size) := fun g hg => T.out.new hg
  clear a1 a2 a3
  generalize (w.alloc (.cells #[.int .i64 0, .string ⟨S.toArray⟩, .slice ao L.length c] 24)).alloc (.cells #[.int .i64 0, .string ⟨#[]⟩, .slice none 0 0] 24) = w0 at *
  have hsz1 := D.out.size
  have hcl := C.out.lt
  obtain ⟨a0, a1, a2, af⟩ := A.out.cells
  obtain ⟨t0, t1, t2, t3, tf⟩ := T0.out.cells
  clear t2 t3
  have hob : (own : Int) ≤ 1000000000 := by omega
  go_upto_region 4 with fail
  have T1 := hidden T0.out.setOwn
  have ko : ∀ g, g ≠ tb → (w0.setCell ⟨tb, 1, none⟩ (.int .i64 ((own : Int) + 1))).heap[g]? = w0.heap[g]? := fun g hg => blk_setCell_other _ _ _ _ hg
  have htb := HB.out tb (Or.inr (Or.inl rfl))
  have A1 : Hid (B3 (w0.setCell ⟨tb, 1, none⟩ (.int .i64 ((own : Int) + 1))) w.heap.size 0 ⟨S.toArray⟩ (.slice ao L.length c)) := A.out.keep (ko _ (by omega))
  have C1 : Hid (B3 (w0.setCell ⟨tb, 1, none⟩ (.int .i64 ((own : Int) + 1))) (w.heap.size + 1) 0 ⟨#[]⟩ (.slice none 0 0)) := C.out.keep (ko _ (by omega))
  have X1 : Hid (RT (fun g => ¬ Own3 tb q r g) (w0.setCell ⟨tb, 1, none⟩ (.int .i64 ((own : Int) + 1))) L ao) := X0.out.keep (fun g hg _ => ko g (fun e => hg (Or.inl e)))
  have L1 : Hid (Only (Own3 tb q r) w (w0.setCell ⟨tb, 1, none⟩ (.int .i64 ((own : Int) + 1)))) := (Only.of_below D.out).setNew (Or.inr (Or.inl rfl)) _ _
  have Z1 : Hid ((w0.setCell ⟨tb, 1, none⟩ (.int .i64 ((own : Int) + 1))).heap.size = w0.heap.size) := nblk_setCell _ _ _
  clear ko a0 a1 a2 af t0 t1 tf
  generalize w0.setCell ⟨tb, 1, none⟩ (.int .i64 ((own : Int) + 1)) = w1 at *
  obtain ⟨t0, t1, t2, t3, tf⟩ := T1.out.cells
  obtain ⟨a0, a1, a2, af⟩ := A1.out.cells
  clear t2 t3 af tf
  have eo : ((own + 1 : Nat) : Int) = (own : Int) + 1 := by omega
  rw [eo] at t1
  clear eo
  go_upto_region 5 with fail
  obtain ⟨v, hv⟩ : ∃ v : Int, -((own : Int) + 1) = v := ⟨_, rfl⟩
  rw [hv]
  have HV := hidden hv
  clear hv
  have TD : Hid (PT O w1.drew tb q r (K + 1) nm (own + 1) hi σ μ) := T1.out.keep (fun g _ _ => rfl)
  have XD : Hid (RT (fun g => ¬ Own3 tb q r g) w1.drew L ao) := X1.out.keep (fun g _ _ => rfl)
  have LD : Hid (Only (Own3 tb q r) w w1.drew) := L1.out.drewN 1
  have HN := hidden (HI.out O (K + 1) (own + 1) R σ w1.drew (.mk 0 S L) ao c hm hsz hsl TD.out HS.out.more HX.out XD.out (by show K + 1 + 2 * szRL L ≤ _; rw [Rw.sz] at hK; omega))
  refine region_till (S := (fun w' => w'.cell? ⟨tb, 0, none⟩ = some (.map (some q)) ∧ w'.cell? ⟨w.heap.size, 0, none⟩ = some (.int .i64 0) ∧ w'.cell? ⟨w.heap.size, 1, none⟩ = some (.string ⟨S.toArray⟩) ∧ w'.cell? ⟨w.heap.size, 2, none⟩ = some (.slice ao L.length c))) (kz := 8) (by kernel_rfl) ⟨t0, a0, a1, a2⟩ (fun hHeld => ?_)
  refine AnyTill.tk (i := 0) (v := ?_) hHeld ?_ ?_
  rotate_left
  ·(intro w hSw; (try dsimp only at hSw); go_simp; (try with_reducible rfl))
  (try simp only [Act.put, q4, q5, q6, q1, q2, q3])
  refine AnyTill.tk (i := 1) (v := ?_) hHeld ?_ ?_
  rotate_left
  ·(intro w hSw; (try dsimp only at hSw); go_simp; (try with_reducible rfl))
  (try simp only [Act.put, q4, q5, q6, q1, q2, q3])
  refine AnyTill.tk (i := 2) (v := ?_) hHeld ?_ ?_
  rotate_left
  ·(intro w hSw; (try dsimp only at hSw); go_simp; (try with_reducible rfl))
  (try simp only [Act.put, q4, q5, q6, q1, q2, q3])
  refine AnyTill.tk (i := 3) (v := ?_) hHeld ?_ ?_
  rotate_left
  ·(intro w hSw; (try dsimp only at hSw); go_simp; (try with_reducible rfl))
  (try simp only [Act.put, q4, q5, q6, q1, q2, q3])
  refine AnyTill.tk (i := 4) (v := ?_) hHeld ?_ ?_
  rotate_left
  ·(intro w hSw; (try dsimp only at hSw); go_simp; (try with_reducible rfl))
  (try simp only [Act.put, q4, q5, q6, q1, q2, q3])
  refine AnyTill.tk (i := 5) (v := ?_) hHeld ?_ ?_
  rotate_left
  ·(intro w hSw; (try dsimp only at hSw); go_simp; (try with_reducible rfl))
  (try simp only [Act.put, q4, q5, q6, q1, q2, q3])
  refine AnyTill.tk (i := 6) (v := ?_) hHeld ?_ ?_
  rotate_left
  ·(intro w hSw; (try dsimp only at hSw); go_simp; (try with_reducible rfl))
  (try simp only [Act.put, q4, q5, q6, q1, q2, q3])
  refine AnyTill.one (i := 7) (by kernel_rfl) rfl (fun K9 hK9 => ?_)
  (try simp only [q1, q2, q3])
  go_simp
  refine HN.out.mono ?_
  rintro e w2 ⟨z, al, cp, own', σ', R', O', rfl, j1, j2, j3, j4, j5, j6, j7, j8, j9, _⟩
  have hfl := j9 rfl
  have hnr : ∀ g, Own3 tb q r g → g < w.heap.size := fun g hg => HB.out g (Or.inr hg)
  have hzw := Z1.out
  have A2 : Hid (B3 w2 w.heap.size 0 ⟨S.toArray⟩ (.slice ao L.length c)) := A1.out.keep ((j7.block _ (show _ < w1.heap.size by rw [hzw]; omega) (fun e => by have h9 := hnr _ e; omega)).trans rfl)
  have C2 : Hid (B3 w2 (w.heap.size + 1) 0 ⟨#[]⟩ (.slice none 0 0)) := C1.out.keep ((j7.block _ (show _ < w1.heap.size by rw [hzw]; omega) (fun e => by have h9 := hnr _ e; omega)).trans rfl)
  have hvn : σ' v = none := by
   cases hq : σ' v with
   | none => rfl
   | some y =>
    have h9 := HV.out
    have h8 := HS.out.none_own (k := v) (by omega)
    rcases j1.fresh v (by rw [hq]; simp) with h7 | h7
    ·exact absurd h8 h7
    ·omega
  have hor := j3.ow
  have hvr : -9223372036854775808 ≤ v ∧ v ≤ 9223372036854775807 := by have h9 := HV.out; omega
  obtain ⟨w3, m1, m2, m3⟩ := j3.put (k := v) (by unfold maxLen; have h9 : 1 + szRL L ≤ 1000000 := hsz; show K + 1 + 2 * szRL L < _; omega) hvr (x := z) (by rw [hfl.1]; omega) (by unfold maxLen; exact hfl.2.2.2) (al := al) (cp := cp) j4
  have T3 := hidden m2
  have C3 : Hid (B3 w3 (w.heap.size + 1) 0 ⟨#[]⟩ (.slice none 0 0)) := C2.out.keep (grown_keep m3 C2.out.lt (fun e => by have h9 := hnr q (Or.inr (Or.inl rfl)); omega))
  have L3 : Hid (Only (Own3 tb q r) w w3) := (LD.out.trans j7).trans (Only.grown m3 (Or.inr (Or.inl rfl)))
  have hoo := j1.ow
  have P3 := hidden (j2.lay (v := v) (by have h9 := HV.out; omega) hvn hfl)
  have E3 := hidden (Ext.lay j2 j1.num (v := v) (by have h9 := HV.out; omega) hvn z (z.rs R'))
  have O5 := hidden j5
  have O6 : Hid (∀ g, O' g → O g ∨ w.heap.size ≤ g) := fun g hg => by
   rcases j6 g hg with h9 | h9
   ·exact Or.inl h9
   ·exact Or.inr (Nat.le_trans hsz1 (by rw [show w1.drew.heap.size = w1.heap.size from rfl, hzw] at h9; exact h9))
  have HC : Hid (∀ g, O' g ∨ Own3 tb q r g → g ≠ w.heap.size + 1) := fun g hg => by
   rcases hg with hg | hg
   ·rcases j6 g hg with h9 | h9
    ·have h8 := HB.out g (Or.inl h9); omega
    ·rw [show w1.drew.heap.size = w1.heap.size from rfl, hzw] at h9; omega
   ·have h8 := hnr g hg; omega
  have R8 : Hid (setR R' v (z.rs R') v = (Rw.mk 0 S L).rs R) := by
   show (if v = v then _ else _) = _
   rw [if_pos rfl]
   exact j8
  have V3 : Hid (OkV F (upd σ' v z) v) := Or.inr ⟨by have h9 := HV.out; omega, by rw [upd_same]; simp⟩
  have s2 := j3.cells.1
  obtain ⟨b0, b1, b2, bf⟩ := A2.out.cells
  refine hK9.out _ _ (fun _ => ⟨s2, b0, b1, b2⟩) ?_
  clear hK9 K9
  (try simp only [Act.put, q4, q5, q6, q1, q2, q3])
  clear s2 b0 b1 b2 bf j1 j2 j3 j4 j5 j6 j7 j8 j9 hfl m2 m3 hvn hnr hzw
  refine AnyTill.one (i := 8) (by kernel_rfl) rfl (fun K9 hK9 => ?_)
  (try simp only [q1, q2, q3])
  go_simp
  refine hK9.out _ _ (fun h => absurd rfl h) ?_
  clear hK9 K9
  (try simp only [Act.put, q4, q5, q6, q1, q2, q3])
  refine AnyTill.done (by kernel_rfl) ?_ _
  (try simp only [Act.put, q4, q5, q6, q1, q2, q3])
  clear m1 t0 t1 a0 a1 a2
  obtain ⟨c0, c1, c2, cf⟩ := C3.out.cells
  go_wp2_with fail
  refine bodyPost_ret (results_cell_row rfl _ _ (w.heap.size + 1) 24 #[.int .i64 v, .string ⟨#[]⟩, .slice none 0 0] (0, 0) _ rfl (C3.out.fill v ⟨#[]⟩ (.slice none 0 0)) Tryd.underlying24 rfl (by kernel_rfl)) rfl ?_
  refine ⟨v, none, 0, own', _, _, O', rfl, E3.out, P3.out, ?_, O5.out, O6.out, L3.out.fill3 (Or.inl (by omega)) _ _ _, R8.out, V3.out⟩
  have h9 := T3.out.keep (w' := fill3 w3 (w.heap.size + 1) v ⟨#[]⟩ (.slice none 0 0)) (fun g hg _ => fill3_blk w3 (HC.out g hg) _ _ _)
  have e9 : K + 1 + 2 * szRL (Rw.mk 0 S L).L + 1 = K + 2 * (Rw.mk 0 S L).sz := by rw [Rw.sz]; show K + 1 + 2 * szRL L + 1 = _; omega
  rw [e9] at h9
  exact h9
 ·obtain ⟨k1, k2⟩ := ok_var hx hv
  obtain ⟨V, S, L⟩ := x
  have hv' : V ≠ 0 := hv
  simp only [Rw.mk.injEq] at k2
  obtain ⟨hvv, rfl, rfl⟩ := k2
  clear hvv
  have hb : (V == 0) = false := beq_eq_false_iff_ne.2 hv'
  have KO : Hid (OkV F σ V) := k1
  clear h hs hx hrt hv hv' IH k1 hm hsz hsl hK
  show Calls Tryd.prog 54 #[.pointer (some ⟨tb, 0, none⟩), .agg #[.int .i64 V, .string ⟨#[]⟩, .slice ao 0 c]] w _
  go_enter Tryd.func54, Tryd.ntmps54
  go_upto_region 1 with fail
  obtain ⟨a1, a2, a3⟩ := two_new w V ⟨#[]⟩ (.slice ao 0 c)
  have A := hidden a1
  have C := hidden a2
  have D := hidden a3
  have T0 := hidden (T.out.below a3 (Nat.le_refl _))
  have HB : Hid (∀ g, O g ∨ Own3 tb q r g → g < w.heap.size) := fun g hg => T.out.new hg
  clear a1 a2 a3
  generalize (w.alloc (.cells #[.int .i64 V, .string ⟨#[]⟩, .slice ao 0 c] 24)).alloc (.cells #[.int .i64 0, .string ⟨#[]⟩, .slice none 0 0] 24) = w0 at *
  obtain ⟨a0, a1, a2, af⟩ := A.out.cells
  obtain ⟨c0, c1, c2, cf⟩ := C.out.cells
  go_wp2_with fail
  refine bodyPost_ret (results_cell_row rfl _ _ (w.heap.size + 1) 24 #[.int .i64 V, .string ⟨#[]⟩, .slice ao 0 c] (0, 0) _ rfl (C.out.fill V ⟨#[]⟩ (.slice ao 0 c)) Tryd.underlying24 rfl (by kernel_rfl)) rfl ?_
  refine ⟨V, ao, c, own, σ, R, O, rfl, Ext.refl _ _ _ _, HS.out, ((T0.out.more (Nat.le_add_right _ _)).keep (fun g hg _ => fill3_blk w0 (by have h9 := HB.out g hg; omega) _ _ _)), fun g hg => hg, fun g hg => Or.inl hg, (Only.of_below D.out).fill3 (Or.inl (by omega)) _ _ _, (rs_var R (x := .mk V [] []) (show V ≠ 0 by simpa using hb)).symm, KO.out⟩
/-- How flat stands while parts are made variables. -/
def InFl (O : Nat → Prop) (tb q r K nm own : Nat) (hi : Int) (F : List Int) (R : Int → Ty) (d : Int → Nat) (σ : Int → Option Rw) (μ : Int → Option Int) (L : List Rw) (S : List UInt8) (w : World) (B : Nat) (iv : Value) (wr : World) : Prop := ∃ (k : Nat) (D : List TD) (v : Value) (own' : Nat) (σ' : Int → Option Rw) (R' : Int → Ty) (O' : Nat → Prop), k ≤ L.length ∧ iv = .int .i64 (k : Int) ∧ D.length = k ∧ TW10 wr B v D ∧ (∀ e, e ∈ D → e.t = .mk e.t.V [] [] ∧ e.t.V ≠ 0 ∧ OkV F σ' e.t.V) ∧ D.map (fun e => R' e.t.V) = (rsL R L).take k ∧ Ext F own σ R own' σ' R' ∧ PS F own' σ' R' d ∧ PT O' wr tb q r (K + 2 * szRL (L.take k)) nm own' hi σ' μ ∧ (∀ g, O g → O' g) ∧ (∀ g, O' g → O g ∨ B ≤ g) ∧ (∀ g, v.ownBlock = some g → ¬ O' g) ∧ Only (Own3 tb q r) w wr ∧ B3 wr (w.heap.size + 1) 0 ⟨#[]⟩ (.slice none 0 0) ∧ B3 wr (w.heap.size + 2) 0 ⟨S.toArray⟩ v
theorem szRL_app : ∀ (l l' : List Rw), szRL (l ++ l') = szRL l + szRL l'
 | [], l' => by simp [szRL]
 | x :: l, l' => by rw [List.cons_append, szRL, szRL, szRL_app l l']; omega
theorem szRL_take (l : List Rw) (k : Nat) : szRL (l.take k) ≤ szRL l := by
 have h := szRL_app (l.take k) (l.drop k)
 rw [List.take_append_drop] at h
 omega
theorem szRL_take1 {l : List Rw} {k : Nat} {t : Rw} (h : l[k]? = some t) : szRL (l.take (k + 1)) = szRL (l.take k) + t.sz := by
 obtain ⟨h1, h2⟩ := List.getElem?_eq_some_iff.1 h
 rw [List.take_succ_eq_append_getElem h1, szRL_app, h2, szRL, szRL]
 omega
theorem flat_name {s : Nat} (IH : VarFor tb q r nm hi F d μ s) (O : Nat → Prop) (K own : Nat) (R : Int → Ty) (σ : Int → Option Rw) (w : World) (S : List UInt8) (L : List Rw) (ao : Option Addr) (c : Nat) (hm : szRL L ≤ s) (hsz : szRL L < 1000000) (hsl : S.length ≤ maxLen) (h : PT O w tb q r K nm own hi σ μ) (hs : PS F own σ R d) (hx : okL (OkV F σ) L) (hrt : RT (fun g => ¬ Own3 tb q r g) w L ao) (hK : K + 2 * szRL L ≤ 1000000000) : Calls Tryd.prog 50 #[.pointer (some ⟨tb, 0, none⟩), .agg #[.int .i64 0, .string ⟨S.toArray⟩, .slice ao L.length c]] w fun e w' => FlatAs O tb q r K nm own hi F R d σ μ (.mk 0 S L) w e w' := by
 have HI := hidden IH
 have HS := hidden hs
 have HX := hidden hx
 have T := hidden h
 have X := hidden hrt
 have how := h.ow
 have HSL := hidden hsl
 clear h hs hx hrt IH hsl
 go_enter Tryd.func50, Tryd.ntmps50
 go_upto_region 1 with fail
 obtain ⟨a1, a2, a3⟩ := two_new w 0 ⟨S.toArray⟩ (.slice ao L.length c)
 have A := hidden a1
 have C := hidden a2
 have D := hidden a3
 have T0 := hidden (T.out.below a3 (Nat.le_refl _))
 have X0 := hidden (X.out.beneath a3 (Nat.le_refl _))
 have HB : Hid (∀ g, O g ∨ Own3 tb q r g → g < w.heap.size) := fun g hg => T.out.new hg
 clear a1 a2 a3
 have hsz0 : ((w.alloc (.cells #[.int .i64 0, .string ⟨S.toArray⟩, .slice ao L.length c] 24)).alloc (.cells #[.int .i64 0, .string ⟨#[]⟩, .slice none 0 0] 24)).heap.size = w.heap.size + 2 := by rw [nblk_alloc, nblk_alloc]
 have SZ0 := hidden hsz0
 clear hsz0
 generalize (w.alloc (.cells #[.int .i64 0, .string ⟨S.toArray⟩, .slice ao L.length c] 24)).alloc (.cells #[.int .i64 0, .string ⟨#[]⟩, .slice none 0 0] 24) = w0 at *
 obtain ⟨n, hn⟩ : ∃ n, L.length = n := ⟨_, rfl⟩
 rw [hn] at A ⊢
 have HN := hidden hn
 clear hn
 obtain ⟨a0, a1, a2, af⟩ := A.out.cells
 clear af
 go_upto_region 2 with fail
 have T1 := hidden (T0.out.alloc (.cells #[.int .i64 0, .string ⟨S.toArray⟩, .slice none 0 0] 24))
 have X1 := hidden (X0.out.alloc (.cells #[.int .i64 0, .string ⟨S.toArray⟩, .slice none 0 0] 24))
 have A1 := hidden (A.out.alloc (.cells #[.int .i64 0, .string ⟨S.toArray⟩, .slice none 0 0] 24))
 have C1 := hidden (C.out.alloc (.cells #[.int .i64 0, .string ⟨S.toArray⟩, .slice none 0 0] 24))
 have F1 : Hid (B3 (w0.alloc (.cells #[.int .i64 0, .string ⟨S.toArray⟩, .slice none 0 0] 24)) (w.heap.size + 2) 0 ⟨S.toArray⟩ (.slice none 0 0)) := by
  have h9 := B3.new w0 0 ⟨S.toArray⟩ (.slice none 0 0)
  rw [SZ0.out] at h9
  exact h9
 have L1 := hidden ((Only.of_below (S := Own3 tb q r) D.out).alloc (.cells #[.int .i64 0, .string ⟨S.toArray⟩, .slice none 0 0] 24))
 have S1 : Hid ((w0.alloc (.cells #[.int .i64 0, .string ⟨S.toArray⟩, .slice none 0 0] 24)).heap.size = w.heap.size + 3) := by
  show _ = _
  rw [nblk_alloc, SZ0.out]
 try rw [SZ0.out]
 generalize w0.alloc (.cells #[.int .i64 0, .string ⟨S.toArray⟩, .slice none 0 0] 24) = w1 at *
 clear a0 a1 a2
 obtain ⟨a0, a1, a2, af⟩ := A1.out.cells
 clear a0 a1 af
 go_wp2_with fail
 clear a2
 go_loopw [16] (fun iv wr => InFl O tb q r K nm own hi F R d σ μ L S w (w.heap.size + 3) iv wr) (fun iv wr => (n - intOf iv).toNat)
 case atStart => exact ⟨0, [], .slice none 0 0, own, σ, R, O, Nat.zero_le _, rfl, rfl, TW10.nil _ _, (fun e he => by cases he), rfl, Ext.refl _ _ _ _, HS.out, T1.out, fun g hg => hg, fun g hg => Or.inl hg, (fun g hg => by cases hg), L1.out, C1.out, F1.out⟩
 case round =>
  obtain ⟨k, Dl, v, own1, σ1, R1, O1, k1, rfl, g1, g2, g3, g4, g5, g6, g7, g8, g9, g10, g11, g12, g13⟩ := hrel
  rw [HN.out] at k1
  have G1 := hidden g1
  have G2 := hidden g2
  have G3 := hidden g3
  have G4 := hidden g4
  have G5 := hidden g5
  have G6 := hidden g6
  have G7 := hidden g7
  have G8 := hidden g8
  have G9 := hidden g9
  have G10 := hidden g10
  have G11 := hidden g11
  have G12 := hidden g12
  have G13 := hidden g13
  have hk9 : k ≤ 1000000 := by have h9 := len_szRL L; have h8 := HN.out; omega
  clear g1 g2 g3 g4 g5 g6 g7 g8 g9 g10 g11 g12 g13
  by_cases hlt : k < n
  ·have z1 : (k : Int) < (n : Int) := by omega
   have zi : (0 : Int) ≤ (k : Int) ∧ (k : Int) < (n : Int) := ⟨by omega, z1⟩
   obtain ⟨t, ht⟩ : ∃ t, L[k]? = some t := ⟨_, List.getElem?_eq_getElem (by rw [HN.out]; exact hlt)⟩
   have htok := okL_mem.1 HX.out t (List.mem_of_getElem? ht)
   have HTZ := hidden (szRL_take1 ht)
   have htz := sz_part (List.mem_of_getElem? ht)
   have htt := szRL_take L (k + 1)
   rw [HTZ.out] at htt
   have X2 := X.out.keep (w' := wr) (fun g hg hl => G11.out.block g hl hg)
   obtain ⟨a, al2, cp2, rfl, t0, t1, t2, hv, hr2⟩ := rt_part X2 ht
   have T2 := hidden (G7.out.alloc (.cells #[.int .i64 t.V, .string ⟨t.S.toArray⟩, .slice al2 t.L.length cp2] 24))
   have RP2 := hidden (hr2.alloc (.cells #[.int .i64 t.V, .string ⟨t.S.toArray⟩, .slice al2 t.L.length cp2] 24))
   have B2 := hidden (B3.new wr t.V ⟨t.S.toArray⟩ (.slice al2 t.L.length cp2))
   have W2 := hidden (G2.out.alloc (.cells #[.int .i64 t.V, .string ⟨t.S.toArray⟩, .slice al2 t.L.length cp2] 24))
   have O2 := hidden (G11.out.alloc (.cells #[.int .i64 t.V, .string ⟨t.S.toArray⟩, .slice al2 t.L.length cp2] 24))
   have C2 := hidden (G12.out.alloc (.cells #[.int .i64 t.V, .string ⟨t.S.toArray⟩, .slice al2 t.L.length cp2] 24))
   have F2 := hidden (G13.out.alloc (.cells #[.int .i64 t.V, .string ⟨t.S.toArray⟩, .slice al2 t.L.length cp2] 24))
   have S2 := hidden (nblk_alloc wr (.cells #[.int .i64 t.V, .string ⟨t.S.toArray⟩, .slice al2 t.L.length cp2] 24))
   have hwr : w.heap.size + 3 ≤ wr.heap.size := by
    have h9 := G13.out.lt
    omega
   have hts : t.S.length ≤ maxLen := hv.2.2
   have HTS := hidden hts
   have HTK := hidden (G5.out.ok htok)
   have ERS := hidden (G5.out.rs htok)
   obtain ⟨vo, vc, rfl⟩ := G2.out.slice
   clear hr2 X2 hv htok hts
   go_upto_region 5 with fail
   generalize wr.alloc (.cells #[.int .i64 t.V, .string ⟨t.S.toArray⟩, .slice al2 t.L.length cp2] 24) = w2 at *
   obtain ⟨b, hb5⟩ : ∃ b, wr.heap.size = b := ⟨_, rfl⟩
   rw [hb5] at B2 S2 hwr ⊢
   have HBW := hidden hb5
   clear hb5 t0 t1 t2
   have TD : Hid (PT O1 w2.drew tb q r (K + 2 * szRL (L.take k)) nm own1 hi σ1 μ) := T2.out.keep (fun g _ _ => rfl)
   have RD : Hid (RT (fun g => ¬ Own3 tb q r g) w2.drew t.L al2) := RP2.out.keep (fun g _ _ => rfl)
   have HV := hidden (HI.out O1 (K + 2 * szRL (L.take k)) own1 R1 σ1 w2.drew t al2 cp2 (by omega) (by omega) HTS.out TD.out G6.out HTK.out RD.out (by omega))
   have f2 := F2.out.cells.2.2.1
   obtain ⟨b0, b1, b2, bf⟩ := B2.out.cells
   refine region_till (S := (fun w' => w'.cell? ⟨w.heap.size + 2, 2, none⟩ = some (.slice vo Dl.length vc) ∧ w'.cell? ⟨b, 0, none⟩ = some (.int .i64 t.V) ∧ w'.cell? ⟨b, 1, none⟩ = some (.string ⟨t.S.toArray⟩) ∧ w'.cell? ⟨b, 2, none⟩ = some (.slice al2 t.L.length cp2))) (kz := 8) (by kernel_rfl) ⟨f2, b0, b1, b2⟩ (fun hHeld => ?_)
   refine AnyTill.tk (i := 0) (v := ?_) hHeld ?_ ?_
   rotate_left
   ·(intro w hSw; (try dsimp only at hSw); go_simp; (try with_reducible rfl))
   (try simp only [Act.put, q4, q5, q6, q1, q2, q3])
   refine AnyTill.tk (i := 1) (v := ?_) hHeld ?_ ?_
   rotate_left
   ·(intro w hSw; (try dsimp only at hSw); go_simp; (try with_reducible rfl))
   (try simp only [Act.put, q4, q5, q6, q1, q2, q3])
   refine AnyTill.tk (i := 2) (v := ?_) hHeld ?_ ?_
   rotate_left
   ·(intro w hSw; (try dsimp only at hSw); go_simp; (try with_reducible rfl))
   (try simp only [Act.put, q4, q5, q6, q1, q2, q3])
   refine AnyTill.tk (i := 3) (v := ?_) hHeld ?_ ?_
   rotate_left
   ·(intro w hSw; (try dsimp only at hSw); go_simp; (try with_reducible rfl))
   (try simp only [Act.put, q4, q5, q6, q1, q2, q3])
   refine AnyTill.one (i := 4) (by kernel_rfl) rfl (fun K9 hK9 => ?_)
   (try simp only [q1, q2, q3])
   go_simp
   refine HV.out.mono ?_
   rintro e w3 ⟨u, al3, cp3, own', σ', R', O', rfl, j1, j2, j3, j5, j6, j7, j8, j9⟩
   have hn3 : ∀ g, Own3 tb q r g → g < w.heap.size := fun g hg => HB.out g (Or.inr hg)
   have hbl : b < w2.heap.size := B2.out.lt
   have hz3 := j7.size
   have hz3b : w2.heap.size ≤ w3.heap.size := hz3
   have F3 : Hid (B3 w3 (w.heap.size + 2) 0 ⟨S.toArray⟩ (.slice vo Dl.length vc)) := F2.out.keep (j7.block _ F2.out.lt (fun e => by have h9 := hn3 _ e; omega))
   have C3 : Hid (B3 w3 (w.heap.size + 1) 0 ⟨#[]⟩ (.slice none 0 0)) := C2.out.keep (j7.block _ C2.out.lt (fun e => by have h9 := hn3 _ e; omega))
   have P3 : Hid (B3 w3 b t.V ⟨t.S.toArray⟩ (.slice al2 t.L.length cp2)) := B2.out.keep (j7.block _ B2.out.lt (fun e => by have h9 := hn3 _ e; omega))
   have W3 : Hid (TW10 w3 (w.heap.size + 3) (.slice vo Dl.length vc) Dl) := W2.out.keep (fun g hg hl => j7.block _ hl (fun e => by have h9 := hn3 _ e; omega))
   have L3 : Hid (Only (Own3 tb q r) w w3) := (O2.out.drewN 1).trans j7
   have T3 := hidden j3
   have E3 := hidden (G5.out.trans j1)
   have J1 := hidden j1
   have J2 := hidden j2
   have J8 := hidden j8
   have J9 := hidden j9
   have Q3 : Hid (∀ g, O g → O' g) := fun g hg => j5 g (G8.out g hg)
   have U3 : Hid (∀ g, O' g → O g ∨ (w.heap.size + 3 ≤ g ∧ (O1 g ∨ w2.heap.size ≤ g))) := fun g hg => by
    rcases j6 g hg with h9 | h9
    ·rcases G9.out g h9 with h8 | h8
     ·exact Or.inl h8
     ·exact Or.inr ⟨h8, Or.inl h9⟩
    ·exact Or.inr ⟨by rw [show w2.drew.heap.size = w2.heap.size from rfl] at h9; omega, Or.inr h9⟩
   have f3 := F3.out.cells.2.2.1
   obtain ⟨p0, p1, p2, pf⟩ := P3.out.cells
   refine hK9.out _ _ (fun _ => ⟨f3, p0, p1, p2⟩) ?_
   clear hK9 K9
   (try simp only [Act.put, q4, q5, q6, q1, q2, q3])
   clear f3 p0 p1 p2 pf j1 j2 j3 j5 j6 j7 j8 j9 f2 b0 b1 b2 bf
   refine AnyTill.one (i := 5) (by kernel_rfl) rfl (fun K9 hK9 => ?_)
   (try simp only [q1, q2, q3])
   go_simp
   have T4 := hidden (T3.out.alloc (.cells #[.int .i64 u, .string ⟨#[]⟩, .slice al3 0 cp3] 24))
   have F4 := hidden (F3.out.alloc (.cells #[.int .i64 u, .string ⟨#[]⟩, .slice al3 0 cp3] 24))
   have C4 := hidden (C3.out.alloc (.cells #[.int .i64 u, .string ⟨#[]⟩, .slice al3 0 cp3] 24))
   have P4 := hidden (P3.out.alloc (.cells #[.int .i64 u, .string ⟨#[]⟩, .slice al3 0 cp3] 24))
   have W4 := hidden (W3.out.alloc (.cells #[.int .i64 u, .string ⟨#[]⟩, .slice al3 0 cp3] 24))
   have L4 := hidden (L3.out.alloc (.cells #[.int .i64 u, .string ⟨#[]⟩, .slice al3 0 cp3] 24))
   have S4 := hidden (nblk_alloc w3 (.cells #[.int .i64 u, .string ⟨#[]⟩, .slice al3 0 cp3] 24))
   have B4 := hidden (B3.new w3 u ⟨#[]⟩ (.slice al3 0 cp3))
   generalize w3.alloc (.cells #[.int .i64 u, .string ⟨#[]⟩, .slice al3 0 cp3] 24) = w4 at *
   have f4 := F4.out.cells.2.2.1
   obtain ⟨p0, p1, p2, pf⟩ := P4.out.cells
   refine hK9.out _ _ (fun _ => ⟨f4, p0, p1, p2⟩) ?_
   clear hK9 K9
   (try simp only [Act.put, q4, q5, q6, q1, q2, q3])
   clear f4 p0 p1 p2 pf
   refine AnyTill.one (i := 6) (by kernel_rfl) rfl (fun K9 hK9 => ?_)
   (try simp only [q1, q2, q3])
   have hD9 : Dl.length < 1000000 := by have h9 := G1.out; have h8 := len_szRL L; have h7 := HN.out; omega
   have hB9 : w.heap.size + 3 ≤ w4.heap.size := by have h9 := S4.out; omega
   refine step_type (w := w4) (a := ⟨_, _⟩) ?_ (.tmp 21) (.tmp 25) ?_ (w.heap.size + 3) (.slice vo Dl.length vc) Dl ?_ W4.out w3.heap.size 1 ⟨.mk u [] [], al3, cp3⟩ (0, 0) ?_ B4.out rt_nil ?_ hD9 hB9 ?_
   ·rfl
   ·rfl
   ·rfl
   ·rfl
   ·have h9 := J2.out.rng J9.out
    have h8 := T3.out.ow
    show -9223372036854775808 ≤ u ∧ u ≤ 9223372036854775807 ∧ (0 : Nat) ≤ maxLen
    exact ⟨by omega, h9.2, Nat.zero_le _⟩
   intro g cap w5 hrow hgr hog
   have W5 := hidden hrow
   have hne : ∀ g, (Value.slice vo Dl.length vc).ownBlock = some g → w.heap.size + 3 ≤ g ∧ g < wr.heap.size := fun g hg => G2.out.1.lt g hg
   have hkp : ∀ g, g < w4.heap.size → (Value.slice vo Dl.length vc).ownBlock ≠ some g → w5.heap[g]? = w4.heap[g]? := fun g hg hn => hgr.block g hg (fun e => hn e.symm)
   have hO : ∀ g, O' g → (Value.slice vo Dl.length vc).ownBlock ≠ some g := fun g hg e => by
    have h9 := hne g e
    rcases U3.out g hg with h8 | ⟨h8, h7 | h7⟩
    ·have h6 := HB.out g (Or.inl h8); omega
    ·exact G10.out g e h7
    ·have h6 := HBW.out; omega
   have hQ : ∀ g, Own3 tb q r g → (Value.slice vo Dl.length vc).ownBlock ≠ some g := fun g hg e => by have h9 := hne g e; have h8 := HB.out g (Or.inr hg); omega
   have T5 := hidden (T4.out.keep (w' := w5) (fun g hg hl => hkp g hl (hg.elim (hO g) (hQ g))))
   have F5 : Hid (B3 w5 (w.heap.size + 2) 0 ⟨S.toArray⟩ (.slice vo Dl.length vc)) := F4.out.keep (hkp _ F4.out.lt (fun e => by have h9 := hne _ e; omega))
   have C5 : Hid (B3 w5 (w.heap.size + 1) 0 ⟨#[]⟩ (.slice none 0 0)) := C4.out.keep (hkp _ C4.out.lt (fun e => by have h9 := hne _ e; omega))
   have P5 : Hid (B3 w5 b t.V ⟨t.S.toArray⟩ (.slice al2 t.L.length cp2)) := P4.out.keep (hkp _ P4.out.lt (fun e => by have h9 := hne _ e; have h8 := HBW.out; omega))
   have L5 : Hid (Only (Own3 tb q r) w w5) := ⟨hgr.os.trans L4.out.os, hgr.tape.trans L4.out.tape, hgr.output.trans L4.out.output, Nat.le_trans L4.out.size hgr.size, fun k hk hs => (hkp k (Nat.lt_of_lt_of_le hk L4.out.size) (fun e => by have h9 := hne k e; omega)).trans (L4.out.block k hk hs)⟩
   have G5x : Hid (¬ O' g) := fun hg => by
    rcases hog with h9 | h9
    ·exact hO g hg h9
    ·have h8 := (T4.out.ap g hg).2.2.2; omega
   have f5 := F5.out.cells.2.2.1
   obtain ⟨p0, p1, p2, pf⟩ := P5.out.cells
   refine hK9.out _ _ (fun _ => ⟨f5, p0, p1, p2⟩) ?_
   clear hK9 K9
   (try simp only [Act.put, q4, q5, q6, q1, q2, q3])
   clear f5 p0 p1 p2 pf hrow hgr hog hne hkp hO hQ
   refine AnyTill.one (i := 7) (by kernel_rfl) rfl (fun K9 hK9 => ?_)
   (try simp only [q1, q2, q3])
   go_simp
   have f5 := F5.out.cells.2.2.1
   obtain ⟨p0, p1, p2, pf⟩ := P5.out.cells
   refine hK9.out _ _ (fun _ => ⟨f5, p0, p1, p2⟩) ?_
   clear hK9 K9
   (try simp only [Act.put, q4, q5, q6, q1, q2, q3])
   clear p0 p1 p2 pf
   have ff := F5.out.cells.2.2.2
   refine AnyTill.one (i := 8) (by kernel_rfl) rfl (fun K9 hK9 => ?_)
   (try simp only [q1, q2, q3])
   go_simp
   refine hK9.out _ _ (fun h => absurd rfl h) ?_
   clear hK9 K9
   (try simp only [Act.put, q4, q5, q6, q1, q2, q3])
   refine AnyTill.done (by kernel_rfl) ?_ _
   (try simp only [Act.put, q4, q5, q6, q1, q2, q3])
   clear f5 ff
   have hk6 : ∀ g', g' ≠ w.heap.size + 2 → (w5.setCell ⟨w.heap.size + 2, 2, none⟩ (.slice (some ⟨g, 0, none⟩) (Dl.length + 1) cap)).heap[g']? = w5.heap[g']? := fun g' hg => blk_setCell_other _ _ _ _ hg
   have T6 : Hid (PT O' (w5.setCell ⟨w.heap.size + 2, 2, none⟩ (.slice (some ⟨g, 0, none⟩) (Dl.length + 1) cap)) tb q r (K + 2 * szRL (L.take k) + 2 * t.sz) nm own' hi σ' μ) := T5.out.keep (fun g' hg _ => hk6 g' (by
    rcases hg with hg | hg
    ·rcases U3.out g' hg with h9 | ⟨h9, _⟩
     ·have h8 := HB.out g' (Or.inl h9); omega
     ·omega
    ·have h8 := HB.out g' (Or.inr hg); omega))
   have F6 := hidden (F5.out.set2 (.slice (some ⟨g, 0, none⟩) (Dl.length + 1) cap))
   have C6 : Hid (B3 (w5.setCell ⟨w.heap.size + 2, 2, none⟩ (.slice (some ⟨g, 0, none⟩) (Dl.length + 1) cap)) (w.heap.size + 1) 0 ⟨#[]⟩ (.slice none 0 0)) := C5.out.keep (hk6 _ (by omega))
   have W6 : Hid (TW10 (w5.setCell ⟨w.heap.size + 2, 2, none⟩ (.slice (some ⟨g, 0, none⟩) (Dl.length + 1) cap)) (w.heap.size + 3) (.slice (some ⟨g, 0, none⟩) (Dl.length + 1) cap) (Dl ++ [⟨.mk u [] [], al3, cp3⟩])) := W5.out.keep (fun g' hg _ => hk6 g' (by omega))
   have L6 : Hid (Only (Own3 tb q r) w (w5.setCell ⟨w.heap.size + 2, 2, none⟩ (.slice (some ⟨g, 0, none⟩) (Dl.length + 1) cap))) := L5.out.setNew (Or.inl (by omega)) _ _
   generalize w5.setCell ⟨w.heap.size + 2, 2, none⟩ (.slice (some ⟨g, 0, none⟩) (Dl.length + 1) cap) = w6 at *
   clear hk6
   go_wp2_with fail
   go_roundw
   case rel =>
    refine ⟨k + 1, Dl ++ [⟨.mk u [] [], al3, cp3⟩], .slice (some ⟨g, 0, none⟩) (Dl.length + 1) cap, own', σ', R', O', by rw [HN.out]; omega, by go_num, by rw [List.length_append, G1.out]; rfl, W6.out, ?_, ?_, E3.out, J2.out, ?_, Q3.out, fun g' hg => (U3.out g' hg).imp id And.left, ?_, L6.out, C6.out, F6.out⟩
    ·intro e he
     rcases List.mem_append.1 he with he | he
     ·obtain ⟨q1, q2, q3⟩ := G3.out e he
      exact ⟨q1, q2, J1.out.okv q3⟩
     ·rw [List.mem_singleton.1 he]
      exact ⟨rfl, J2.out.nz J9.out, J9.out⟩
    ·rw [List.map_append]
     have e1 : Dl.map (fun e => R' e.t.V) = Dl.map (fun e => R1 e.t.V) := List.map_congr_left (fun e he => J1.out.same _ (G3.out e he).2.2)
     have hZk : (rsL R L)[k]? = some (t.rs R) := by rw [rsL_map, List.getElem?_map, ht]; rfl
     obtain ⟨q1, q2⟩ := List.getElem?_eq_some_iff.1 hZk
     rw [e1, G4.out, List.take_succ_eq_append_getElem q1, q2]
     have h8 := J8.out
     rw [ERS.out] at h8
     show _ ++ [R' u] = _
     rw [h8]
    ·rw [HTZ.out]
     have h9 := T6.out
     rw [show K + 2 * szRL (L.take k) + 2 * t.sz = K + 2 * (szRL (L.take k) + t.sz) by omega] at h9
     exact h9
    ·intro g' hg
     have e9 : g = g' := by simpa [Value.ownBlock] using hg
     rw [← e9]
     exact G5x.out
   case measure => simp [intOf]; omega
  ·have z1 : ¬ (k : Int) < (n : Int) := by omega
   have hkn : k = n := by omega
   obtain ⟨vo, vc, rfl⟩ := G2.out.slice
   obtain ⟨c0, c1, c2, cf⟩ := G12.out.cells
   obtain ⟨f0, f1, f2, ff⟩ := G13.out.cells
   have HKN := hidden hkn
   clear hkn
   go_wp2_with fail
   refine bodyPost_ret (results_cell_row rfl _ _ (w.heap.size + 1) 24 #[.int .i64 0, .string ⟨S.toArray⟩, .slice vo Dl.length vc] (0, 0) _ rfl (G12.out.fill 0 ⟨S.toArray⟩ (.slice vo Dl.length vc)) Tryd.underlying24 rfl (by kernel_rfl)) rfl ?_
   have hown : ∀ g, (Value.slice vo Dl.length vc).ownBlock = some g → w.heap.size + 3 ≤ g ∧ g < wr.heap.size := fun g hg => G2.out.1.lt g hg
   have hOO : ∀ g, (O1 g ∨ (Value.slice vo Dl.length vc).ownBlock = some g) → g ≠ w.heap.size + 1 := fun g hg => by
    rcases hg with hg | hg
    ·rcases G9.out g hg with h9 | h9
     ·have h8 := HB.out g (Or.inl h9); omega
     ·omega
    ·have h8 := hown g hg; omega
   have TF := (G7.out.wide (O' := fun g => O1 g ∨ (Value.slice vo Dl.length vc).ownBlock = some g) (fun g hg => Or.inl hg) (fun g hg => by
    rcases hg with hg | hg
    ·exact G7.out.ap g hg
    ·have h8 := hown g hg
     have h7 := HB.out tb (Or.inr (Or.inl rfl))
     have h6 := HB.out q (Or.inr (Or.inr (Or.inl rfl)))
     have h5 := HB.out r (Or.inr (Or.inr (Or.inr rfl)))
     exact ⟨by omega, by omega, by omega, h8.2⟩)).keep (w' := fill3 wr (w.heap.size + 1) 0 ⟨S.toArray⟩ (.slice vo Dl.length vc)) (fun g hg _ => fill3_blk wr (by
    rcases hg with hg | hg
    ·exact hOO g hg
    ·have h8 := HB.out g (Or.inr hg); omega) _ _ _)
   obtain ⟨hrt, _⟩ := G2.out.rt0 (fun e he => by rw [(G3.out e he).1]; rfl)
   have hkL : k = L.length := by rw [HN.out]; exact HKN.out
   have eL : L.take k = L := List.take_of_length_le (by omega)
   have eZ : (rsL R L).take k = rsL R L := List.take_of_length_le (by rw [rsL_len]; omega)
   rw [eL] at TF
   have G4x := G4.out
   rw [eZ] at G4x
   have hparts : ∀ y, y ∈ Dl.map TD.t → y = .mk y.V [] [] ∧ y.V ≠ 0 ∧ OkV F σ1 y.V := fun y hy => by
    obtain ⟨e, he, rfl⟩ := List.mem_map.1 hy
    exact G3.out e he
   refine ⟨.mk 0 S (Dl.map TD.t), vo, vc, own1, σ1, R1, fun g => O1 g ∨ (Value.slice vo Dl.length vc).ownBlock = some g, ?_, G5.out, G6.out, TF, ?_, fun g hg => Or.inl (G8.out g hg), ?_, G11.out.fill3 (Or.inl (by omega)) _ _ _, ?_, fun _ => ⟨rfl, hparts, ?_, ?_⟩, fun h => absurd rfl h⟩
   ·show Ending.returned (.agg #[.int .i64 0, .string ⟨S.toArray⟩, .slice vo Dl.length vc]) = .returned (.agg #[.int .i64 0, .string ⟨S.toArray⟩, .slice vo (Dl.map TD.t).length vc])
    rw [List.length_map]
   ·exact (hrt.keep (fun g hg _ => fill3_blk wr (hOO g (Or.inr hg)) _ _ _)).mono (fun g hg _ => Or.inr hg)
   ·intro g hg
    rcases hg with hg | hg
    ·rcases G9.out g hg with h9 | h9
     ·exact Or.inl h9
     ·exact Or.inr (by omega)
    ·have h8 := hown g hg
     exact Or.inr (by omega)
   ·rw [rs_name R1 (x := .mk 0 S (Dl.map TD.t)) rfl, rs_name R (x := .mk 0 S L) rfl]
    show Ty.c S (rsL R1 (Dl.map TD.t)) = Ty.c S (rsL R L)
    rw [vars_rsL R1 hparts, List.map_map, ← G4x]
    rfl
   ·show (Dl.map TD.t).length ≤ 1000000
    rw [List.length_map, G1.out]
    exact hk9
   ·exact HSL.out
theorem flat_var (O : Nat → Prop) (K own : Nat) (R : Int → Ty) (σ : Int → Option Rw) (w : World) (V : Int) (ao : Option Addr) (c : Nat) (h : PT O w tb q r K nm own hi σ μ) (hs : PS F own σ R d) (hx : OkV F σ V) : Calls Tryd.prog 50 #[.pointer (some ⟨tb, 0, none⟩), .agg #[.int .i64 V, .string ⟨#[]⟩, .slice ao 0 c]] w fun e w' => FlatAs O tb q r K nm own hi F R d σ μ (.mk V [] []) w e w' := by
 have HS := hidden hs
 have HX := hidden hx
 have T := hidden h
 have h0 : (V == 0) = false := beq_eq_false_iff_ne.2 (hs.nz hx)
 clear h hs hx
 go_enter Tryd.func50, Tryd.ntmps50
 go_upto_region 1 with fail
 obtain ⟨a1, a2, a3⟩ := two_new w V ⟨#[]⟩ (.slice ao 0 c)
 have A := hidden a1
 have C := hidden a2
 have D := hidden a3
 have T0 := hidden (T.out.below a3 (Nat.le_refl _))
 have HB : Hid (∀ g, O g ∨ Own3 tb q r g → g < w.heap.size) := fun g hg => T.out.new hg
 clear a1 a2 a3
 have hsz0 : ((w.alloc (.cells #[.int .i64 V, .string ⟨#[]⟩, .slice ao 0 c] 24)).alloc (.cells #[.int .i64 0, .string ⟨#[]⟩, .slice none 0 0] 24)).heap.size = w.heap.size + 2 := by rw [nblk_alloc, nblk_alloc]
 have SZ0 := hidden hsz0
 clear hsz0
 generalize (w.alloc (.cells #[.int .i64 V, .string ⟨#[]⟩, .slice ao 0 c] 24)).alloc (.cells #[.int .i64 0, .string ⟨#[]⟩, .slice none 0 0] 24) = w0 at *
 obtain ⟨a0, a1, a2, af⟩ := A.out.cells
 clear af
 go_upto_region 2 with fail
 have T1 := hidden (T0.out.alloc (.cells #[.int .i64 V, .string ⟨#[]⟩, .slice none 0 0] 24))
 have A1 := hidden (A.out.alloc (.cells #[.int .i64 V, .string ⟨#[]⟩, .slice none 0 0] 24))
 have C1 := hidden (C.out.alloc (.cells #[.int .i64 V, .string ⟨#[]⟩, .slice none 0 0] 24))
 have F1 : Hid (B3 (w0.alloc (.cells #[.int .i64 V, .string ⟨#[]⟩, .slice none 0 0] 24)) (w.heap.size + 2) V ⟨#[]⟩ (.slice none 0 0)) := by
  have h9 := B3.new w0 V ⟨#[]⟩ (.slice none 0 0)
  rw [SZ0.out] at h9
  exact h9
 have L1 := hidden ((Only.of_below (S := Own3 tb q r) D.out).alloc (.cells #[.int .i64 V, .string ⟨#[]⟩, .slice none 0 0] 24))
 try rw [SZ0.out]
 generalize w0.alloc (.cells #[.int .i64 V, .string ⟨#[]⟩, .slice none 0 0] 24) = w1 at *
 clear a0 a1 a2
 obtain ⟨a0, a1, a2, af⟩ := A1.out.cells
 clear a0 a1 af
 go_wp2_with fail
 clear a2
 go_loopw [16] (fun iv wr => iv = .int .i64 0 ∧ wr = w1) (fun iv wr => 0)
 case atStart => exact ⟨rfl, rfl⟩
 case round =>
  obtain ⟨rfl, rfl⟩ := hrel
  obtain ⟨c0, c1, c2, cf⟩ := C1.out.cells
  obtain ⟨f0, f1, f2, ff⟩ := F1.out.cells
  go_wp2_with fail
  refine bodyPost_ret (results_cell_row rfl _ _ (w.heap.size + 1) 24 #[.int .i64 V, .string ⟨#[]⟩, .slice none 0 0] (0, 0) _ rfl (C1.out.fill V ⟨#[]⟩ (.slice none 0 0)) Tryd.underlying24 rfl (by kernel_rfl)) rfl ?_
  refine ⟨.mk V [] [], none, 0, own, σ, R, O, rfl, Ext.refl _ _ _ _, HS.out, ((T1.out.more (Nat.le_add_right _ _)).keep (fun g hg _ => fill3_blk wr (by have h9 := HB.out g hg; omega) _ _ _)), rt_nil, fun g hg => hg, fun g hg => Or.inl hg, L1.out.fill3 (Or.inl (by omega)) _ _ _, rfl, fun h => ?_, fun _ => rfl⟩
  have h9 : V = 0 := h
  rw [h9] at h0
  cases h0
theorem flat_any : ∀ s, FlatFor tb q r nm hi F d μ s
 | 0 => fun O K own R σ w x ao c hm => by
  rw [sz_L] at hm
  omega
 | s + 1 => fun O K own R σ w x ao c hm hsz hsl h hs hx hrt hK => by
  have IH := var_step (flat_any s)
  by_cases hv : x.V = 0
  ·have hx2 := ok_name hx hv
   obtain ⟨V, S, L⟩ := x
   have hv' : V = 0 := hv
   subst hv'
   rw [Rw.sz] at hm hsz
   exact flat_name IH O K own R σ w S L ao c (by omega) (by omega) hsl h hs hx2 hrt hK
  ·obtain ⟨k1, k2⟩ := ok_var hx hv
   have := flat_var O K own R σ w x.V ao c h hs k1
   rw [k2]
   exact this
end
end Go.Proofs.YtnebhiaeechpaaaDoor
