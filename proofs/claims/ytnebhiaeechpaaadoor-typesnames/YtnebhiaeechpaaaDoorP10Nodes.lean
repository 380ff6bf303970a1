/-
 Layer 10: the program's nodes, nodesOf and size: how many nodes a type has as far as it is known, or the room. Condition: the Table lies in memory.
-/
import Derived.Test.YtnebhiaeechpaaaDoorP10Short
namespace Go.Proofs.YtnebhiaeechpaaaDoor
open Go.ChangeShapes Go.WideShapes Go.ChangeAt Go.RowKit Go.Deep
set_option linter.unusedVariables false
set_option linter.unusedSimpArgs false
set_option maxHeartbeats 4000000
set_option maxRecDepth 20000
theorem szL_app : ∀ (l l' : List Ty), szL (l ++ l') = szL l + szL l'
 | [], l' => by simp [szL]
 | x :: l, l' => by rw [List.cons_append, szL, szL, szL_app l l']; omega
theorem szL_take (l : List Ty) (k : Nat) : szL (l.take k) ≤ szL l := by
 have h := szL_app (l.take k) (l.drop k)
 rw [List.take_append_drop] at h
 omega
theorem len_szL : ∀ l : List Ty, l.length ≤ szL l
 | [] => Nat.le_refl _
 | x :: l => by
  have := len_szL l
  have := x.sz_pos
  rw [szL, List.length_cons]
  omega
/-- What is met is right. -/
def GoodM (R : Int → Ty) (μ : Int → Option Int) : Prop := ∀ v c, μ v = some c → c = ((R v).sz : Int)
/-- 1 of a name. -/
def nam (x : Rw) : Nat := if x.V = 0 then 1 else 0
/-- What nodes tells. -/
def NodesAs (O : Nat → Prop) (tb q r K own : Nat) (hi : Int) (F : List Int) (R : Int → Ty) (d : Int → Nat) (σ : Int → Option Rw) (nm s room one : Nat) (w : World) (e : Ending) (w' : World) : Prop := ∃ (σ' : Int → Option Rw) (μ' : Int → Option Int) (nm' : Nat), e = .returned (.int .i64 ((min s room : Nat) : Int)) ∧ Cmp σ σ' ∧ PS F own σ' R d ∧ PT O w' tb q r K nm' own hi σ' μ' ∧ Only (Own3 tb q r) w w' ∧ (GoodM R μ' ∨ room ≤ s) ∧ nm' + one ≤ nm + min s room
def NodesFor (O : Nat → Prop) (tb q r K own : Nat) (hi : Int) (F : List Int) (R : Int → Ty) (d : Int → Nat) (s : Nat) : Prop := ∀ (σ : Int → Option Rw) (μ : Int → Option Int) (nm : Nat) (w : World) (x : Rw) (ao : Option Addr) (c room : Nat), 2 * (x.rs R).sz + 1 ≤ s + nam x → PT O w tb q r K nm own hi σ μ → PS F own σ R d → GoodM R μ → x.ok (OkV F σ) → RT (fun g => ¬ Own3 tb q r g) w x.L ao → 1 ≤ room → room ≤ 100000 → nm + room ≤ 1000000 →
  Calls Tryd.prog 38 #[.pointer (some ⟨tb, 0, none⟩), .agg #[.int .i64 x.V, .string ⟨x.S.toArray⟩, .slice ao x.L.length c], .int .i64 (room : Int)] w fun e w' => NodesAs O tb q r K own hi F R d σ nm (x.rs R).sz room (nam x) w e w'
section
variable {O : Nat → Prop} {tb q r K own : Nat} {hi : Int} {F : List Int} {R : Int → Ty} {d : Int → Nat}
theorem nodesOf_any {s : Nat} (IH : NodesFor O tb q r K own hi F R d s) (hK : K ≤ 1000000000) {σ : Int → Option Rw} {μ : Int → Option Int} {nm : Nat} {w : World} (h : PT O w tb q r K nm own hi σ μ) (hs : PS F own σ R d) (hg : GoodM R μ) {u : Int} (hu : OkV F σ u) (he : End σ u) (hm : 2 * (R u).sz ≤ s) {room : Nat} (h1 : 1 ≤ room) (h2 : room ≤ 100000) (h3 : nm + room ≤ 1000000) :
  Calls Tryd.prog 47 #[.pointer (some ⟨tb, 0, none⟩), .int .i64 u, .int .i64 (room : Int)] w fun e w' => NodesAs O tb q r K own hi F R d σ nm (R u).sz room 0 w e w' := by
 have T := hidden h
 have HS := hidden hs
 have HG := hidden hg
 have HU := hidden hu
 have how := h.ow
 have hru := hs.rng hu
 have rg : -9223372036854775808 ≤ u ∧ u ≤ 9223372036854775807 := by omega
 obtain ⟨t0, t1, t2, t3, tf⟩ := h.cells
 clear t1 t2 tf hru
 cases hc : μ u with
 | some c =>
  have l1 := h.met_yes rg hc
  have e1 := hg u c hc
  obtain ⟨sz, hsz⟩ : ∃ sz, (R u).sz = sz := ⟨_, rfl⟩
  rw [hsz] at e1 ⊢
  have hpos : 1 ≤ sz := by rw [← hsz]; exact (R u).sz_pos
  subst e1
  clear h hs hg hu he hm hc t0 hsz IH
  go_enter Tryd.func47, Tryd.ntmps47
  rcases Nat.lt_or_ge room sz with hq | hq
  ·have hq2 : (room : Int) < (sz : Int) := by omega
   go_wp2_with fail
   go_ret
   exact ⟨σ, μ, nm, by rw [Nat.min_eq_right (by omega)]; rfl, Cmp.refl σ, HS.out, T.out, Only.refl _ _, Or.inl HG.out, by omega⟩
  have hq2 : ¬ (room : Int) < (sz : Int) := by omega
  go_wp2_with fail
  go_ret
  exact ⟨σ, μ, nm, by rw [Nat.min_eq_left (by omega)]; rfl, Cmp.refl σ, HS.out, T.out, Only.refl _ _, Or.inl HG.out, by omega⟩
 | none =>
  have l1 := h.met_no rg hc
  have HI := hidden IH
  have key : ∃ (y : Rw) (al : Option Addr) (cp : Nat), y.V = 0 ∧ (y.rs R).sz = (R u).sz ∧ y.ok (OkV F σ) ∧ RT (fun g => ¬ Own3 tb q r g) w y.L al ∧ (Instr.lookup 39 (.map (some q)) (.int .i64 u) false).run Tryd.prog w = .ok (.agg #[.int .i64 y.V, .string ⟨y.S.toArray⟩, .slice al y.L.length cp]) w := by
   rcases hs.at_end hu he with ⟨z1, z2, z3⟩ | ⟨z, z1, z2, z3, z4⟩
   ·refine ⟨.mk 0 [] [], none, 0, rfl, ?_, ?_, rt_nil, (h.val_no rg z1).1⟩
    ·rw [z3, rs_name R (x := .mk 0 [] []) rfl]
     simp [Ty.sz, Rw.L, rsL, szL]
    ·rw [Rw.ok]
     exact Or.inr ⟨rfl, trivial⟩
   ·obtain ⟨al, cp, k1, k2, k3, _⟩ := h.val_yes rg z1
    refine ⟨z, al, cp, z2, ?_, (hs.rs_known z1).2, k1.mono (fun g hg _ hc => ?_), k3⟩
    ·rw [(hs.rs_known z1).1]
    ·have h9 := h.ap g hg
     rcases hc with e | e | e
     ·exact h9.1 e
     ·exact h9.2.1 e
     ·exact h9.2.2.1 e
  obtain ⟨y, al, cp, y0, ysz, yok, yr, l2⟩ := key
  have HN := hidden (HI.out σ μ nm w y al cp room (by unfold nam; rw [if_pos y0, ysz]; omega) h hs hg yok yr h1 h2 h3)
  have en : nam y = 1 := if_pos y0
  rw [ysz, en] at HN
  have HM : Hid (μ u = none) := hc
  clear h hs hg hu he hm hc IH HI yr yok ysz en y0
  go_enter Tryd.func47, Tryd.ntmps47
  go_wp2_with fail
  refine HN.out.mono ?_
  rintro e w1 ⟨σ1, μ1, nm1, rfl, g1, g2, g3, g4, g5, g6⟩
  obtain ⟨sz, hsz⟩ : ∃ sz, (R u).sz = sz := ⟨_, rfl⟩
  rw [hsz] at g5 g6 ⊢
  have hpos : 1 ≤ sz := by rw [← hsz]; exact (R u).sz_pos
  obtain ⟨mn, hmn⟩ : ∃ mn, min sz room = mn := ⟨_, rfl⟩
  rw [hmn] at g6 ⊢
  obtain ⟨w2, m1, m2, m3⟩ := g3.meet (k := u) (by unfold maxLen; omega) rg (mn : Int)
  have T2 := hidden m2
  have L2 := hidden (g4.trans (Only.grown (S := Own3 tb q r) m3 (Or.inr (Or.inr rfl))))
  obtain ⟨s0, s1, s2, s3, sf⟩ := g3.cells
  have G1 := hidden g1
  have G2 := hidden g2
  have G5 : Hid (GoodM R (updM μ1 u mn) ∨ room ≤ sz) := by
   rcases g5 with g5 | g5
   ·by_cases hle : room ≤ sz
    ·exact Or.inr hle
    ·refine Or.inl (fun v c hv => ?_)
     unfold updM at hv
     split at hv
     ·rename_i e
      cases hv
      rw [e, hsz, ← hmn]
      omega
     ·exact g5 v c hv
   ·exact Or.inr g5
  have hq1 : mn ≤ room := by omega
  clear g1 g2 g3 g4 g5 m2 m3 t0 t3 l1 l2 s0 s1 s2 sf
  have hq2 : ¬ (room : Int) < (mn : Int) := by omega
  have HMN := hidden hmn
  clear hmn
  go_wp2_with fail
  go_ret
  exact ⟨σ1, updM μ1 u mn, nm1 + 1, by rw [hsz, HMN.out]; rfl, G1.out, G2.out, T2.out, L2.out, by rw [hsz]; exact G5.out, by rw [hsz]; have h9 := HMN.out; omega⟩
/-- How it stands while parts are counted. -/
def InN (O : Nat → Prop) (tb q r K own : Nat) (hi : Int) (F : List Int) (R : Int → Ty) (d : Int → Nat) (σ : Int → Option Rw) (nm room : Nat) (Z : List Ty) (w0 : World) (nv iv : Value) (wr : World) : Prop := ∃ (k : Nat) (σ1 : Int → Option Rw) (μ1 : Int → Option Int) (nm1 : Nat), k ≤ Z.length ∧ iv = .int .i64 (k : Int) ∧ nv = .int .i64 ((min (1 + szL (Z.take k)) room : Nat) : Int) ∧ Cmp σ σ1 ∧ PS F own σ1 R d ∧ PT O wr tb q r K nm1 own hi σ1 μ1 ∧ Only (Own3 tb q r) w0 wr ∧ (GoodM R μ1 ∨ room ≤ 1 + szL (Z.take k)) ∧ nm1 + 1 ≤ nm + min (1 + szL (Z.take k)) room
theorem take_succ_sz {Z : List Ty} {k : Nat} {t : Ty} (h : Z[k]? = some t) : szL (Z.take (k + 1)) = szL (Z.take k) + t.sz := by
 obtain ⟨h1, h2⟩ := List.getElem?_eq_some_iff.1 h
 rw [List.take_succ_eq_append_getElem h1, szL_app, h2, szL, szL]
 omega
theorem nodes_name (hK : K ≤ 1000000000) {s : Nat} (IH : NodesFor O tb q r K own hi F R d s) (σ : Int → Option Rw) (μ : Int → Option Int) (nm : Nat) (w : World) (S : List UInt8) (L : List Rw) (ao : Option Addr) (c room : Nat) (hm : 2 * ((Rw.mk 0 S L).rs R).sz + 1 ≤ s + 1 + 1) (h : PT O w tb q r K nm own hi σ μ) (hs : PS F own σ R d) (hg : GoodM R μ) (hx : okL (OkV F σ) L) (hrt : RT (fun g => ¬ Own3 tb q r g) w L ao) (h1 : 1 ≤ room) (h2 : room ≤ 100000) (h3 : nm + room ≤ 1000000) :
  Calls Tryd.prog 38 #[.pointer (some ⟨tb, 0, none⟩), .agg #[.int .i64 0, .string ⟨S.toArray⟩, .slice ao L.length c], .int .i64 (room : Int)] w fun e w' => NodesAs O tb q r K own hi F R d σ nm ((Rw.mk 0 S L).rs R).sz room 1 w e w' := by
 have es : ((Rw.mk 0 S L).rs R).sz = 1 + szL (rsL R L) := by rw [rs_name R (x := .mk 0 S L) rfl, Ty.sz]; rfl
 rw [es] at hm ⊢
 obtain ⟨Z, hZ⟩ : ∃ Z, rsL R L = Z := ⟨_, rfl⟩
 have HZl : Hid (Z.length = L.length) := by show _ = _; rw [← hZ, rsL_len]
 have HZ := hidden hZ
 rw [hZ] at hm ⊢
 have HS := hidden hs
 have HG := hidden hg
 have HI := hidden IH
 have HXL := hidden hx
 have how := h.ow
 have T0 := hidden (h.alloc (.cells #[.int .i64 0, .string ⟨S.toArray⟩, .slice ao L.length c] 24))
 have X0 := hidden (hrt.alloc (.cells #[.int .i64 0, .string ⟨S.toArray⟩, .slice ao L.length c] 24))
 have A0 := hidden (B3.new w 0 ⟨S.toArray⟩ (.slice ao L.length c))
 have L0 := hidden ((Only.refl (Own3 tb q r) w).alloc (.cells #[.int .i64 0, .string ⟨S.toArray⟩, .slice ao L.length c] 24))
 clear h hs hg IH hx hrt es hZ
 go_enter Tryd.func38, Tryd.ntmps38
 go_upto_region 1 with fail
 generalize w.alloc (.cells #[.int .i64 0, .string ⟨S.toArray⟩, .slice ao L.length c] 24) = w0 at *
 obtain ⟨l, hl⟩ : ∃ l, L.length = l := ⟨_, rfl⟩
 rw [hl] at A0 HZl ⊢
 have HLy := hidden hl
 clear hl
 obtain ⟨a0, a1, a2, af⟩ := A0.out.cells
 clear a1 af
 go_wp2_with fail
 clear a0 a2
 go_loopw [7, 23] (fun nv iv wr => InN O tb q r K own hi F R d σ nm room Z w0 nv iv wr) (fun nv iv wr => (l - intOf iv).toNat)
 case atStart =>
  exact ⟨0, σ, μ, nm, Nat.zero_le _, rfl, by rw [List.take_zero, szL, Nat.min_eq_left (by omega)]; rfl, Cmp.refl σ, HS.out, T0.out, Only.refl _ _, Or.inl HG.out, by rw [List.take_zero, szL, Nat.min_eq_left (by omega)]; omega⟩
 case round =>
  obtain ⟨k, σ1, μ1, nm1, k1, rfl, rfl, g1, g2, g3, g4, g5, g6⟩ := hrel
  rw [HZl.out] at k1
  have hsz := szL_take Z k
  obtain ⟨sk, hsk⟩ : ∃ sk, 1 + szL (Z.take k) = sk := ⟨_, rfl⟩
  rw [hsk] at g5 g6 ⊢
  have HSK := hidden hsk
  have G1 := hidden g1
  have G2 := hidden g2
  have G3 := hidden g3
  have G4 := hidden g4
  have G5 := hidden g5
  clear g1 g2 g3 g4 g5
  by_cases hr : room ≤ sk
  ·-- the room is used up
   have e0 : min sk room = room := Nat.min_eq_right hr
   rw [e0] at g6 ⊢
   have HF : Hid (min (1 + szL Z) room = room) := by show _ = _; omega
   have HF2 : Hid (room ≤ 1 + szL Z) := by show _ ≤ _; omega
   clear hsk e0
   by_cases hlt : k < l
   ·have z1 : (k : Int) < (l : Int) := by omega
    have zi : (0 : Int) ≤ (k : Int) ∧ (k : Int) < (l : Int) := ⟨by omega, z1⟩
    obtain ⟨t, ht⟩ : ∃ t, L[k]? = some t := ⟨_, List.getElem?_eq_getElem (by rw [HLy.out]; exact hlt)⟩
    have X1 := X0.out.keep (w' := wr) (fun g hg hl => G4.out.block g hl hg)
    obtain ⟨a, al2, cp2, rfl, t0, t1, t2, hv, hr2⟩ := rt_part X1 ht
    clear hr2 ht X1 hv
    go_wp2_with fail
    go_ret
    exact ⟨σ1, μ1, nm1, by rw [HF.out]; rfl, G1.out, G2.out, G3.out.alloc _, (L0.out.trans G4.out).alloc _, Or.inr HF2.out, by have h9 := HF.out; omega⟩
   ·have z1 : ¬ (k : Int) < (l : Int) := by omega
    go_wp2_with fail
    go_ret
    exact ⟨σ1, μ1, nm1, by rw [HF.out]; rfl, G1.out, G2.out, G3.out, L0.out.trans G4.out, Or.inr HF2.out, by have h9 := HF.out; omega⟩
  ·have e0 : min sk room = sk := Nat.min_eq_left (by omega)
   rw [e0] at g6 ⊢
   have hs1 : 1 ≤ sk := by omega
   have GM : Hid (GoodM R μ1) := by
    rcases G5.out with h9 | h9
    ·exact h9
    ·exact absurd h9 hr
   clear hsk e0 G5
   by_cases hlt : k < l
   ·have z1 : (k : Int) < (l : Int) := by omega
    have zi : (0 : Int) ≤ (k : Int) ∧ (k : Int) < (l : Int) := ⟨by omega, z1⟩
    have hk9 : k ≤ 100000 := by
     have h7 := len_szL (Z.take k)
     rw [List.length_take, HZl.out] at h7
     have h8 := HSK.out
     omega
    have zn : ((sk : Int) == (room : Int)) = false := beq_eq_false_iff_ne.2 (by omega)
    obtain ⟨t, ht⟩ : ∃ t, L[k]? = some t := ⟨_, List.getElem?_eq_getElem (by rw [HLy.out]; exact hlt)⟩
    have htok := okL_mem.1 HXL.out t (List.mem_of_getElem? ht)
    have X1 := X0.out.keep (w' := wr) (fun g hg hl => G4.out.block g hl hg)
    obtain ⟨a, al2, cp2, rfl, t0, t1, t2, hv, hr2⟩ := rt_part X1 ht
    have hZk : Z[k]? = some (t.rs R) := by rw [← HZ.out, rsL_map, List.getElem?_map, ht]; rfl
    have hts := take_succ_sz hZk
    have htl := szL_take Z (k + 1)
    obtain ⟨rm, hrm⟩ : ∃ rm : Nat, room = sk + rm := ⟨room - sk, by omega⟩
    have em : ((rm : Nat) : Int) = (room : Int) - (sk : Int) := by omega
    have hnt : nam t ≤ 1 := by unfold nam; split <;> omega
    have R2 := hidden (hr2.alloc (.cells #[.int .i64 t.V, .string ⟨t.S.toArray⟩, .slice al2 t.L.length cp2] 24))
    have T2 := hidden (G3.out.alloc (.cells #[.int .i64 t.V, .string ⟨t.S.toArray⟩, .slice al2 t.L.length cp2] 24))
    have B2 := hidden (B3.new wr t.V ⟨t.S.toArray⟩ (.slice al2 t.L.length cp2))
    have O2 := hidden (G4.out.alloc (.cells #[.int .i64 t.V, .string ⟨t.S.toArray⟩, .slice al2 t.L.length cp2] 24))
    have hsk := HSK.out
    have HN := hidden (HI.out σ1 μ1 nm1 _ t al2 cp2 rm (by omega) T2.out G2.out GM.out (G1.out.ok htok) R2.out (by omega) (by omega) (by omega))
    rw [em] at HN
    obtain ⟨st, hst⟩ : ∃ st, (t.rs R).sz = st := ⟨_, rfl⟩
    rw [hst] at HN
    have HTS : Hid (1 + szL (Z.take (k + 1)) = sk + st) := by show _ = _; omega
    have HRM := hidden hrm
    clear hr2 ht X1 hv htok hZk hts htl em hsk hst hsz hrm
    go_upto_region 7 with fail
    generalize wr.alloc (.cells #[.int .i64 t.V, .string ⟨t.S.toArray⟩, .slice al2 t.L.length cp2] 24) = w1 at *
    clear t0 t1 t2
    obtain ⟨b0, b1, b2, bf⟩ := B2.out.cells
    go_wp2_with fail
    refine HN.out.mono ?_
    rintro e w2 ⟨σ2, μ2, nm2, rfl, j1, j2, j3, j4, j5, j6⟩
    have J1 := hidden (G1.out.trans j1)
    have J2 := hidden j2
    have J3 := hidden j3
    have J4 := hidden (O2.out.trans j4)
    have J5 := hidden j5
    have J6 := hidden j6
    obtain ⟨mn, hmn⟩ : ∃ mn, min st rm = mn := ⟨_, rfl⟩
    rw [hmn] at J6 ⊢
    have HMN := hidden hmn
    have hm9 : mn ≤ 100000 := by have h9 := HRM.out; omega
    clear j1 j2 j3 j4 j5 j6 b0 b1 b2 bf hmn
    go_wp2_with fail
    go_roundw
    case rel =>
     refine ⟨k + 1, σ2, μ2, nm2, by rw [HZl.out]; omega, by go_num, ?_, J1.out, J2.out, J3.out, J4.out, ?_, ?_⟩
     ·rw [HTS.out]
      have h8 := HMN.out
      have h7 := HRM.out
      have h9 : min (sk + st) room = sk + mn := by omega
      rw [h9]
      congr 1
     ·rw [HTS.out]
      rcases J5.out with h9 | h9
      ·exact Or.inl h9
      ·exact Or.inr (by have h7 := HRM.out; omega)
     ·rw [HTS.out]
      have h7 := J6.out
      have h8 := HMN.out
      have h9 := HRM.out
      omega
    case measure => simp [intOf]; omega
   ·have z1 : ¬ (k : Int) < (l : Int) := by omega
    have HF : Hid (1 + szL Z = sk) := by
     show _ = _
     have h9 := HSK.out
     rw [List.take_of_length_le (by rw [HZl.out]; omega)] at h9
     exact h9
    go_wp2_with fail
    go_ret
    exact ⟨σ1, μ1, nm1, by rw [HF.out, Nat.min_eq_left (by omega)]; rfl, G1.out, G2.out, G3.out, L0.out.trans G4.out, Or.inl GM.out, by rw [HF.out, Nat.min_eq_left (by omega)]; omega⟩
theorem nodes_step (hK : K ≤ 1000000000) {s : Nat} (IH : NodesFor O tb q r K own hi F R d s) : NodesFor O tb q r K own hi F R d (s + 1) := by
 intro σ μ nm w x ao c room hm h hs hg hx hrt h1 h2 h3
 by_cases hv : x.V = 0
 ·have en : nam x = 1 := if_pos hv
  have hx2 := ok_name hx hv
  obtain ⟨V, S, L⟩ := x
  have hv' : V = 0 := hv
  subst hv'
  rw [en] at hm ⊢
  exact nodes_name hK IH σ μ nm w S L ao c room hm h hs hg hx2 hrt h1 h2 h3
 ·have en : nam x = 0 := if_neg hv
  have T := hidden h
  have HS := hidden hs
  have HG := hidden hg
  have HI := hidden IH
  have how := h.ow
  have T0 := hidden (T.out.alloc (.cells #[.int .i64 x.V, .string ⟨x.S.toArray⟩, .slice ao x.L.length c] 24))
  have A0 := hidden (B3.new w x.V ⟨x.S.toArray⟩ (.slice ao x.L.length c))
  have L0 := hidden ((Only.refl (Own3 tb q r) w).alloc (.cells #[.int .i64 x.V, .string ⟨x.S.toArray⟩, .slice ao x.L.length c] 24))
  obtain ⟨k1, k2⟩ := ok_var hx hv
  have es : x.rs R = R x.V := rs_var R hv
  rw [en, es] at hm ⊢
  have HO := hidden k1
  have hb : (x.V == 0) = false := beq_eq_false_iff_ne.2 hv
  clear h hs hg IH hx hrt en es k1 k2
  go_enter Tryd.func38, Tryd.ntmps38
  go_upto_region 1 with fail
  generalize w.alloc (.cells #[.int .i64 x.V, .string ⟨x.S.toArray⟩, .slice ao x.L.length c] 24) = w0 at *
  obtain ⟨a0, a1, a2, af⟩ := A0.out.cells
  clear a1 a2 af
  go_wp2_with fail
  refine (last_any hK T0.out HS.out HO.out).mono ?_
  rintro e w1 ⟨u, σ', rfl, g1, g2, g3, g4, g5, g6, g7⟩
  have HN := hidden (nodesOf_any HI.out hK g6 g5 HG.out g1 g2 (by rw [g3]; omega) h1 h2 h3)
  rw [g3] at HN
  have G4 := hidden g4
  have L1 := hidden (L0.out.trans g7)
  clear g1 g2 g3 g4 g5 g6 g7 a0
  go_wp2_with fail
  refine HN.out.mono ?_
  rintro e w2 ⟨σ2, μ2, nm2, rfl, j1, j2, j3, j4, j5, j6⟩
  have J := hidden (And.intro (G4.out.trans j1) (And.intro j2 (And.intro j3 (And.intro (L1.out.trans j4) (And.intro j5 j6)))))
  clear j1 j2 j3 j4 j5 j6
  go_wp2_with fail
  go_ret
  exact ⟨σ2, μ2, nm2, rfl, J.out.1, J.out.2.1, J.out.2.2.1, J.out.2.2.2.1, J.out.2.2.2.2.1, J.out.2.2.2.2.2⟩
theorem nodes_any (hK : K ≤ 1000000000) : ∀ s, NodesFor O tb q r K own hi F R d s
 | 0 => fun σ μ nm w x ao c room hm h hs hg hx hrt h1 h2 h3 => by
  have := (x.rs R).sz_pos
  have : nam x ≤ 1 := by unfold nam; split <;> omega
  omega
 | s + 1 => nodes_step hK (nodes_any hK s)
end
end Go.Proofs.YtnebhiaeechpaaaDoor
