/-
 Layer 10: the program's resolve: a type as far as it is known, in new memory. Condition: the Table lies in memory.
-/
import Derived.Test.YtnebhiaeechpaaaDoorP10Flat
namespace Go.Proofs.YtnebhiaeechpaaaDoor
open Go.ChangeShapes Go.WideShapes Go.ChangeAt Go.RowKit Go.Deep
set_option linter.unusedVariables false
set_option linter.unusedSimpArgs false
set_option maxHeartbeats 4000000
set_option maxRecDepth 20000
theorem szRL_vars : ∀ {L : List Rw}, (∀ y, y ∈ L → y = .mk y.V [] []) → szRL L = L.length
 | [], _ => rfl
 | y :: M, h => by
  rw [szRL, szRL_vars (fun z hz => h z (List.mem_cons_of_mem _ hz)), h y List.mem_cons_self]
  simp [Rw.sz, szRL]
  omega
/-- What resolve tells. -/
def ResAs (O : Nat → Prop) (tb q r K nm own : Nat) (hi : Int) (F : List Int) (R : Int → Ty) (d : Int → Nat) (σ : Int → Option Rw) (μ : Int → Option Int) (t : Rw) (w : World) (e : Ending) (w' : World) : Prop := ∃ (al : Option Addr) (cp : Nat) (σ' : Int → Option Rw), e = .returned (.agg #[.int .i64 t.V, .string ⟨t.S.toArray⟩, .slice al t.L.length cp]) ∧ Cmp σ σ' ∧ PS F own σ' R d ∧ PT O w' tb q r K nm own hi σ' μ ∧ RT (fun g => w.heap.size ≤ g) w' t.L al ∧ Only (Own3 tb q r) w w' ∧ (-9223372036854775808 ≤ t.V ∧ t.V ≤ 9223372036854775807 ∧ t.S.length ≤ maxLen)
def ResFor (O : Nat → Prop) (tb q r K nm own : Nat) (hi : Int) (F : List Int) (R : Int → Ty) (d : Int → Nat) (μ : Int → Option Int) (s : Nat) : Prop := ∀ (σ : Int → Option Rw) (w : World) (x : Rw) (ao : Option Addr) (c : Nat), (x.rs R).sz ≤ s → szRL x.L ≤ 1000000 → x.S.length ≤ maxLen → PT O w tb q r K nm own hi σ μ → PS F own σ R d → x.ok (OkV F σ) → RT (fun g => ¬ Own3 tb q r g) w x.L ao → Calls Tryd.prog 32 #[.pointer (some ⟨tb, 0, none⟩), .agg #[.int .i64 x.V, .string ⟨x.S.toArray⟩, .slice ao x.L.length c]] w fun e w' => ResAs O tb q r K nm own hi F R d σ μ (x.rs R).rw w e w'
/-- How it stands while parts are written out. -/
def InRs (O : Nat → Prop) (tb q r K nm own : Nat) (hi : Int) (F : List Int) (R : Int → Ty) (d : Int → Nat) (σ : Int → Option Rw) (μ : Int → Option Int) (L : List Rw) (S : List UInt8) (w : World) (fb : Nat) (iv : Value) (wr : World) : Prop := ∃ (k : Nat) (D : List TD) (v : Value) (σ' : Int → Option Rw), k ≤ L.length ∧ iv = .int .i64 (k : Int) ∧ D.length = k ∧ TW10 wr (fb + 1) v D ∧ D.map TD.t = ((rsL R L).take k).map Ty.rw ∧ Cmp σ σ' ∧ PS F own σ' R d ∧ PT O wr tb q r K nm own hi σ' μ ∧ Only (Own3 tb q r) w wr ∧ B3 wr (w.heap.size + 1) 0 ⟨#[]⟩ (.slice none 0 0) ∧ B3 wr fb 0 ⟨S.toArray⟩ v
section
variable {O : Nat → Prop} {tb q r K nm own : Nat} {hi : Int} {F : List Int} {R : Int → Ty} {d : Int → Nat} {μ : Int → Option Int}
theorem res_name {s : Nat} (IH : ResFor O tb q r K nm own hi F R d μ s) (σ4 : Int → Option Rw) (w : World) (S : List UInt8) (L : List Rw) (ao : Option Addr) (c : Nat) (hm : ((Rw.mk 0 S L).rs R).sz ≤ s + 1) (hl1 : szRL L ≤ 1000000) (hsl : S.length ≤ maxLen) (h : PT O w tb q r K nm own hi σ4 μ) (hs : PS F own σ4 R d) (hx : okL (OkV F σ4) L) (hrt : RT (fun g => ¬ Own3 tb q r g) w L ao) : Calls Tryd.prog 32 #[.pointer (some ⟨tb, 0, none⟩), .agg #[.int .i64 0, .string ⟨S.toArray⟩, .slice ao L.length c]] w fun e w' => ResAs O tb q r K nm own hi F R d σ4 μ ((Rw.mk 0 S L).rs R).rw w e w' := by
 have HSZ : Hid (1 + szL (rsL R L) ≤ s + 1) := by
  show _ ≤ _
  rw [rs_name R (x := .mk 0 S L) rfl, Ty.sz] at hm
  exact hm
 have HI := hidden IH
 have HS4 := hidden hs
 have HXL := hidden hx
 have T := hidden h
 have X := hidden hrt
 have HSL := hidden hsl
 have HL1 := hidden hl1
 have HC4 := hidden (Cmp.refl σ4)
 obtain ⟨RESX, hrx⟩ : ∃ RESX, ((Rw.mk 0 S L).rs R).rw = RESX := ⟨_, rfl⟩
 have HRX : Hid (RESX = (Ty.c S (rsL R L)).rw) := by
  show _ = _
  rw [← hrx, rs_name R (x := .mk 0 S L) rfl]
  rfl
 rw [hrx]
 clear h hs hx hrt IH hsl hl1 hm hrx
 go_enter Tryd.func32, Tryd.ntmps32
 go_upto_region 1 with fail
 obtain ⟨a1, a2, a3⟩ := two_new w 0 ⟨S.toArray⟩ (.slice ao L.length c)
 have A := hidden a1
 have C := hidden a2
 have D := hidden a3
 have HB : Hid (∀ g, O g ∨ Own3 tb q r g → g < w.heap.size) := fun g hg => T.out.new hg
 have XG : Hid (∀ wr, Only (Own3 tb q r) w wr → RT (fun g => ¬ Own3 tb q r g) wr L ao) := fun wr h => X.out.keep (fun g hg hl => h.block g hl hg)
 clear a1 a2 a3
 generalize (w.alloc (.cells #[.int .i64 0, .string ⟨S.toArray⟩, .slice ao L.length c] 24)).alloc (.cells #[.int .i64 0, .string ⟨#[]⟩, .slice none 0 0] 24) = w0 at *
 obtain ⟨a0, a1, a2, af⟩ := A.out.cells
 go_wp2_with fail
 refine (short_name ⟨S.toArray⟩ (.slice ao L.length c) ⟨_, _, _, rfl⟩).mono ?_
 rintro e w1 ⟨rfl, hb1⟩
 have D1 := hidden (D.out.trans (hb1.mono D.out.size))
 have A1 := hidden (A.out.below hb1 (Nat.le_refl _))
 have C1 := hidden (C.out.below hb1 (Nat.le_refl _))
 clear hb1 a0 a1 a2 af
 obtain ⟨a0, a1, a2, af⟩ := A1.out.cells
 go_upto_region 2 with fail
 have A2 := hidden (A1.out.fill 0 ⟨S.toArray⟩ (.slice ao L.length c))
 have C2 : Hid (B3 (fill3 w1 w.heap.size 0 ⟨S.toArray⟩ (.slice ao L.length c)) (w.heap.size + 1) 0 ⟨#[]⟩ (.slice none 0 0)) := C1.out.keep (fill3_blk w1 (by omega) _ _ _)
 have D2 : Hid (Below w.heap.size w (fill3 w1 w.heap.size 0 ⟨S.toArray⟩ (.slice ao L.length c))) := below_fill3 D1.out (Nat.le_refl _) _ _ _
 obtain ⟨w2, hw2⟩ : ∃ w2, fill3 w1 w.heap.size 0 ⟨S.toArray⟩ (.slice ao L.length c) = w2 := ⟨_, rfl⟩
 rw [hw2] at A2 C2 D2
 unfold fill3 at hw2
 simp only [hw2]
 clear hw2 a0 a1 a2 af
 obtain ⟨a0, a1, a2, af⟩ := A2.out.cells
 go_wp2_with fail
 refine (name_name ⟨S.toArray⟩ (.slice ao L.length c) ⟨_, _, _, rfl⟩).mono ?_
 rintro e w3 ⟨rfl, hb3⟩
 have D3 := hidden (D2.out.trans (hb3.mono D2.out.size))
 have C3 := hidden (C2.out.below hb3 (Nat.le_refl _))
 clear hb3 a0 a1 a2 af
 go_upto_region 5 with fail
 have D4 := hidden (D3.out.alloc (by have h9 := D3.out.size; omega) (.cells #[.int .i64 0, .string ⟨S.toArray⟩, .slice ao L.length c] 24))
 have C4 := hidden (C3.out.alloc (.cells #[.int .i64 0, .string ⟨S.toArray⟩, .slice ao L.length c] 24))
 have I4 := hidden (B3.new w3 0 ⟨S.toArray⟩ (.slice ao L.length c))
 generalize w3.alloc (.cells #[.int .i64 0, .string ⟨S.toArray⟩, .slice ao L.length c] 24) = w4 at *
 have T4 := hidden (T.out.below D4.out (Nat.le_refl _))
 have L4 : Hid (Only (Own3 tb q r) w w4) := Only.of_below D4.out
 clear T A C D A1 C1 D1 A2 C2 D2 C3 D3 D4
 obtain ⟨n, hn⟩ : ∃ n, L.length = n := ⟨_, rfl⟩
 rw [hn] at I4 ⊢
 have HN := hidden hn
 clear hn
 obtain ⟨i0, i1, i2, if_⟩ := I4.out.cells
 clear i0 if_
 go_upto_region 6 with fail
 have T5 := hidden (T4.out.alloc (.cells #[.int .i64 0, .string ⟨S.toArray⟩, .slice none 0 0] 24))
 have I5 := hidden (I4.out.alloc (.cells #[.int .i64 0, .string ⟨S.toArray⟩, .slice none 0 0] 24))
 have C5 := hidden (C4.out.alloc (.cells #[.int .i64 0, .string ⟨S.toArray⟩, .slice none 0 0] 24))
 have F5 := hidden (B3.new w4 0 ⟨S.toArray⟩ (.slice none 0 0))
 have L5 := hidden (L4.out.alloc (.cells #[.int .i64 0, .string ⟨S.toArray⟩, .slice none 0 0] 24))
 have hfb : w.heap.size + 1 < w4.heap.size := C4.out.lt
 generalize w4.alloc (.cells #[.int .i64 0, .string ⟨S.toArray⟩, .slice none 0 0] 24) = w5 at *
 obtain ⟨fb, hfbe⟩ : ∃ fb, w4.heap.size = fb := ⟨_, rfl⟩
 rw [hfbe] at F5 hfb ⊢
 clear hfbe i1 i2
 obtain ⟨i0, i1, i2, if_⟩ := I5.out.cells
 clear i0 i1 if_
 go_wp2_with fail
 clear i2
 go_loopw [28] (fun iv wr => InRs O tb q r K nm own hi F R d σ4 μ L S w fb iv wr) (fun iv wr => (n - intOf iv).toNat)
 case atStart => exact ⟨0, [], .slice none 0 0, σ4, Nat.zero_le _, rfl, rfl, TW10.nil _ _, rfl, Cmp.refl _, HS4.out, T5.out, L5.out, C5.out, F5.out⟩
 case round =>
  obtain ⟨k, Dl, v, σ1, k1, rfl, g1, g2, g4, g5, g6, g7, g11, g12, g13⟩ := hrel
  rw [HN.out] at k1
  have G1 := hidden g1
  have G2 := hidden g2
  have G4 := hidden g4
  have G5 := hidden g5
  have G6 := hidden g6
  have G7 := hidden g7
  have G11 := hidden g11
  have G12 := hidden g12
  have G13 := hidden g13
  have hk9 : k ≤ 1000000 := by have h9 := len_szRL L; have h8 := HN.out; have h7 := HL1.out; omega
  clear g1 g2 g4 g5 g6 g7 g11 g12 g13
  by_cases hlt : k < n
  ·have z1 : (k : Int) < (n : Int) := by omega
   have zi : (0 : Int) ≤ (k : Int) ∧ (k : Int) < (n : Int) := ⟨by omega, z1⟩
   obtain ⟨t, ht⟩ : ∃ t, L[k]? = some t := ⟨_, List.getElem?_eq_getElem (by rw [HN.out]; exact hlt)⟩
   have htok := okL_mem.1 HXL.out t (List.mem_of_getElem? ht)
   have htz := sz_part (List.mem_of_getElem? ht)
   have hZk : (rsL R L)[k]? = some (t.rs R) := by rw [rsL_map, List.getElem?_map, ht]; rfl
   have hts := take_succ_sz hZk
   have htl := szL_take (rsL R L) (k + 1)
   have HZK := hidden hZk
   have X2 := XG.out wr G11.out
   obtain ⟨a, al2, cp2, rfl, t0, t1, t2, hv, hr2⟩ := rt_part X2 ht
   have T2 := hidden (G7.out.alloc (.cells #[.int .i64 t.V, .string ⟨t.S.toArray⟩, .slice al2 t.L.length cp2] 24))
   have RP2 := hidden (hr2.alloc (.cells #[.int .i64 t.V, .string ⟨t.S.toArray⟩, .slice al2 t.L.length cp2] 24))
   have B2 := hidden (B3.new wr t.V ⟨t.S.toArray⟩ (.slice al2 t.L.length cp2))
   have W2 := hidden (G2.out.alloc (.cells #[.int .i64 t.V, .string ⟨t.S.toArray⟩, .slice al2 t.L.length cp2] 24))
   have O2 := hidden (G11.out.alloc (.cells #[.int .i64 t.V, .string ⟨t.S.toArray⟩, .slice al2 t.L.length cp2] 24))
   have C2 := hidden (G12.out.alloc (.cells #[.int .i64 t.V, .string ⟨t.S.toArray⟩, .slice al2 t.L.length cp2] 24))
   have F2 := hidden (G13.out.alloc (.cells #[.int .i64 t.V, .string ⟨t.S.toArray⟩, .slice al2 t.L.length cp2] 24))
   have S2 := hidden (nblk_alloc wr (.cells #[.int .i64 t.V, .string ⟨t.S.toArray⟩, .slice al2 t.L.length cp2] 24))
   have hwr : fb < wr.heap.size := G13.out.lt
   have HTS := hidden hv.2.2
   have HTK := hidden (G5.out.ok htok)
   have htz2 : szRL t.L ≤ 1000000 := by rw [sz_L] at htz; have h9 := HL1.out; omega
   have hsz2 : (t.rs R).sz ≤ s := by have h9 := HSZ.out; omega
   obtain ⟨vo, vc, rfl⟩ := G2.out.slice
   clear hr2 X2 hv htok hts htl hZk htz
   go_upto_region 9 with fail
   generalize wr.alloc (.cells #[.int .i64 t.V, .string ⟨t.S.toArray⟩, .slice al2 t.L.length cp2] 24) = w2 at *
   obtain ⟨b, hb5⟩ : ∃ b, wr.heap.size = b := ⟨_, rfl⟩
   rw [hb5] at B2 S2 hwr ⊢
   have HBW := hidden hb5
   clear hb5 t0 t1 t2
   have TD9 : Hid (PT O w2.drew tb q r K nm own hi σ1 μ) := T2.out.keep (fun g _ _ => rfl)
   have RD : Hid (RT (fun g => ¬ Own3 tb q r g) w2.drew t.L al2) := RP2.out.keep (fun g _ _ => rfl)
   have HV := hidden (HI.out σ1 w2.drew t al2 cp2 hsz2 htz2 HTS.out TD9.out G6.out HTK.out RD.out)
   obtain ⟨y, hy⟩ : ∃ y, (t.rs R).rw = y := ⟨_, rfl⟩
   rw [hy] at HV
   have HY := hidden hy
   clear hy
   have f2 := F2.out.cells.2.2.1
   obtain ⟨b0, b1, b2, bf⟩ := B2.out.cells
   refine region_till (S := (fun w' => w'.cell? ⟨fb, 2, none⟩ = some (.slice vo Dl.length vc) ∧ w'.cell? ⟨b, 0, none⟩ = some (.int .i64 t.V) ∧ w'.cell? ⟨b, 1, none⟩ = some (.string ⟨t.S.toArray⟩) ∧ w'.cell? ⟨b, 2, none⟩ = some (.slice al2 t.L.length cp2))) (kz := 8) (by kernel_rfl) ⟨f2, b0, b1, b2⟩ (fun hHeld => ?_)
   refine AnyTill.tk (i := 0) (v := ?_) hHeld ?_ ?_
   rotate_left
   ·(intro w hSw; (try dsimp only at hSw); go_simp; (try with_reducible rfl))
   (try simp only [Act.put, q4, q5, q6, q1, q2, q3])
   refine AnyTill.tk (i := 1) (v := ?_) hHeld ?_ ?_
   rotate_left
   ·(intro w hSw; (try dsimp only at hSw); go_simp; (try with_reducible rfl))
   (try simp only [Act.put, q4, q5, q6, q1, q2, q3])
   refine AnyTill.tk (i := 2) (v := ?_) hHeld ?_ ?_
   rotate_left
   ·(intro w hSw; (try dsimp only at hSw); go_simp; (try with_reducible rfl))
   (try simp only [Act.put, q4, q5, q6, q1, q2, q3])
   refine AnyTill.tk (i := 3) (v := ?_) hHeld ?_ ?_
   rotate_left
   ·(intro w hSw; (try dsimp only at hSw); go_simp; (try with_reducible rfl))
   (try simp only [Act.put, q4, q5, q6, q1, q2, q3])
   refine AnyTill.one (i := 4) (by kernel_rfl) rfl (fun K9 hK9 => ?_)
   (try simp only [q1, q2, q3])
   go_simp
   refine HV.out.mono ?_
   rintro e w3 ⟨al3, cp3, σ', rfl, j1, j2, j3, j4, j7, j8⟩
   have hn3 : ∀ g, Own3 tb q r g → g < w.heap.size := fun g hg => HB.out g (Or.inr hg)
   have hz3 := j7.size
   have hz3b : w2.heap.size ≤ w3.heap.size := hz3
   have hs2 := S2.out
   have F3 : Hid (B3 w3 fb 0 ⟨S.toArray⟩ (.slice vo Dl.length vc)) := F2.out.keep (j7.block _ F2.out.lt (fun e => by have h9 := hn3 _ e; omega))
   have C3 : Hid (B3 w3 (w.heap.size + 1) 0 ⟨#[]⟩ (.slice none 0 0)) := C2.out.keep (j7.block _ C2.out.lt (fun e => by have h9 := hn3 _ e; omega))
   have P3 : Hid (B3 w3 b t.V ⟨t.S.toArray⟩ (.slice al2 t.L.length cp2)) := B2.out.keep (j7.block _ B2.out.lt (fun e => by have h9 := hn3 _ e; omega))
   have W3 : Hid (TW10 w3 (fb + 1) (.slice vo Dl.length vc) Dl) := W2.out.keep (fun g hg hl => j7.block _ hl (fun e => by have h9 := hn3 _ e; omega))
   have L3 : Hid (Only (Own3 tb q r) w w3) := (O2.out.drewN 1).trans j7
   have T3 := hidden j3
   have E3 := hidden (G5.out.trans j1)
   have J2 := hidden j2
   have J8 := hidden j8
   have hv8 := j8
   have hne : ∀ g, (Value.slice vo Dl.length vc).ownBlock = some g → fb + 1 ≤ g ∧ g < wr.heap.size := fun g hg => G2.out.1.lt g hg
   have HNE := hidden hne
   have Y3 : Hid (RT (fun g => fb + 1 ≤ g ∧ (Value.slice vo Dl.length vc).ownBlock ≠ some g) w3 y.L al3) := j4.mono (fun g hg _ => by
    have h9 : w2.heap.size ≤ g := hg
    refine ⟨by omega, fun e => ?_⟩
    have h8 := hne g e
    have h7 := HBW.out
    omega)
   have f3 := F3.out.cells.2.2.1
   obtain ⟨p0, p1, p2, pf⟩ := P3.out.cells
   refine hK9.out _ _ (fun _ => ⟨f3, p0, p1, p2⟩) ?_
   clear hK9 K9
   (try simp only [Act.put, q4, q5, q6, q1, q2, q3])
   clear f3 p0 p1 p2 pf j1 j2 j3 j4 j7 j8 f2 b0 b1 b2 bf hne hn3 hs2
   refine AnyTill.one (i := 5) (by kernel_rfl) rfl (fun K9 hK9 => ?_)
   (try simp only [q1, q2, q3])
   go_simp
   have T4 := hidden (T3.out.alloc (.cells #[.int .i64 y.V, .string ⟨y.S.toArray⟩, .slice al3 y.L.length cp3] 24))
   have F4 := hidden (F3.out.alloc (.cells #[.int .i64 y.V, .string ⟨y.S.toArray⟩, .slice al3 y.L.length cp3] 24))
   have C4b := hidden (C3.out.alloc (.cells #[.int .i64 y.V, .string ⟨y.S.toArray⟩, .slice al3 y.L.length cp3] 24))
   have P4 := hidden (P3.out.alloc (.cells #[.int .i64 y.V, .string ⟨y.S.toArray⟩, .slice al3 y.L.length cp3] 24))
   have W4 := hidden (W3.out.alloc (.cells #[.int .i64 y.V, .string ⟨y.S.toArray⟩, .slice al3 y.L.length cp3] 24))
   have L4b := hidden (L3.out.alloc (.cells #[.int .i64 y.V, .string ⟨y.S.toArray⟩, .slice al3 y.L.length cp3] 24))
   have S4 := hidden (nblk_alloc w3 (.cells #[.int .i64 y.V, .string ⟨y.S.toArray⟩, .slice al3 y.L.length cp3] 24))
   have B4 := hidden (B3.new w3 y.V ⟨y.S.toArray⟩ (.slice al3 y.L.length cp3))
   have Y4 := hidden (Y3.out.alloc (.cells #[.int .i64 y.V, .string ⟨y.S.toArray⟩, .slice al3 y.L.length cp3] 24))
   generalize w3.alloc (.cells #[.int .i64 y.V, .string ⟨y.S.toArray⟩, .slice al3 y.L.length cp3] 24) = w7 at *
   have f4 := F4.out.cells.2.2.1
   obtain ⟨p0, p1, p2, pf⟩ := P4.out.cells
   refine hK9.out _ _ (fun _ => ⟨f4, p0, p1, p2⟩) ?_
   clear hK9 K9
   (try simp only [Act.put, q4, q5, q6, q1, q2, q3])
   clear f4 p0 p1 p2 pf
   refine AnyTill.one (i := 6) (by kernel_rfl) rfl (fun K9 hK9 => ?_)
   (try simp only [q1, q2, q3])
   have hD9 : Dl.length < 1000000 := by have h9 := G1.out; have h8 := len_szRL L; have h7 := HN.out; have h6 := HL1.out; omega
   have hB9 : fb + 1 ≤ w7.heap.size := by have h9 := S4.out; have h8 := S2.out; omega
   refine step_type (w := w7) (a := ⟨_, _⟩) ?_ (.tmp 33) (.tmp 37) ?_ (fb + 1) (.slice vo Dl.length vc) Dl ?_ W4.out w3.heap.size 1 ⟨y, al3, cp3⟩ (0, 0) ?_ B4.out Y4.out hv8 hD9 hB9 ?_
   ·rfl
   ·rfl
   ·rfl
   ·rfl
   intro g cap w8 hrow hgr hog
   have W5 := hidden hrow
   have hne := HNE.out
   have hkp : ∀ g, g < w7.heap.size → (Value.slice vo Dl.length vc).ownBlock ≠ some g → w8.heap[g]? = w7.heap[g]? := fun g hg hn => hgr.block g hg (fun e => hn e.symm)
   have hO : ∀ g, O g ∨ Own3 tb q r g → (Value.slice vo Dl.length vc).ownBlock ≠ some g := fun g hg e => by have h9 := hne g e; have h8 := HB.out g hg; omega
   have T5b := hidden (T4.out.keep (w' := w8) (fun g hg hl => hkp g hl (hO g hg)))
   have F5b : Hid (B3 w8 fb 0 ⟨S.toArray⟩ (.slice vo Dl.length vc)) := F4.out.keep (hkp _ F4.out.lt (fun e => by have h9 := hne _ e; omega))
   have C5b : Hid (B3 w8 (w.heap.size + 1) 0 ⟨#[]⟩ (.slice none 0 0)) := C4b.out.keep (hkp _ C4b.out.lt (fun e => by have h9 := hne _ e; omega))
   have P5 : Hid (B3 w8 b t.V ⟨t.S.toArray⟩ (.slice al2 t.L.length cp2)) := P4.out.keep (hkp _ P4.out.lt (fun e => by have h9 := hne _ e; have h8 := HBW.out; omega))
   have L5b : Hid (Only (Own3 tb q r) w w8) := ⟨hgr.os.trans L4b.out.os, hgr.tape.trans L4b.out.tape, hgr.output.trans L4b.out.output, Nat.le_trans L4b.out.size hgr.size, fun k hk hs => (hkp k (Nat.lt_of_lt_of_le hk L4b.out.size) (fun e => by have h9 := hne k e; omega)).trans (L4b.out.block k hk hs)⟩
   have f5 := F5b.out.cells.2.2.1
   obtain ⟨p0, p1, p2, pf⟩ := P5.out.cells
   refine hK9.out _ _ (fun _ => ⟨f5, p0, p1, p2⟩) ?_
   clear hK9 K9
   (try simp only [Act.put, q4, q5, q6, q1, q2, q3])
   clear f5 p0 p1 p2 pf hrow hgr hog hne hkp hO
   refine AnyTill.one (i := 7) (by kernel_rfl) rfl (fun K9 hK9 => ?_)
   (try simp only [q1, q2, q3])
   go_simp
   have f5 := F5b.out.cells.2.2.1
   obtain ⟨p0, p1, p2, pf⟩ := P5.out.cells
   refine hK9.out _ _ (fun _ => ⟨f5, p0, p1, p2⟩) ?_
   clear hK9 K9
   (try simp only [Act.put, q4, q5, q6, q1, q2, q3])
   clear p0 p1 p2 pf
   have ff := F5b.out.cells.2.2.2
   refine AnyTill.one (i := 8) (by kernel_rfl) rfl (fun K9 hK9 => ?_)
   (try simp only [q1, q2, q3])
   go_simp
   refine hK9.out _ _ (fun h => absurd rfl h) ?_
   clear hK9 K9
   (try simp only [Act.put, q4, q5, q6, q1, q2, q3])
   refine AnyTill.done (by kernel_rfl) ?_ _
   (try simp only [Act.put, q4, q5, q6, q1, q2, q3])
   clear f5 ff
   have hk6 : ∀ g', g' ≠ fb → (w8.setCell ⟨fb, 2, none⟩ (.slice (some ⟨g, 0, none⟩) (Dl.length + 1) cap)).heap[g']? = w8.heap[g']? := fun g' hg => blk_setCell_other _ _ _ _ hg
   have T6 : Hid (PT O (w8.setCell ⟨fb, 2, none⟩ (.slice (some ⟨g, 0, none⟩) (Dl.length + 1) cap)) tb q r K nm own hi σ' μ) := T5b.out.keep (fun g' hg _ => hk6 g' (by have h8 := HB.out g' hg; omega))
   have F6 := hidden (F5b.out.set2 (.slice (some ⟨g, 0, none⟩) (Dl.length + 1) cap))
   have C6 : Hid (B3 (w8.setCell ⟨fb, 2, none⟩ (.slice (some ⟨g, 0, none⟩) (Dl.length + 1) cap)) (w.heap.size + 1) 0 ⟨#[]⟩ (.slice none 0 0)) := C5b.out.keep (hk6 _ (by omega))
   have W6 : Hid (TW10 (w8.setCell ⟨fb, 2, none⟩ (.slice (some ⟨g, 0, none⟩) (Dl.length + 1) cap)) (fb + 1) (.slice (some ⟨g, 0, none⟩) (Dl.length + 1) cap) (Dl ++ [⟨y, al3, cp3⟩])) := W5.out.keep (fun g' hg _ => hk6 g' (by omega))
   have L6 : Hid (Only (Own3 tb q r) w (w8.setCell ⟨fb, 2, none⟩ (.slice (some ⟨g, 0, none⟩) (Dl.length + 1) cap))) := L5b.out.setNew (Or.inl (by omega)) _ _
   generalize w8.setCell ⟨fb, 2, none⟩ (.slice (some ⟨g, 0, none⟩) (Dl.length + 1) cap) = w9 at *
   clear hk6
   go_wp2_with fail
   go_roundw
   case rel =>
    refine ⟨k + 1, Dl ++ [⟨y, al3, cp3⟩], .slice (some ⟨g, 0, none⟩) (Dl.length + 1) cap, σ', by rw [HN.out]; omega, by go_num, by rw [List.length_append, G1.out]; rfl, W6.out, ?_, E3.out, J2.out, T6.out, L6.out, C6.out, F6.out⟩
    obtain ⟨q1, q2⟩ := List.getElem?_eq_some_iff.1 HZK.out
    rw [List.map_append, G4.out, List.take_succ_eq_append_getElem q1, q2, List.map_append]
    show _ ++ [y] = _ ++ [(t.rs R).rw]
    rw [HY.out]
   case measure => simp [intOf]; omega
  ·have z1 : ¬ (k : Int) < (n : Int) := by omega
   have hkn : k = n := by omega
   obtain ⟨vo, vc, rfl⟩ := G2.out.slice
   obtain ⟨c0, c1, c2, cf⟩ := G12.out.cells
   obtain ⟨f0, f1, f2, ff⟩ := G13.out.cells
   have HKN := hidden hkn
   clear hkn
   go_wp2_with fail
   refine bodyPost_ret (results_cell_row rfl _ _ (w.heap.size + 1) 24 #[.int .i64 0, .string ⟨S.toArray⟩, .slice vo Dl.length vc] (0, 0) _ rfl (G12.out.fill 0 ⟨S.toArray⟩ (.slice vo Dl.length vc)) Tryd.underlying24 rfl (by kernel_rfl)) rfl ?_
   have eZ : (rsL R L).take k = rsL R L := List.take_of_length_le (by rw [rsL_len, HN.out]; have h9 := HKN.out; omega)
   obtain ⟨hrt, _⟩ := G2.out.rt
   have e4 := G4.out
   rw [eZ] at e4
   rw [e4] at hrt
   have ex : RESX = Rw.mk 0 S ((rsL R L).map Ty.rw) := by rw [HRX.out, Ty.rw, rwL_map]
   rw [ex]
   have hln : ((rsL R L).map Ty.rw).length = Dl.length := by rw [← e4, List.length_map]
   have hne : ∀ g, fb + 1 ≤ g ∨ O g ∨ Own3 tb q r g → g ≠ w.heap.size + 1 := fun g hg => by
    rcases hg with hg | hg
    ·omega
    ·have h9 := HB.out g hg; omega
   refine ⟨vo, vc, σ1, ?_, HC4.out.trans G5.out, G6.out, G7.out.keep (fun g hg _ => fill3_blk wr (hne g (Or.inr hg)) _ _ _), ?_, G11.out.fill3 (Or.inl (by omega)) _ _ _, ?_⟩
   ·show Ending.returned (.agg #[.int .i64 0, .string ⟨S.toArray⟩, .slice vo Dl.length vc]) = .returned (.agg #[.int .i64 0, .string ⟨S.toArray⟩, .slice vo ((rsL R L).map Ty.rw).length vc])
    rw [hln]
   ·exact (hrt.keep (fun g hg _ => fill3_blk wr (hne g (Or.inl hg)) _ _ _)).mono (fun g hg _ => by omega)
   ·exact ⟨by show (-9223372036854775808 : Int) ≤ 0; omega, by show (0 : Int) ≤ _; omega, HSL.out⟩
theorem res_var (hK : K ≤ 1000000000) {s : Nat} (IH : ResFor O tb q r K nm own hi F R d μ s) (σ : Int → Option Rw) (w : World) (V : Int) (ao2 : Option Addr) (c2 : Nat) (hm : (R V).sz ≤ s + 1) (h : PT O w tb q r K nm own hi σ μ) (hs : PS F own σ R d) (hx : OkV F σ V) : Calls Tryd.prog 32 #[.pointer (some ⟨tb, 0, none⟩), .agg #[.int .i64 V, .string ⟨#[]⟩, .slice ao2 0 c2]] w fun e w' => ResAs O tb q r K nm own hi F R d σ μ (R V).rw w e w' := by
 have HI := hidden IH
 have HS := hidden hs
 have HX := hidden hx
 have T := hidden h
 have how := h.ow
 obtain ⟨RESX, hrx⟩ : ∃ RESX, (R V).rw = RESX := ⟨_, rfl⟩
 have HRX0 := hidden hrx
 have HM := hidden hm
 rw [hrx]
 clear h hs hx IH hm hrx
 go_enter Tryd.func32, Tryd.ntmps32
 go_upto_region 1 with fail
 obtain ⟨a1, a2, a3⟩ := two_new w V ⟨#[]⟩ (.slice ao2 0 c2)
 have A := hidden a1
 have C := hidden a2
 have D := hidden a3
 have T0 := hidden (T.out.below a3 (Nat.le_refl _))
 have HB : Hid (∀ g, O g ∨ Own3 tb q r g → g < w.heap.size) := fun g hg => T.out.new hg
 clear a1 a2 a3
 generalize (w.alloc (.cells #[.int .i64 V, .string ⟨#[]⟩, .slice ao2 0 c2] 24)).alloc (.cells #[.int .i64 0, .string ⟨#[]⟩, .slice none 0 0] 24) = w0 at *
 obtain ⟨a0, a1, a2, af⟩ := A.out.cells
 go_wp2_with fail
 refine (short_var hK T0.out HS.out HX.out ⟨#[]⟩ (.slice ao2 0 c2) ⟨_, _, _, rfl⟩).mono ?_
 rintro e w1 ⟨u, σ4, rfl, h1, h2, h3, h4, h5, h6, h7⟩
 have hn3 : ∀ g, Own3 tb q r g → g < w.heap.size := fun g hg => HB.out g (Or.inr hg)
 have hd1 := A.out.lt
 have hd2 := C.out.lt
 have A1 : Hid (B3 w1 w.heap.size V ⟨#[]⟩ (.slice ao2 0 c2)) := A.out.keep (h7.block _ hd1 (fun e => by have h9 := hn3 _ e; omega))
 have C1 : Hid (B3 w1 (w.heap.size + 1) 0 ⟨#[]⟩ (.slice none 0 0)) := C.out.keep (h7.block _ hd2 (fun e => by have h9 := hn3 _ e; omega))
 have L1 : Hid (Only (Own3 tb q r) w w1) := (Only.of_below D.out).trans h7
 have HS4 := hidden h5
 have HC4 := hidden h4
 have HU := hidden h1
 have HE := hidden h2
 have HR := hidden h3
 have T1 := hidden h6
 have hru := h5.rng h1
 have rg : -9223372036854775808 ≤ u ∧ u ≤ 9223372036854775807 := by omega
 have hu0 : u ≠ 0 := h5.nz h1
 have HU0 := hidden hu0
 clear h1 h2 h3 h4 h5 h6 h7 a0 a1 a2 af hru hn3 hd1 hd2 hu0
 obtain ⟨a0, a1, a2, af⟩ := A1.out.cells
 go_upto_region 2 with fail
 have A2 := hidden (A1.out.fill u ⟨#[]⟩ (.slice none 0 0))
 have C2 : Hid (B3 (fill3 w1 w.heap.size u ⟨#[]⟩ (.slice none 0 0)) (w.heap.size + 1) 0 ⟨#[]⟩ (.slice none 0 0)) := C1.out.keep (fill3_blk w1 (by omega) _ _ _)
 have L2 : Hid (Only (Own3 tb q r) w (fill3 w1 w.heap.size u ⟨#[]⟩ (.slice none 0 0))) := L1.out.fill3 (Or.inl (Nat.le_refl _)) _ _ _
 have T2 : Hid (PT O (fill3 w1 w.heap.size u ⟨#[]⟩ (.slice none 0 0)) tb q r K nm own hi σ4 μ) := T1.out.keep (fun g hg _ => fill3_blk w1 (by have h9 := HB.out g hg; omega) _ _ _)
 obtain ⟨w2, hw2⟩ : ∃ w2, fill3 w1 w.heap.size u ⟨#[]⟩ (.slice none 0 0) = w2 := ⟨_, rfl⟩
 rw [hw2] at A2 C2 L2 T2
 unfold fill3 at hw2
 simp only [hw2]
 clear hw2 a0 a1 a2 af
 obtain ⟨a0, a1, a2, af⟩ := A2.out.cells
 rcases HS4.out.at_end HU.out HE.out with ⟨z1, z2, z3⟩ | ⟨z, z1, z2, z3, z4⟩
 ·have Z1 := hidden z1
  have HP := hidden (HS4.out.pos u z2)
  have Z3 := hidden z3
  clear z1 z2 z3
  go_wp2_with fail
  refine (name_no T2.out rg HU0.out Z1.out ⟨#[]⟩ (.slice none 0 0) ⟨_, _, _, rfl⟩).mono ?_
  rintro e w3 ⟨rfl, hb3⟩
  have A3 := hidden (A2.out.below hb3 (Nat.le_refl _))
  have C3 := hidden (C2.out.below hb3 (Nat.le_refl _))
  have T3 := hidden (T2.out.below hb3 (Nat.le_refl _))
  have L3 := hidden (L2.out.trans (Only.of_below hb3))
  clear hb3 a0 a1 a2 af
  go_upto_region 4 with fail
  have A4 := hidden (A3.out.alloc (.cells #[.int .i64 0, .string ⟨#[]⟩, .slice none 0 0] 24))
  have C4 := hidden (C3.out.alloc (.cells #[.int .i64 0, .string ⟨#[]⟩, .slice none 0 0] 24))
  have T4 := hidden (T3.out.alloc (.cells #[.int .i64 0, .string ⟨#[]⟩, .slice none 0 0] 24))
  have L4 := hidden (L3.out.alloc (.cells #[.int .i64 0, .string ⟨#[]⟩, .slice none 0 0] 24))
  generalize w3.alloc (.cells #[.int .i64 0, .string ⟨#[]⟩, .slice none 0 0] 24) = w4 at *
  obtain ⟨a0, a1, a2, af⟩ := A4.out.cells
  obtain ⟨c0, c1, c2, cf⟩ := C4.out.cells
  go_wp2_with fail
  refine bodyPost_ret (results_cell_row rfl _ _ (w.heap.size + 1) 24 #[.int .i64 u, .string ⟨#[]⟩, .slice none 0 0] (0, 0) _ rfl (C4.out.fill u ⟨#[]⟩ (.slice none 0 0)) Tryd.underlying24 rfl (by kernel_rfl)) rfl ?_
  have hp := HP.out
  have eu : ((u.toNat : Nat) : Int) = u := Int.toNat_of_nonneg (by omega)
  have ex : RESX = Rw.mk u [] [] := by rw [← HRX0.out, ← HR.out, Z3.out, Ty.rw, eu]
  rw [ex]
  exact ⟨none, 0, σ4, rfl, HC4.out, HS4.out, T4.out.keep (fun g hg _ => fill3_blk w4 (by have h9 := HB.out g hg; omega) _ _ _), rt_nil, L4.out.fill3 (Or.inl (by omega)) _ _ _, ⟨rg.1, rg.2, Nat.zero_le _⟩⟩
 ·obtain ⟨V2, S, L⟩ := z
  have z2' : V2 = 0 := z2
  subst z2'
  have HXL : Hid (okL (OkV F σ4) L) := z4
  obtain ⟨qa, _, qb, qc⟩ := HS4.out.name u _ z1 rfl
  have Z1 := hidden z1
  have HSL : Hid (S.length ≤ maxLen) := qc
  have HL1 : Hid (szRL L ≤ 1000000) := by
   show _ ≤ _
   have e9 : szRL L = L.length := szRL_vars (fun y hy => (qa y hy).1)
   have qb2 : L.length ≤ 1000000 := qb
   omega
  have HRX : Hid (RESX = (Ty.c S (rsL R L)).rw) := by
   show _ = _
   rw [← HRX0.out, ← HR.out, z3]
   rfl
  have HSZ : Hid (1 + szL (rsL R L) ≤ s + 1) := by
   show _ ≤ _
   have h9 := HM.out
   rw [← HR.out, z3, Ty.sz] at h9
   exact h9
  clear z1 z2 z3 z4 qa qb qc HM HRX0
  go_wp2_with fail
  refine (name_yes T2.out rg HU0.out Z1.out ⟨#[]⟩ (.slice none 0 0) ⟨_, _, _, rfl⟩).mono ?_
  rintro e w3 ⟨ao, c, rfl, hrz, _, hb3⟩
  have C3 := hidden (C2.out.below hb3 (Nat.le_refl _))
  have T3 := hidden (T2.out.below hb3 (Nat.le_refl _))
  have L3 := hidden (L2.out.trans (Only.of_below hb3))
  have XG : Hid (∀ wr, Only (Own3 tb q r) w wr → RT (fun g => ¬ Own3 tb q r g) wr L ao) := fun wr hw => by
   have hnO : ∀ g, O g → ¬ Own3 tb q r g := fun g hg e => by
    have h9 := T3.out.ap g hg
    rcases e with e | e | e
    ·exact h9.1 e
    ·exact h9.2.1 e
    ·exact h9.2.2.1 e
   exact ((show RT O w3 L ao from hrz).keep (fun g hg _ => (hw.block g (HB.out g (Or.inl hg)) (hnO g hg)).trans (L3.out.block g (HB.out g (Or.inl hg)) (hnO g hg)).symm)).mono (fun g hg _ => hnO g hg)
  clear hb3 hrz a0 a1 a2 af
  (try simp only [Rw.V, Rw.S, Rw.L])
  go_upto_region 5 with fail
  have T4 := hidden (T3.out.alloc (.cells #[.int .i64 0, .string ⟨S.toArray⟩, .slice ao L.length c] 24))
  have L4 := hidden (L3.out.alloc (.cells #[.int .i64 0, .string ⟨S.toArray⟩, .slice ao L.length c] 24))
  have C4 := hidden (C3.out.alloc (.cells #[.int .i64 0, .string ⟨S.toArray⟩, .slice ao L.length c] 24))
  have I4 := hidden (B3.new w3 0 ⟨S.toArray⟩ (.slice ao L.length c))
  generalize w3.alloc (.cells #[.int .i64 0, .string ⟨S.toArray⟩, .slice ao L.length c] 24) = w4 at *
  clear T A C D A1 C1 L1 A2 C2 L2 C3 T3 L3 T0 T1 T2
  obtain ⟨n, hn⟩ : ∃ n, L.length = n := ⟨_, rfl⟩
  rw [hn] at I4 ⊢
  have HN := hidden hn
  clear hn
  obtain ⟨i0, i1, i2, if_⟩ := I4.out.cells
  clear i0 if_
  go_upto_region 6 with fail
  have T5 := hidden (T4.out.alloc (.cells #[.int .i64 0, .string ⟨S.toArray⟩, .slice none 0 0] 24))
  have I5 := hidden (I4.out.alloc (.cells #[.int .i64 0, .string ⟨S.toArray⟩, .slice none 0 0] 24))
  have C5 := hidden (C4.out.alloc (.cells #[.int .i64 0, .string ⟨S.toArray⟩, .slice none 0 0] 24))
  have F5 := hidden (B3.new w4 0 ⟨S.toArray⟩ (.slice none 0 0))
  have L5 := hidden (L4.out.alloc (.cells #[.int .i64 0, .string ⟨S.toArray⟩, .slice none 0 0] 24))
  have hfb : w.heap.size + 1 < w4.heap.size := C4.out.lt
  generalize w4.alloc (.cells #[.int .i64 0, .string ⟨S.toArray⟩, .slice none 0 0] 24) = w5 at *
  obtain ⟨fb, hfbe⟩ : ∃ fb, w4.heap.size = fb := ⟨_, rfl⟩
  rw [hfbe] at F5 hfb ⊢
  clear hfbe i1 i2
  obtain ⟨i0, i1, i2, if_⟩ := I5.out.cells
  clear i0 i1 if_
  go_wp2_with fail
  clear i2
  go_loopw [28] (fun iv wr => InRs O tb q r K nm own hi F R d σ4 μ L S w fb iv wr) (fun iv wr => (n - intOf iv).toNat)
  case atStart => exact ⟨0, [], .slice none 0 0, σ4, Nat.zero_le _, rfl, rfl, TW10.nil _ _, rfl, Cmp.refl _, HS4.out, T5.out, L5.out, C5.out, F5.out⟩
  case round =>
   obtain ⟨k, Dl, v, σ1, k1, rfl, g1, g2, g4, g5, g6, g7, g11, g12, g13⟩ := hrel
   rw [HN.out] at k1
   have G1 := hidden g1
   have G2 := hidden g2
   have G4 := hidden g4
   have G5 := hidden g5
   have G6 := hidden g6
   have G7 := hidden g7
   have G11 := hidden g11
   have G12 := hidden g12
   have G13 := hidden g13
   have hk9 : k ≤ 1000000 := by have h9 := len_szRL L; have h8 := HN.out; have h7 := HL1.out; omega
   clear g1 g2 g4 g5 g6 g7 g11 g12 g13
   by_cases hlt : k < n
   ·have z1 : (k : Int) < (n : Int) := by omega
    have zi : (0 : Int) ≤ (k : Int) ∧ (k : Int) < (n : Int) := ⟨by omega, z1⟩
    obtain ⟨t, ht⟩ : ∃ t, L[k]? = some t := ⟨_, List.getElem?_eq_getElem (by rw [HN.out]; exact hlt)⟩
    have htok := okL_mem.1 HXL.out t (List.mem_of_getElem? ht)
    have htz := sz_part (List.mem_of_getElem? ht)
    have hZk : (rsL R L)[k]? = some (t.rs R) := by rw [rsL_map, List.getElem?_map, ht]; rfl
    have hts := take_succ_sz hZk
    have htl := szL_take (rsL R L) (k + 1)
    have HZK := hidden hZk
    have X2 := XG.out wr G11.out
    obtain ⟨a, al2, cp2, rfl, t0, t1, t2, hv, hr2⟩ := rt_part X2 ht
    have T2 := hidden (G7.out.alloc (.cells #[.int .i64 t.V, .string ⟨t.S.toArray⟩, .slice al2 t.L.length cp2] 24))
    have RP2 := hidden (hr2.alloc (.cells #[.int .i64 t.V, .string ⟨t.S.toArray⟩, .slice al2 t.L.length cp2] 24))
    have B2 := hidden (B3.new wr t.V ⟨t.S.toArray⟩ (.slice al2 t.L.length cp2))
    have W2 := hidden (G2.out.alloc (.cells #[.int .i64 t.V, .string ⟨t.S.toArray⟩, .slice al2 t.L.length cp2] 24))
    have O2 := hidden (G11.out.alloc (.cells #[.int .i64 t.V, .string ⟨t.S.toArray⟩, .slice al2 t.L.length cp2] 24))
    have C2 := hidden (G12.out.alloc (.cells #[.int .i64 t.V, .string ⟨t.S.toArray⟩, .slice al2 t.L.length cp2] 24))
    have F2 := hidden (G13.out.alloc (.cells #[.int .i64 t.V, .string ⟨t.S.toArray⟩, .slice al2 t.L.length cp2] 24))
    have S2 := hidden (nblk_alloc wr (.cells #[.int .i64 t.V, .string ⟨t.S.toArray⟩, .slice al2 t.L.length cp2] 24))
    have hwr : fb < wr.heap.size := G13.out.lt
    have HTS := hidden hv.2.2
    have HTK := hidden (G5.out.ok htok)
    have htz2 : szRL t.L ≤ 1000000 := by rw [sz_L] at htz; have h9 := HL1.out; omega
    have hsz2 : (t.rs R).sz ≤ s := by have h9 := HSZ.out; omega
    obtain ⟨vo, vc, rfl⟩ := G2.out.slice
    clear hr2 X2 hv htok hts htl hZk htz
    go_upto_region 9 with fail
    generalize wr.alloc (.cells #[.int .i64 t.V, .string ⟨t.S.toArray⟩, .slice al2 t.L.length cp2] 24) = w2 at *
    obtain ⟨b, hb5⟩ : ∃ b, wr.heap.size = b := ⟨_, rfl⟩
    rw [hb5] at B2 S2 hwr ⊢
    have HBW := hidden hb5
    clear hb5 t0 t1 t2
    have TD9 : Hid (PT O w2.drew tb q r K nm own hi σ1 μ) := T2.out.keep (fun g _ _ => rfl)
    have RD : Hid (RT (fun g => ¬ Own3 tb q r g) w2.drew t.L al2) := RP2.out.keep (fun g _ _ => rfl)
    have HV := hidden (HI.out σ1 w2.drew t al2 cp2 hsz2 htz2 HTS.out TD9.out G6.out HTK.out RD.out)
    obtain ⟨y, hy⟩ : ∃ y, (t.rs R).rw = y := ⟨_, rfl⟩
    rw [hy] at HV
    have HY := hidden hy
    clear hy
    have f2 := F2.out.cells.2.2.1
    obtain ⟨b0, b1, b2, bf⟩ := B2.out.cells
    refine region_till (S := (fun w' => w'.cell? ⟨fb, 2, none⟩ = some (.slice vo Dl.length vc) ∧ w'.cell? ⟨b, 0, none⟩ = some (.int .i64 t.V) ∧ w'.cell? ⟨b, 1, none⟩ = some (.string ⟨t.S.toArray⟩) ∧ w'.cell? ⟨b, 2, none⟩ = some (.slice al2 t.L.length cp2))) (kz := 8) (by kernel_rfl) ⟨f2, b0, b1, b2⟩ (fun hHeld => ?_)
    refine AnyTill.tk (i := 0) (v := ?_) hHeld ?_ ?_
    rotate_left
    ·(intro w hSw; (try dsimp only at hSw); go_simp; (try with_reducible rfl))
    (try simp only [Act.put, q4, q5, q6, q1, q2, q3])
    refine AnyTill.tk (i := 1) (v := ?_) hHeld ?_ ?_
    rotate_left
    ·(intro w hSw; (try dsimp only at hSw); go_simp; (try with_reducible rfl))
    (try simp only [Act.put, q4, q5, q6, q1, q2, q3])
    refine AnyTill.tk (i := 2) (v := ?_) hHeld ?_ ?_
    rotate_left
    ·(intro w hSw; (try dsimp only at hSw); go_simp; (try with_reducible rfl))
    (try simp only [Act.put, q4, q5, q6, q1, q2, q3])
    refine AnyTill.tk (i := 3) (v := ?_) hHeld ?_ ?_
    rotate_left
    ·(intro w hSw; (try dsimp only at hSw); go_simp; (try with_reducible rfl))
    (try simp only [Act.put, q4, q5, q6, q1, q2, q3])
    refine AnyTill.one (i := 4) (by kernel_rfl) rfl (fun K9 hK9 => ?_)
    (try simp only [q1, q2, q3])
    go_simp
    refine HV.out.mono ?_
    rintro e w3 ⟨al3, cp3, σ', rfl, j1, j2, j3, j4, j7, j8⟩
    have hn3 : ∀ g, Own3 tb q r g → g < w.heap.size := fun g hg => HB.out g (Or.inr hg)
    have hz3 := j7.size
    have hz3b : w2.heap.size ≤ w3.heap.size := hz3
    have hs2 := S2.out
    have F3 : Hid (B3 w3 fb 0 ⟨S.toArray⟩ (.slice vo Dl.length vc)) := F2.out.keep (j7.block _ F2.out.lt (fun e => by have h9 := hn3 _ e; omega))
    have C3 : Hid (B3 w3 (w.heap.size + 1) 0 ⟨#[]⟩ (.slice none 0 0)) := C2.out.keep (j7.block _ C2.out.lt (fun e => by have h9 := hn3 _ e; omega))
    have P3 : Hid (B3 w3 b t.V ⟨t.S.toArray⟩ (.slice al2 t.L.length cp2)) := B2.out.keep (j7.block _ B2.out.lt (fun e => by have h9 := hn3 _ e; omega))
    have W3 : Hid (TW10 w3 (fb + 1) (.slice vo Dl.length vc) Dl) := W2.out.keep (fun g hg hl => j7.block _ hl (fun e => by have h9 := hn3 _ e; omega))
    have L3 : Hid (Only (Own3 tb q r) w w3) := (O2.out.drewN 1).trans j7
    have T3 := hidden j3
    have E3 := hidden (G5.out.trans j1)
    have J2 := hidden j2
    have J8 := hidden j8
    have hv8 := j8
    have hne : ∀ g, (Value.slice vo Dl.length vc).ownBlock = some g → fb + 1 ≤ g ∧ g < wr.heap.size := fun g hg => G2.out.1.lt g hg
    have HNE := hidden hne
    have Y3 : Hid (RT (fun g => fb + 1 ≤ g ∧ (Value.slice vo Dl.length vc).ownBlock ≠ some g) w3 y.L al3) := j4.mono (fun g hg _ => by
     have h9 : w2.heap.size ≤ g := hg
     refine ⟨by omega, fun e => ?_⟩
     have h8 := hne g e
     have h7 := HBW.out
     omega)
    have f3 := F3.out.cells.2.2.1
    obtain ⟨p0, p1, p2, pf⟩ := P3.out.cells
    refine hK9.out _ _ (fun _ => ⟨f3, p0, p1, p2⟩) ?_
    clear hK9 K9
    (try simp only [Act.put, q4, q5, q6, q1, q2, q3])
    clear f3 p0 p1 p2 pf j1 j2 j3 j4 j7 j8 f2 b0 b1 b2 bf hne hn3 hs2
    refine AnyTill.one (i := 5) (by kernel_rfl) rfl (fun K9 hK9 => ?_)
    (try simp only [q1, q2, q3])
    go_simp
    have T4 := hidden (T3.out.alloc (.cells #[.int .i64 y.V, .string ⟨y.S.toArray⟩, .slice al3 y.L.length cp3] 24))
    have F4 := hidden (F3.out.alloc (.cells #[.int .i64 y.V, .string ⟨y.S.toArray⟩, .slice al3 y.L.length cp3] 24))
    have C4b := hidden (C3.out.alloc (.cells #[.int .i64 y.V, .string ⟨y.S.toArray⟩, .slice al3 y.L.length cp3] 24))
    have P4 := hidden (P3.out.alloc (.cells #[.int .i64 y.V, .string ⟨y.S.toArray⟩, .slice al3 y.L.length cp3] 24))
    have W4 := hidden (W3.out.alloc (.cells #[.int .i64 y.V, .string ⟨y.S.toArray⟩, .slice al3 y.L.length cp3] 24))
    have L4b := hidden (L3.out.alloc (.cells #[.int .i64 y.V, .string ⟨y.S.toArray⟩, .slice al3 y.L.length cp3] 24))
    have S4 := hidden (nblk_alloc w3 (.cells #[.int .i64 y.V, .string ⟨y.S.toArray⟩, .slice al3 y.L.length cp3] 24))
    have B4 := hidden (B3.new w3 y.V ⟨y.S.toArray⟩ (.slice al3 y.L.length cp3))
    have Y4 := hidden (Y3.out.alloc (.cells #[.int .i64 y.V, .string ⟨y.S.toArray⟩, .slice al3 y.L.length cp3] 24))
    generalize w3.alloc (.cells #[.int .i64 y.V, .string ⟨y.S.toArray⟩, .slice al3 y.L.length cp3] 24) = w7 at *
    have f4 := F4.out.cells.2.2.1
    obtain ⟨p0, p1, p2, pf⟩ := P4.out.cells
    refine hK9.out _ _ (fun _ => ⟨f4, p0, p1, p2⟩) ?_
    clear hK9 K9
    (try simp only [Act.put, q4, q5, q6, q1, q2, q3])
    clear f4 p0 p1 p2 pf
    refine AnyTill.one (i := 6) (by kernel_rfl) rfl (fun K9 hK9 => ?_)
    (try simp only [q1, q2, q3])
    have hD9 : Dl.length < 1000000 := by have h9 := G1.out; have h8 := len_szRL L; have h7 := HN.out; have h6 := HL1.out; omega
    have hB9 : fb + 1 ≤ w7.heap.size := by have h9 := S4.out; have h8 := S2.out; omega
    refine step_type (w := w7) (a := ⟨_, _⟩) ?_ (.tmp 33) (.tmp 37) ?_ (fb + 1) (.slice vo Dl.length vc) Dl ?_ W4.out w3.heap.size 1 ⟨y, al3, cp3⟩ (0, 0) ?_ B4.out Y4.out hv8 hD9 hB9 ?_
    ·rfl
    ·rfl
    ·rfl
    ·rfl
    intro g cap w8 hrow hgr hog
    have W5 := hidden hrow
    have hne := HNE.out
    have hkp : ∀ g, g < w7.heap.size → (Value.slice vo Dl.length vc).ownBlock ≠ some g → w8.heap[g]? = w7.heap[g]? := fun g hg hn => hgr.block g hg (fun e => hn e.symm)
    have hO : ∀ g, O g ∨ Own3 tb q r g → (Value.slice vo Dl.length vc).ownBlock ≠ some g := fun g hg e => by have h9 := hne g e; have h8 := HB.out g hg; omega
    have T5b := hidden (T4.out.keep (w' := w8) (fun g hg hl => hkp g hl (hO g hg)))
    have F5b : Hid (B3 w8 fb 0 ⟨S.toArray⟩ (.slice vo Dl.length vc)) := F4.out.keep (hkp _ F4.out.lt (fun e => by have h9 := hne _ e; omega))
    have C5b : Hid (B3 w8 (w.heap.size + 1) 0 ⟨#[]⟩ (.slice none 0 0)) := C4b.out.keep (hkp _ C4b.out.lt (fun e => by have h9 := hne _ e; omega))
    have P5 : Hid (B3 w8 b t.V ⟨t.S.toArray⟩ (.slice al2 t.L.length cp2)) := P4.out.keep (hkp _ P4.out.lt (fun e => by have h9 := hne _ e; have h8 := HBW.out; omega))
    have L5b : Hid (Only (Own3 tb q r) w w8) := ⟨hgr.os.trans L4b.out.os, hgr.tape.trans L4b.out.tape, hgr.output.trans L4b.out.output, Nat.le_trans L4b.out.size hgr.size, fun k hk hs => (hkp k (Nat.lt_of_lt_of_le hk L4b.out.size) (fun e => by have h9 := hne k e; omega)).trans (L4b.out.block k hk hs)⟩
    have f5 := F5b.out.cells.2.2.1
    obtain ⟨p0, p1, p2, pf⟩ := P5.out.cells
    refine hK9.out _ _ (fun _ => ⟨f5, p0, p1, p2⟩) ?_
    clear hK9 K9
    (try simp only [Act.put, q4, q5, q6, q1, q2, q3])
    clear f5 p0 p1 p2 pf hrow hgr hog hne hkp hO
    refine AnyTill.one (i := 7) (by kernel_rfl) rfl (fun K9 hK9 => ?_)
    (try simp only [q1, q2, q3])
    go_simp
    have f5 := F5b.out.cells.2.2.1
    obtain ⟨p0, p1, p2, pf⟩ := P5.out.cells
    refine hK9.out _ _ (fun _ => ⟨f5, p0, p1, p2⟩) ?_
    clear hK9 K9
    (try simp only [Act.put, q4, q5, q6, q1, q2, q3])
    clear p0 p1 p2 pf
    have ff := F5b.out.cells.2.2.2
    refine AnyTill.one (i := 8) (by kernel_rfl) rfl (fun K9 hK9 => ?_)
    (try simp only [q1, q2, q3])
    go_simp
    refine hK9.out _ _ (fun h => absurd rfl h) ?_
    clear hK9 K9
    (try simp only [Act.put, q4, q5, q6, q1, q2, q3])
    refine AnyTill.done (by kernel_rfl) ?_ _
    (try simp only [Act.put, q4, q5, q6, q1, q2, q3])
    clear f5 ff
    have hk6 : ∀ g', g' ≠ fb → (w8.setCell ⟨fb, 2, none⟩ (.slice (some ⟨g, 0, none⟩) (Dl.length + 1) cap)).heap[g']? = w8.heap[g']? := fun g' hg => blk_setCell_other _ _ _ _ hg
    have T6 : Hid (PT O (w8.setCell ⟨fb, 2, none⟩ (.slice (some ⟨g, 0, none⟩) (Dl.length + 1) cap)) tb q r K nm own hi σ' μ) := T5b.out.keep (fun g' hg _ => hk6 g' (by have h8 := HB.out g' hg; omega))
    have F6 := hidden (F5b.out.set2 (.slice (some ⟨g, 0, none⟩) (Dl.length + 1) cap))
    have C6 : Hid (B3 (w8.setCell ⟨fb, 2, none⟩ (.slice (some ⟨g, 0, none⟩) (Dl.length + 1) cap)) (w.heap.size + 1) 0 ⟨#[]⟩ (.slice none 0 0)) := C5b.out.keep (hk6 _ (by omega))
    have W6 : Hid (TW10 (w8.setCell ⟨fb, 2, none⟩ (.slice (some ⟨g, 0, none⟩) (Dl.length + 1) cap)) (fb + 1) (.slice (some ⟨g, 0, none⟩) (Dl.length + 1) cap) (Dl ++ [⟨y, al3, cp3⟩])) := W5.out.keep (fun g' hg _ => hk6 g' (by omega))
    have L6 : Hid (Only (Own3 tb q r) w (w8.setCell ⟨fb, 2, none⟩ (.slice (some ⟨g, 0, none⟩) (Dl.length + 1) cap))) := L5b.out.setNew (Or.inl (by omega)) _ _
    generalize w8.setCell ⟨fb, 2, none⟩ (.slice (some ⟨g, 0, none⟩) (Dl.length + 1) cap) = w9 at *
    clear hk6
    go_wp2_with fail
    go_roundw
    case rel =>
     refine ⟨k + 1, Dl ++ [⟨y, al3, cp3⟩], .slice (some ⟨g, 0, none⟩) (Dl.length + 1) cap, σ', by rw [HN.out]; omega, by go_num, by rw [List.length_append, G1.out]; rfl, W6.out, ?_, E3.out, J2.out, T6.out, L6.out, C6.out, F6.out⟩
     obtain ⟨q1, q2⟩ := List.getElem?_eq_some_iff.1 HZK.out
     rw [List.map_append, G4.out, List.take_succ_eq_append_getElem q1, q2, List.map_append]
     show _ ++ [y] = _ ++ [(t.rs R).rw]
     rw [HY.out]
    case measure => simp [intOf]; omega
   ·have z1 : ¬ (k : Int) < (n : Int) := by omega
    have hkn : k = n := by omega
    obtain ⟨vo, vc, rfl⟩ := G2.out.slice
    obtain ⟨c0, c1, c2, cf⟩ := G12.out.cells
    obtain ⟨f0, f1, f2, ff⟩ := G13.out.cells
    have HKN := hidden hkn
    clear hkn
    go_wp2_with fail
    refine bodyPost_ret (results_cell_row rfl _ _ (w.heap.size + 1) 24 #[.int .i64 0, .string ⟨S.toArray⟩, .slice vo Dl.length vc] (0, 0) _ rfl (G12.out.fill 0 ⟨S.toArray⟩ (.slice vo Dl.length vc)) Tryd.underlying24 rfl (by kernel_rfl)) rfl ?_
    have eZ : (rsL R L).take k = rsL R L := List.take_of_length_le (by rw [rsL_len, HN.out]; have h9 := HKN.out; omega)
    obtain ⟨hrt, _⟩ := G2.out.rt
    have e4 := G4.out
    rw [eZ] at e4
    rw [e4] at hrt
    have ex : RESX = Rw.mk 0 S ((rsL R L).map Ty.rw) := by rw [HRX.out, Ty.rw, rwL_map]
    rw [ex]
    have hln : ((rsL R L).map Ty.rw).length = Dl.length := by rw [← e4, List.length_map]
    have hne : ∀ g, fb + 1 ≤ g ∨ O g ∨ Own3 tb q r g → g ≠ w.heap.size + 1 := fun g hg => by
     rcases hg with hg | hg
     ·omega
     ·have h9 := HB.out g hg; omega
    refine ⟨vo, vc, σ1, ?_, HC4.out.trans G5.out, G6.out, G7.out.keep (fun g hg _ => fill3_blk wr (hne g (Or.inr hg)) _ _ _), ?_, G11.out.fill3 (Or.inl (by omega)) _ _ _, ?_⟩
    ·show Ending.returned (.agg #[.int .i64 0, .string ⟨S.toArray⟩, .slice vo Dl.length vc]) = .returned (.agg #[.int .i64 0, .string ⟨S.toArray⟩, .slice vo ((rsL R L).map Ty.rw).length vc])
     rw [hln]
    ·exact (hrt.keep (fun g hg _ => fill3_blk wr (hne g (Or.inl hg)) _ _ _)).mono (fun g hg _ => by omega)
    ·exact ⟨by show (-9223372036854775808 : Int) ≤ 0; omega, by show (0 : Int) ≤ _; omega, HSL.out⟩
theorem res_any (hK : K ≤ 1000000000) : ∀ s, ResFor O tb q r K nm own hi F R d μ s
 | 0 => fun σ w x ao c hm => by
  have := (x.rs R).sz_pos
  omega
 | s + 1 => fun σ w x ao c hm hl1 hsl h hs hx hrt => by
  have IH := res_any hK s
  by_cases hv : x.V = 0
  ·have hx2 := ok_name hx hv
   obtain ⟨V, S, L⟩ := x
   have hv' : V = 0 := hv
   subst hv'
   exact res_name IH σ w S L ao c hm hl1 hsl h hs hx2 hrt
  ·obtain ⟨k1, k2⟩ := ok_var hx hv
   have es : x.rs R = R x.V := rs_var R hv
   rw [es] at hm ⊢
   have := res_var hK IH σ w x.V ao c hm h hs k1
   rw [k2]
   exact this
end
end Go.Proofs.YtnebhiaeechpaaaDoor
