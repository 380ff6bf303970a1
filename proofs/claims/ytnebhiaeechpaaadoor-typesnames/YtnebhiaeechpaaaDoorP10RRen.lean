/-
 Layer 10: the document's own Rename: variables called otherwise, in new memory. Condition: the type may be, and lies in memory; no name stands twice.
-/
import Derived.Test.YtnebhiaeechpaaaDoorP10RVars
namespace Go.Proofs.YtnebhiaeechpaaaDoor
open Go.ChangeShapes Go.WideShapes Go.ChangeAt Go.RowKit Go.Deep
set_option linter.unusedVariables false
set_option linter.unusedSimpArgs false
set_option maxHeartbeats 4000000
set_option maxRecDepth 20000
/-- What a variable is called. -/
def rn (F T : List Nat) (n : Nat) : Nat := if n ∈ F then T.getD (F.idxOf n) 0 else n
def curV (F T : List Nat) (V : Int) (k : Nat) : Int := if V.toNat ∈ F.take k then ((T.getD (F.idxOf V.toNat) 0 : Nat) : Int) else V
/-- How it stands while the names are gone through. -/
def InRr (F T : List Nat) (V : Int) (S : ByteArray) (sl : Value) (w : World) (b : Nat) (iv : Value) (wr : World) : Prop := ∃ k : Nat, k ≤ F.length ∧ iv = .int .i64 (k : Int) ∧ B3 wr b V S sl ∧ B3 wr (b + 1) 0 ⟨#[]⟩ (.slice none 0 0) ∧ B3 wr (b + 2) (curV F T V k) S (.slice none 0 0) ∧ Below w.heap.size w wr
theorem B3.set0 {w : World} {p : Nat} {V : Int} {x : ByteArray} {v : Value} (h : B3 w p V x v) (V' : Int) : B3 (w.setCell ⟨p, 0, none⟩ (.int .i64 V')) p V' x v := by
 unfold B3 at *
 simp [World.setCell, Array.getElem?_modify, h]
theorem below_set {B p : Nat} {w w' : World} (h : Below B w w') (hp : B ≤ p) (o : Nat) (v : Value) : Below B w (w'.setCell ⟨p, o, none⟩ v) := h.setCell (p := ⟨p, o, none⟩) hp v
theorem curV_no {F T : List Nat} {V : Int} {k nn : Nat} (h : F[k]? = some nn) (h0 : 0 < V) (hn : ¬ (nn : Int) = V) : curV F T V (k + 1) = curV F T V k := by
 unfold curV
 have e : F.take (k + 1) = F.take k ++ [nn] := by rw [List.take_add_one, h]; rfl
 rw [e]
 have h9 : ¬ V.toNat = nn := by omega
 simp [h9]
theorem curV_yes {F T : List Nat} {V : Int} {k nn mm : Nat} (hF : F.Nodup) (h : F[k]? = some nn) (h2 : T[k]? = some mm) (hn : (nn : Int) = V) : curV F T V (k + 1) = (mm : Int) := by
 unfold curV
 have e : F.take (k + 1) = F.take k ++ [nn] := by rw [List.take_add_one, h]; rfl
 have e1 : V.toNat = nn := by omega
 obtain ⟨q1, q2⟩ := List.getElem?_eq_some_iff.1 h
 have e2 : F.idxOf nn = k := by rw [← q2]; exact hF.idxOf_getElem k q1
 rw [e, e1, if_pos (by simp), e2, List.getD_eq_getElem?_getD, h2]
 rfl
def InR0 (F : List Nat) (S : ByteArray) (sl : Value) (w : World) (b : Nat) (iv : Value) (wr : World) : Prop := ∃ k : Nat, k ≤ F.length ∧ iv = .int .i64 (k : Int) ∧ B3 wr b 0 S sl ∧ B3 wr (b + 1) 0 ⟨#[]⟩ (.slice none 0 0) ∧ B3 wr (b + 2) 0 S (.slice none 0 0) ∧ Below w.heap.size w wr
def InRp (F T : List Nat) (Z : List Ty) (S : List UInt8) (sl : Value) (w : World) (b : Nat) (iv : Value) (wr : World) : Prop := ∃ (k : Nat) (D : List TD) (v : Value), k ≤ Z.length ∧ iv = .int .i64 (k : Int) ∧ D.length = k ∧ TW10 wr (b + 2 + 1) v D ∧ D.map TD.t = (apL (fun n => .v (rn F T n)) (Z.take k)).map Ty.rw ∧ Below w.heap.size w wr ∧ B3 wr b 0 ⟨S.toArray⟩ sl ∧ B3 wr (b + 1) 0 ⟨#[]⟩ (.slice none 0 0) ∧ B3 wr (b + 2) 0 ⟨S.toArray⟩ v
def RRAs (t : Ty) (F T : List Nat) (w : World) (e : Ending) (w' : World) : Prop := ∃ (al : Option Addr) (cp : Nat) (z : Rw), z = (t.ap (fun n => .v (rn F T n))).rw ∧ e = .returned (.agg #[.int .i64 z.V, .string ⟨z.S.toArray⟩, .slice al z.L.length cp]) ∧ RT (fun g => w.heap.size ≤ g) w' z.L al ∧ Below w.heap.size w w' ∧ Bd z
def RRFor (F T : List Nat) (s : Nat) : Prop := ∀ (w : World) (x : Rw) (ao : Option Addr) (c : Nat) (fv tv : Value), x.sz ≤ s → x.sz ≤ 1000000 → x.may = true → Bd x → IW w 0 fv (intsV F) → IW w 0 tv (intsV T) → RT (fun g => g < w.heap.size) w x.L ao → Calls Tryd.prog 20 #[.agg #[.int .i64 x.V, .string ⟨x.S.toArray⟩, .slice ao x.L.length c], fv, tv] w fun e w' => RRAs x.ty F T w e w'
theorem rren_var (F T : List Nat) (hT : T.length = F.length) (hF : F.Nodup) (hTb : ∀ n ∈ T, n ≤ 9223372036854775807) (w : World) (V : Int) (ao : Option Addr) (c : Nat) (fv tv : Value) (h0 : 0 < V) (hV : V ≤ 9223372036854775807) (hl : F.length ≤ 1000000) (hf : IW w 0 fv (intsV F)) (ht : IW w 0 tv (intsV T)) : Calls Tryd.prog 20 #[.agg #[.int .i64 V, .string ⟨#[]⟩, .slice ao 0 c], fv, tv] w fun e w' => RRAs (.v V.toNat) F T w e w' := by
 obtain ⟨fo, fc, rfl⟩ := hf.slice
 obtain ⟨to, tc, rfl⟩ := ht.slice
 rw [intsV_len] at hf ht ⊢
 skip
 have HI := hidden hf
 have TI := hidden ht
 have HLT := hidden hT
 clear hf ht hT
 go_enter Tryd.func20, Tryd.ntmps20
 go_upto_region 1 with fail
 have A0 := hidden (B3.new w V ⟨#[]⟩ (.slice ao 0 c))
 have I0 := hidden (HI.out.alloc (.cells #[.int .i64 V, .string ⟨#[]⟩, .slice ao 0 c] 24))
 have T0 := hidden (TI.out.alloc (.cells #[.int .i64 V, .string ⟨#[]⟩, .slice ao 0 c] 24))
 have D0 := hidden ((Below.refl w.heap.size w).alloc (Nat.le_refl _) (.cells #[.int .i64 V, .string ⟨#[]⟩, .slice ao 0 c] 24))
 have hs0 := nblk_alloc w (.cells #[.int .i64 V, .string ⟨#[]⟩, .slice ao 0 c] 24)
 generalize w.alloc (.cells #[.int .i64 V, .string ⟨#[]⟩, .slice ao 0 c] 24) = w0 at *
 obtain ⟨a0, a1, a2, af⟩ := A0.out.cells
 clear af
 go_upto_region 2 with fail
 have Z1 := hidden (B3.new w0 0 ⟨#[]⟩ (.slice none 0 0))
 have A1 := hidden ((A0.out.alloc (.cells #[.int .i64 0, .string ⟨#[]⟩, .slice none 0 0] 24)).alloc (.cells #[.int .i64 V, .string ⟨#[]⟩, .slice none 0 0] 24))
 have Z2 := hidden (Z1.out.alloc (.cells #[.int .i64 V, .string ⟨#[]⟩, .slice none 0 0] 24))
 have F2 := hidden (B3.new (w0.alloc (.cells #[.int .i64 0, .string ⟨#[]⟩, .slice none 0 0] 24)) V ⟨#[]⟩ (.slice none 0 0))
 have D2 := hidden ((D0.out.alloc (by omega) (.cells #[.int .i64 0, .string ⟨#[]⟩, .slice none 0 0] 24)).alloc (by rw [nblk_alloc]; omega) (.cells #[.int .i64 V, .string ⟨#[]⟩, .slice none 0 0] 24))
 rw [nblk_alloc, hs0] at F2
 rw [hs0] at Z2
 clear Z1 a0 a1 a2 A0 D0 I0 T0
 generalize (w0.alloc (.cells #[.int .i64 0, .string ⟨#[]⟩, .slice none 0 0] 24)).alloc (.cells #[.int .i64 V, .string ⟨#[]⟩, .slice none 0 0] 24) = w1 at *
 obtain ⟨b, hb⟩ : ∃ b, w.heap.size = b := ⟨_, rfl⟩
 have HB := hidden hb
 rw [show w.heap.size + 1 + 1 = w.heap.size + 2 from rfl]
 rw [hb] at A1 Z2 F2 ⊢
 clear hs0 hb
 have IS : Hid (InRr F T V ⟨#[]⟩ (.slice ao 0 c) w b (.int .i64 0) w1) := ⟨0, Nat.zero_le _, rfl, A1.out, Z2.out, by unfold curV; rw [List.take_zero, if_neg (by simp)]; exact F2.out, D2.out⟩
 obtain ⟨l, hl⟩ : ∃ l, F.length = l := ⟨_, rfl⟩
 rw [hl] at HLT ⊢
 have HL := hidden hl
 have hl9 : l ≤ 1000000 := by omega
 clear hl
 go_wp2_with fail
 go_loopw [8] (fun iv wr => InRr F T V ⟨#[]⟩ (.slice ao 0 c) w b iv wr) (fun iv wr => (l - intOf iv).toNat)
 case atStart => exact IS.out
 case round =>
  obtain ⟨k, k1, rfl, g1, g2, g3, g4⟩ := hrel
  rw [HL.out] at k1
  have G1 := hidden g1
  have G2 := hidden g2
  have G3 := hidden g3
  have G4 := hidden g4
  clear g1 g2 g3 g4
  obtain ⟨a0, a1, a2, af⟩ := G1.out.cells
  clear af
  by_cases hlt : k < l
  ·have z1 : (k : Int) < (l : Int) := by omega
   have zi : (0 : Int) ≤ (k : Int) ∧ (k : Int) < (l : Int) := ⟨by omega, z1⟩
   have hbw := G4.out.size
   have I1 : IW wr 0 (.slice fo F.length fc) (intsV F) := HI.out.keep (fun g hg => G4.out.block g (HI.out.own g hg).2)
   have hltF : k < F.length := by rw [HL.out]; exact hlt
   obtain ⟨g, c9, hvs, hc9⟩ := I1.at_ (intsV_at hltF)
   rw [intsV_len] at hvs
   obtain ⟨rfl, _, rfl⟩ : fo = some ⟨g, 0, none⟩ ∧ F.length = F.length ∧ fc = c9 := by simpa using hvs
   clear hvs I1
   obtain ⟨nn, hnn⟩ : ∃ nn, F[k] = nn := ⟨_, rfl⟩
   rw [hnn] at hc9
   have HNN : Hid (F[k]? = some nn) := by show _ = _; rw [List.getElem?_eq_getElem hltF, hnn]
   clear hnn hltF
   have I2 : IW wr 0 (.slice to T.length tc) (intsV T) := TI.out.keep (fun g hg => G4.out.block g (TI.out.own g hg).2)
   have hltT : k < T.length := by rw [HLT.out]; exact hlt
   obtain ⟨g2, c8, hvs, hc8⟩ := I2.at_ (intsV_at hltT)
   rw [intsV_len] at hvs ⊢
   rw [HLT.out] at hvs ⊢
   obtain ⟨rfl, _, rfl⟩ : to = some ⟨g2, 0, none⟩ ∧ l = l ∧ tc = c8 := by simpa using hvs
   clear hvs I2
   obtain ⟨mm, hmm⟩ : ∃ mm, T[k] = mm := ⟨_, rfl⟩
   rw [hmm] at hc8
   have HMM : Hid (T[k]? = some mm) := by show _ = _; rw [List.getElem?_eq_getElem hltT, hmm]
   clear hmm hltT
   have HC8 := hidden hc8
   clear hc8
   go_upto_region 5 with fail
   have e0 : wr.drew.cell? ⟨g, k, none⟩ = some (.int .i64 (nn : Int)) := hc9
   refine region_till (S := (fun w' => w'.cell? ⟨g, k, none⟩ = some (.int .i64 (nn : Int)) ∧ w'.cell? ⟨b, 0, none⟩ = some (.int .i64 V))) (kz := 99) (by kernel_rfl) ⟨hc9, a0⟩ (fun hHeld => ?_)
   refine AnyTill.tk (i := 0) (v := ?_) hHeld ?_ ?_
   rotate_left
   ·(intro w hSw; (try dsimp only at hSw); go_simp; (try with_reducible rfl))
   (try simp only [Act.put, q4, q5, q6, q1, q2, q3])
   refine AnyTill.tk (i := 1) (v := ?_) hHeld ?_ ?_
   rotate_left
   ·(intro w hSw; (try dsimp only at hSw); go_simp; (try with_reducible rfl))
   (try simp only [Act.put, q4, q5, q6, q1, q2, q3])
   refine AnyTill.tk (i := 2) (v := ?_) hHeld ?_ ?_
   rotate_left
   ·(intro w hSw; (try dsimp only at hSw); go_simp; (try with_reducible rfl))
   (try simp only [Act.put, q4, q5, q6, q1, q2, q3])
   refine AnyTill.tk (i := 3) (v := ?_) hHeld ?_ ?_
   rotate_left
   ·(intro w hSw; (try dsimp only at hSw); go_simp; (try with_reducible rfl))
   (try simp only [Act.put, q4, q5, q6, q1, q2, q3])
   refine AnyTill.tk (i := 4) (v := ?_) hHeld ?_ ?_
   rotate_left
   ·(intro w hSw; (try dsimp only at hSw); go_simp; (try with_reducible rfl))
   (try simp only [Act.put, q4, q5, q6, q1, q2, q3])
   refine AnyTill.tk (i := 5) (v := ?_) hHeld ?_ ?_
   rotate_left
   ·(intro w hSw; (try dsimp only at hSw); go_simp; (try with_reducible rfl))
   (try simp only [Act.put, q4, q5, q6, q1, q2, q3])
   refine AnyTill.tk (i := 6) (v := ?_) hHeld ?_ ?_
   rotate_left
   ·(intro w hSw; (try dsimp only at hSw); go_simp; (try with_reducible rfl))
   (try simp only [Act.put, q4, q5, q6, q1, q2, q3])
   refine AnyTill.tk (i := 7) (v := ?_) hHeld ?_ ?_
   rotate_left
   ·(intro w hSw; (try dsimp only at hSw); go_simp; (try with_reducible rfl))
   (try simp only [Act.put, q4, q5, q6, q1, q2, q3])
   refine AnyTill.tk (i := 8) (v := ?_) hHeld ?_ ?_
   rotate_left
   ·(intro w hSw; (try dsimp only at hSw); go_simp; (try with_reducible rfl))
   (try simp only [Act.put, q4, q5, q6, q1, q2, q3])
   refine AnyTill.tk (i := 9) (v := ?_) hHeld ?_ ?_
   rotate_left
   ·(intro w hSw; (try dsimp only at hSw); go_simp; (try with_reducible rfl))
   (try simp only [Act.put, q4, q5, q6, q1, q2, q3])
   refine AnyTill.tk (i := 10) (v := ?_) hHeld ?_ ?_
   rotate_left
   ·(intro w hSw; (try dsimp only at hSw); go_simp; (try with_reducible rfl))
   (try simp only [Act.put, q4, q5, q6, q1, q2, q3])
   refine AnyTill.tk (i := 11) (v := ?_) hHeld ?_ ?_
   rotate_left
   ·(intro w hSw; (try dsimp only at hSw); go_simp; (try with_reducible rfl))
   (try simp only [Act.put, q4, q5, q6, q1, q2, q3])
   refine AnyTill.done (by kernel_rfl) ?_ _
   (try simp only [Act.put, q4, q5, q6, q1, q2, q3])
   clear e0 hc9
   by_cases hq : (nn : Int) = V
   ·have zb : ((nn : Int) == V) = true := beq_iff_eq.2 hq
    have HQ := hidden hq
    clear hq
    have hc8 : wr.drew.cell? ⟨g2, k, none⟩ = some (.int .i64 (mm : Int)) := HC8.out
    have G3d : Hid (B3 wr.drew (b + 2) (curV F T V k) ⟨#[]⟩ (.slice none 0 0)) := G3.out.keep rfl
    obtain ⟨f0, f1, f2, ff⟩ := G3d.out.cells
    have hff := ff 0
    clear ff f1 f2
    have hml : mm ≤ 9223372036854775807 := hTb mm (List.mem_of_getElem? HMM.out)
    go_wp2_with fail
    go_roundw
    case rel =>
     refine ⟨k + 1, by rw [HL.out]; omega, by go_num, G1.out.keep (blk_setCell_other _ _ _ _ (show b ≠ b + 2 by omega)), G2.out.keep (blk_setCell_other _ _ _ _ (show b + 1 ≠ b + 2 by omega)), ?_, ?_⟩
     ·rw [curV_yes hF HNN.out HMM.out HQ.out]; exact G3d.out.set0 _
     ·exact below_set (G4.out.trans (below_drew (Below.refl _ _))) (by have h9 := HB.out; omega) _ _
    case measure => simp [intOf]; omega
   ·have zb : ((nn : Int) == V) = false := beq_eq_false_iff_ne.2 hq
    have HQ := hidden hq
    clear hq
    go_wp2_with fail
    go_roundw
    case rel =>
     refine ⟨k + 1, by rw [HL.out]; omega, by go_num, G1.out, G2.out, ?_, ?_⟩
     ·rw [curV_no HNN.out h0 HQ.out]; exact G3.out.keep rfl
     ·exact G4.out.trans (below_drew (Below.refl _ _))
    case measure => simp [intOf]; omega
  ·have z1 : ¬ (k : Int) < (l : Int) := by omega
   have HCV : Hid (curV F T V k = ((rn F T V.toNat : Nat) : Int)) := by
    show _ = _
    unfold curV rn
    rw [List.take_of_length_le (by rw [HL.out]; omega)]
    by_cases hin : V.toNat ∈ F
    ·rw [if_pos hin, if_pos hin]
    ·rw [if_neg hin, if_neg hin]; omega
   have HRB : Hid (rn F T V.toNat ≤ 9223372036854775807) := by
    show _ ≤ _
    unfold rn
    split
    ·rw [List.getD_eq_getElem?_getD]
     cases h9 : T[F.idxOf V.toNat]? with
     | none => exact Nat.zero_le _
     | some m => exact hTb m (List.mem_of_getElem? h9)
    ·omega
   have HIX : Hid (((Ty.v V.toNat).ap (fun n => .v (rn F T n))).rw = .mk ((rn F T V.toNat : Nat) : Int) [] []) := by show _ = _; rw [Ty.ap]; rfl
   obtain ⟨rr, hrr⟩ : ∃ rr, rn F T V.toNat = rr := ⟨_, rfl⟩
   rw [hrr] at HCV HRB HIX
   rw [HCV.out] at G3
   clear hrr
   obtain ⟨f0, f1, f2, ff⟩ := G3.out.cells
   obtain ⟨c0, c1, c2, cf⟩ := G2.out.cells
   go_wp2_with fail
   have hq : ∀ wr', wr' = wr → wr'.cell? ⟨b, 2, none⟩ = some (.slice ao 0 c) := fun wr' e => by rw [e]; exact a2
   go_loopw [9] (fun iv wr' => iv = .int .i64 0 ∧ wr' = wr) (fun iv wr' => 0)
   case atStart => exact ⟨rfl, rfl⟩
   case round =>
    obtain ⟨rfl, rfl⟩ := hrel
    go_wp2_with fail
    refine bodyPost_ret (results_cell_row rfl _ _ (b + 1) 24 #[.int .i64 (rr : Int), .string ⟨#[]⟩, .slice none 0 0] (0, 0) _ rfl (G2.out.fill (rr : Int) ⟨#[]⟩ (.slice none 0 0)) Tryd.underlying24 rfl (by kernel_rfl)) rfl ?_
    have h9 : w.heap.size ≤ b + 1 := by have h8 := HB.out; omega
    have hrr := HRB.out
    exact ⟨none, 0, .mk (rr : Int) [] [], HIX.out.symm, rfl, rt_nil, below_set (below_set (below_set G4.out h9 0 _) h9 1 _) h9 2 _, ⟨by show (-9223372036854775808 : Int) ≤ (rr : Int); omega, by show (rr : Int) ≤ 9223372036854775807; omega, Nat.zero_le _⟩⟩
theorem rren_name {s : Nat} (F T : List Nat) (hT : T.length = F.length) (IH : RRFor F T s) (w : World) (S : List UInt8) (L : List Rw) (ao : Option Addr) (c : Nat) (fv tv : Value) (hm : szRL L ≤ s) (hl1 : szRL L ≤ 1000000) (hsl : S.length ≤ maxLen) (hmay : mayL L = true) (hl : F.length ≤ 1000000) (hf : IW w 0 fv (intsV F)) (ht : IW w 0 tv (intsV T)) (hrt : RT (fun g => g < w.heap.size) w L ao) : Calls Tryd.prog 20 #[.agg #[.int .i64 0, .string ⟨S.toArray⟩, .slice ao L.length c], fv, tv] w fun e w' => RRAs (.c S (tyL L)) F T w e w' := by
 obtain ⟨fo, fc, rfl⟩ := hf.slice
 obtain ⟨to, tc, rfl⟩ := ht.slice
 rw [intsV_len] at hf ht ⊢
 obtain ⟨tl9, htl9⟩ : ∃ tl9, (intsV T).length = tl9 := ⟨_, rfl⟩
 rw [intsV_len] at htl9
 skip
 obtain ⟨Z, hZ⟩ : ∃ Z, tyL L = Z := ⟨_, rfl⟩
 have HZL : Hid (Z.length = L.length) := by show _ = _; rw [← hZ, tyL_len]
 rw [hZ]
 have HZ := hidden hZ
 have HI := hidden hf
 have TI := hidden ht
 have HIH := hidden IH
 have X := hidden hrt
 have HMY := hidden hmay
 have HL1 := hidden hl1
 have HSZ := hidden hm
 have HSL := hidden hsl
 have hll := hidden (len_szRL L)
 clear hf ht hT IH hrt hmay hl1 hm hsl hZ htl9
 go_enter Tryd.func20, Tryd.ntmps20
 go_upto_region 1 with fail
 have A0 := hidden (B3.new w 0 ⟨S.toArray⟩ (.slice ao L.length c))
 have D0 := hidden ((Below.refl w.heap.size w).alloc (Nat.le_refl _) (.cells #[.int .i64 0, .string ⟨S.toArray⟩, .slice ao L.length c] 24))
 have hs0 := nblk_alloc w (.cells #[.int .i64 0, .string ⟨S.toArray⟩, .slice ao L.length c] 24)
 generalize w.alloc (.cells #[.int .i64 0, .string ⟨S.toArray⟩, .slice ao L.length c] 24) = w0 at *
 obtain ⟨n, hn⟩ : ∃ n, L.length = n := ⟨_, rfl⟩
 rw [hn] at A0 HZL ⊢
 have HN := hidden hn
 clear hn
 obtain ⟨a0, a1, a2, af⟩ := A0.out.cells
 clear af
 go_upto_region 2 with fail
 have Z1 := hidden (B3.new w0 0 ⟨#[]⟩ (.slice none 0 0))
 have A1 := hidden ((A0.out.alloc (.cells #[.int .i64 0, .string ⟨#[]⟩, .slice none 0 0] 24)).alloc (.cells #[.int .i64 0, .string ⟨S.toArray⟩, .slice none 0 0] 24))
 have Z2 := hidden (Z1.out.alloc (.cells #[.int .i64 0, .string ⟨S.toArray⟩, .slice none 0 0] 24))
 have F2 := hidden (B3.new (w0.alloc (.cells #[.int .i64 0, .string ⟨#[]⟩, .slice none 0 0] 24)) 0 ⟨S.toArray⟩ (.slice none 0 0))
 have D2 := hidden ((D0.out.alloc (by omega) (.cells #[.int .i64 0, .string ⟨#[]⟩, .slice none 0 0] 24)).alloc (by rw [nblk_alloc]; omega) (.cells #[.int .i64 0, .string ⟨S.toArray⟩, .slice none 0 0] 24))
 rw [nblk_alloc, hs0] at F2
 rw [hs0] at Z2
 clear Z1 a0 a1 a2 A0 D0
 generalize (w0.alloc (.cells #[.int .i64 0, .string ⟨#[]⟩, .slice none 0 0] 24)).alloc (.cells #[.int .i64 0, .string ⟨S.toArray⟩, .slice none 0 0] 24) = w1 at *
 obtain ⟨b, hb⟩ : ∃ b, w.heap.size = b := ⟨_, rfl⟩
 have HB := hidden hb
 rw [show w.heap.size + 1 + 1 = w.heap.size + 2 from rfl]
 rw [hb] at A1 Z2 F2 ⊢
 clear hs0 hb
 have IS : Hid (InR0 F ⟨S.toArray⟩ (.slice ao n c) w b (.int .i64 0) w1) := ⟨0, Nat.zero_le _, rfl, A1.out, Z2.out, F2.out, D2.out⟩
 obtain ⟨l, hl0⟩ : ∃ l, F.length = l := ⟨_, rfl⟩
 rw [hl0] at hl ⊢
 have HL := hidden hl0
 clear hl0
 go_wp2_with fail
 go_loopw [8] (fun iv wr => InR0 F ⟨S.toArray⟩ (.slice ao n c) w b iv wr) (fun iv wr => (l - intOf iv).toNat)
 case atStart => exact IS.out
 case round =>
  obtain ⟨k, k1, rfl, g1, g2, g3, g4⟩ := hrel
  rw [HL.out] at k1
  have G1 := hidden g1
  have G2 := hidden g2
  have G3 := hidden g3
  have G4 := hidden g4
  clear g1 g2 g3 g4
  obtain ⟨a0, a1, a2, af⟩ := G1.out.cells
  clear af
  by_cases hlt : k < l
  ·have z1 : (k : Int) < (l : Int) := by omega
   have zi : (0 : Int) ≤ (k : Int) ∧ (k : Int) < (l : Int) := ⟨by omega, z1⟩
   go_upto_region 5 with fail
   refine region_till (S := (fun w' => w'.cell? ⟨b, 0, none⟩ = some (.int .i64 0))) (kz := 99) (by kernel_rfl) a0 (fun hHeld => ?_)
   refine AnyTill.tk (i := 0) (v := ?_) hHeld ?_ ?_
   rotate_left
   ·(intro w hSw; (try dsimp only at hSw); go_simp; (try with_reducible rfl))
   (try simp only [Act.put, q4, q5, q6, q1, q2, q3])
   refine AnyTill.tk (i := 1) (v := ?_) hHeld ?_ ?_
   rotate_left
   ·(intro w hSw; (try dsimp only at hSw); go_simp; (try with_reducible rfl))
   (try simp only [Act.put, q4, q5, q6, q1, q2, q3])
   refine AnyTill.tk (i := 2) (v := ?_) hHeld ?_ ?_
   rotate_left
   ·(intro w hSw; (try dsimp only at hSw); go_simp; (try with_reducible rfl))
   (try simp only [Act.put, q4, q5, q6, q1, q2, q3])
   refine AnyTill.tk (i := 3) (v := ?_) hHeld ?_ ?_
   rotate_left
   ·(intro w hSw; (try dsimp only at hSw); go_simp; (try with_reducible rfl))
   (try simp only [Act.put, q4, q5, q6, q1, q2, q3])
   refine AnyTill.take (i := 4) (v := undef) rfl (by kernel_rfl) (by kernel_rfl) (by kernel_rfl) (by kernel_rfl) (fun _ _ _ h => h) (Or.inr ⟨by rfl, rfl⟩) hHeld ?_
   (try simp only [Act.put, q4, q5, q6, q1, q2, q3])
   refine AnyTill.take (i := 5) (v := undef) rfl (by kernel_rfl) (by kernel_rfl) (by kernel_rfl) (by kernel_rfl) (fun _ _ _ h => h) (Or.inr ⟨by rfl, rfl⟩) hHeld ?_
   (try simp only [Act.put, q4, q5, q6, q1, q2, q3])
   refine AnyTill.take (i := 6) (v := undef) rfl (by kernel_rfl) (by kernel_rfl) (by kernel_rfl) (by kernel_rfl) (fun _ _ _ h => h) (Or.inr ⟨by rfl, rfl⟩) hHeld ?_
   (try simp only [Act.put, q4, q5, q6, q1, q2, q3])
   refine AnyTill.take (i := 7) (v := undef) rfl (by kernel_rfl) (by kernel_rfl) (by kernel_rfl) (by kernel_rfl) (fun _ _ _ h => h) (Or.inr ⟨by rfl, rfl⟩) hHeld ?_
   (try simp only [Act.put, q4, q5, q6, q1, q2, q3])
   refine AnyTill.take (i := 8) (v := undef) rfl (by kernel_rfl) (by kernel_rfl) (by kernel_rfl) (by kernel_rfl) (fun _ _ _ h => h) (Or.inr ⟨by rfl, rfl⟩) hHeld ?_
   (try simp only [Act.put, q4, q5, q6, q1, q2, q3])
   refine AnyTill.take (i := 9) (v := undef) rfl (by kernel_rfl) (by kernel_rfl) (by kernel_rfl) (by kernel_rfl) (fun _ _ _ h => h) (Or.inr ⟨by rfl, rfl⟩) hHeld ?_
   (try simp only [Act.put, q4, q5, q6, q1, q2, q3])
   refine AnyTill.take (i := 10) (v := undef) rfl (by kernel_rfl) (by kernel_rfl) (by kernel_rfl) (by kernel_rfl) (fun _ _ _ h => h) (Or.inr ⟨by rfl, rfl⟩) hHeld ?_
   (try simp only [Act.put, q4, q5, q6, q1, q2, q3])
   refine AnyTill.tk (i := 11) (v := ?_) hHeld ?_ ?_
   rotate_left
   ·(intro w hSw; (try dsimp only at hSw); go_simp; (try with_reducible rfl))
   (try simp only [Act.put, q4, q5, q6, q1, q2, q3])
   refine AnyTill.done (by kernel_rfl) ?_ _
   (try simp only [Act.put, q4, q5, q6, q1, q2, q3])
   go_wp2_with fail
   go_roundw
   case rel => exact ⟨k + 1, by rw [HL.out]; omega, by go_num, G1.out.keep rfl, G2.out.keep rfl, G3.out.keep rfl, G4.out.trans (below_drew (Below.refl _ _))⟩
   case measure => simp [intOf]; omega
  ·have z1 : ¬ (k : Int) < (l : Int) := by omega
   have IP : Hid (InRp F T Z S (.slice ao n c) w b (.int .i64 0) wr) := ⟨0, [], .slice none 0 0, Nat.zero_le _, rfl, rfl, TW10.nil _ _, by rw [List.take_zero, apL]; rfl, G4.out, G1.out, G2.out, G3.out⟩
   go_wp2_with fail
   go_loopw [9] (fun iv wr => InRp F T Z S (.slice ao n c) w b iv wr) (fun iv wr => (n - intOf iv).toNat)
   case atStart => exact IP.out
   case round =>
  obtain ⟨k, Dl, v, k1, rfl, g1, g2, g4, g7, g11, g12, g13⟩ := hrel
  rw [HZL.out] at k1
  have G1 := hidden g1
  have G2 := hidden g2
  have G4 := hidden g4
  have G7 := hidden g7
  have G11 := hidden g11
  have G12 := hidden g12
  have G13 := hidden g13
  have hn9 : n ≤ 1000000 := by have h9 := hll.out; have h8 := HN.out; have h7 := HL1.out; omega
  have hfb : b + 2 < wr.heap.size := g13.lt
  obtain ⟨b0, b1, b2, bf⟩ := g11.cells
  have HDK : Hid (Dl.length = k) := G1
  clear bf b0 b1 g1 g2 g4 g7 g11 g12 g13
  by_cases hlt : k < n
  ·have z1 : (k : Int) < (n : Int) := by omega
   have zi : (0 : Int) ≤ (k : Int) ∧ (k : Int) < (n : Int) := ⟨by omega, z1⟩
   obtain ⟨t, ht⟩ : ∃ t, L[k]? = some t := ⟨_, List.getElem?_eq_getElem (by rw [HN.out]; exact hlt)⟩
   have htz := sz_part (List.mem_of_getElem? ht)
   have htm := mayL_mem HMY.out t (List.mem_of_getElem? ht)
   have HTK : Hid (Z.take (k + 1) = Z.take k ++ [t.ty]) := by show _ = _; rw [← HZ.out]; exact tyL_at ht
   obtain ⟨a, al2, cp2, rfl, t0, t1, t2, hv, hr2⟩ := rt_part X.out ht
   have HCL : Hid (∀ w', Below w.heap.size w w' → w'.cell? (a.add (k * 3)) = some (.int .i64 t.V) ∧ w'.cell? ⟨(a.add (k * 3)).block, (a.add (k * 3)).off + 1, none⟩ = some (.string ⟨t.S.toArray⟩) ∧ w'.cell? ⟨(a.add (k * 3)).block, (a.add (k * 3)).off + 2, none⟩ = some (.slice al2 t.L.length cp2)) := fun w' hw => by
    have hb := hw.block _ (cell_ltT t0)
    exact ⟨(World.cell?_of_block (a := a.add (k * 3)) hb).trans t0, (World.cell?_of_block (a := ⟨(a.add (k * 3)).block, (a.add (k * 3)).off + 1, none⟩) hb).trans t1, (World.cell?_of_block (a := ⟨(a.add (k * 3)).block, (a.add (k * 3)).off + 2, none⟩) hb).trans t2⟩
   have hsw := G7.out.size
   have hbd : Below w.heap.size w wr.drew := G7.out.trans (below_drew (Below.refl _ _))
   have HV := hidden (HIH.out wr.drew t al2 cp2 (.slice fo F.length fc) (.slice to (intsV T).length tc) (by have h9 := HSZ.out; omega) (by have h9 := HL1.out; omega) htm hv (HI.out.keep (fun g hg => hbd.block g (HI.out.own g hg).2)) (by rw [intsV_len]; exact TI.out.keep (fun g hg => hbd.block g (TI.out.own g hg).2)) ((hr2.keep (fun g hg _ => hbd.block g hg)).mono (fun g hg _ => Nat.lt_of_lt_of_le hg hsw)))
   have HTB : Hid (Bd t) := hv
   rw [HL.out] at HV
   obtain ⟨vo, vc, rfl⟩ := G2.out.slice
   clear hr2 hv ht htz htm t0 t1 t2
   go_upto_region 10 with fail
   have f2 := G13.out.cells.2.2.1
   obtain ⟨t0, t1, t2⟩ := HCL.out wr G7.out
   refine region_till (S := (fun w' => w'.cell? ⟨b + 2, 2, none⟩ = some (.slice vo Dl.length vc) ∧ w'.cell? ⟨b, 2, none⟩ = some (.slice (some a) n c) ∧ w'.cell? (a.add (k * 3)) = some (.int .i64 t.V) ∧ w'.cell? ⟨(a.add (k * 3)).block, (a.add (k * 3)).off + 1, none⟩ = some (.string ⟨t.S.toArray⟩) ∧ w'.cell? ⟨(a.add (k * 3)).block, (a.add (k * 3)).off + 2, none⟩ = some (.slice al2 t.L.length cp2))) (kz := 13) (by kernel_rfl) ⟨f2, b2, t0, t1, t2⟩ (fun hHeld => ?_)
   refine AnyTill.tk (i := 0) (v := ?_) hHeld ?_ ?_
   rotate_left
   ·(intro w hSw; (try dsimp only at hSw); go_simp; (try with_reducible rfl))
   (try simp only [Act.put, q4, q5, q6, q1, q2, q3])
   refine AnyTill.tk (i := 1) (v := ?_) hHeld ?_ ?_
   rotate_left
   ·(intro w hSw; (try dsimp only at hSw); go_simp; (try with_reducible rfl))
   (try simp only [Act.put, q4, q5, q6, q1, q2, q3])
   refine AnyTill.tk (i := 2) (v := ?_) hHeld ?_ ?_
   rotate_left
   ·(intro w hSw; (try dsimp only at hSw); go_simp; (try with_reducible rfl))
   (try simp only [Act.put, q4, q5, q6, q1, q2, q3])
   refine AnyTill.tk (i := 3) (v := ?_) hHeld ?_ ?_
   rotate_left
   ·(intro w hSw; (try dsimp only at hSw); go_simp; (try with_reducible rfl))
   (try simp only [Act.put, q4, q5, q6, q1, q2, q3])
   refine AnyTill.tk (i := 4) (v := ?_) hHeld ?_ ?_
   rotate_left
   ·(intro w hSw; (try dsimp only at hSw); go_simp; (try with_reducible rfl))
   (try simp only [Act.put, q4, q5, q6, q1, q2, q3])
   refine AnyTill.tk (i := 5) (v := ?_) hHeld ?_ ?_
   rotate_left
   ·(intro w hSw; (try dsimp only at hSw); go_simp; (try with_reducible rfl))
   (try simp only [Act.put, q4, q5, q6, q1, q2, q3])
   refine AnyTill.tk (i := 6) (v := ?_) hHeld ?_ ?_
   rotate_left
   ·(intro w hSw; (try dsimp only at hSw); go_simp; (try with_reducible rfl))
   (try simp only [Act.put, q4, q5, q6, q1, q2, q3])
   refine AnyTill.tk (i := 7) (v := ?_) hHeld ?_ ?_
   rotate_left
   ·(intro w hSw; (try dsimp only at hSw); go_simp; (try with_reducible rfl))
   (try simp only [Act.put, q4, q5, q6, q1, q2, q3])
   refine AnyTill.tk (i := 8) (v := ?_) hHeld ?_ ?_
   rotate_left
   ·(intro w hSw; (try dsimp only at hSw); go_simp; (try with_reducible rfl))
   (try simp only [Act.put, q4, q5, q6, q1, q2, q3])
   refine AnyTill.one (i := 9) (by kernel_rfl) rfl (fun K9 hK9 => ?_)
   (try simp only [q1, q2, q3])
   go_simp
   refine HV.out.mono ?_
   rintro e w3 ⟨al3, cp3, y, hy, rfl, j4, j7, j8⟩
   clear f2 b2 t0 t1 t2
   have hz3 : wr.heap.size ≤ w3.heap.size := j7.size
   have hk3 : ∀ g, g < wr.heap.size → w3.heap[g]? = wr.heap[g]? := fun g hg => j7.block g hg
   have F3 : Hid (B3 w3 (b + 2) 0 ⟨S.toArray⟩ (.slice vo Dl.length vc)) := G13.out.keep (hk3 _ G13.out.lt)
   have C3 : Hid (B3 w3 (b + 1) 0 ⟨#[]⟩ (.slice none 0 0)) := G12.out.keep (hk3 _ G12.out.lt)
   have P3 : Hid (B3 w3 b 0 ⟨S.toArray⟩ (.slice (some a) n c)) := G11.out.keep (hk3 _ G11.out.lt)
   have W3 : Hid (TW10 w3 (b + 2 + 1) (.slice vo Dl.length vc) Dl) := G2.out.keep (fun g hg hl => hk3 g hl)
   have L3 : Hid (Below w.heap.size w w3) := hbd.trans (j7.mono hsw)
   have HY := hidden hy
   have hv8 := j8
   have hne : ∀ g, (Value.slice vo Dl.length vc).ownBlock = some g → b + 2 + 1 ≤ g ∧ g < wr.heap.size := fun g hg => G2.out.1.lt g hg
   have HNE := hidden hne
   have Y3 : Hid (RT (fun g => b + 2 + 1 ≤ g ∧ (Value.slice vo Dl.length vc).ownBlock ≠ some g) w3 y.L al3) := j4.mono (fun g hg _ => by
    have h9 : wr.heap.size ≤ g := hg
    refine ⟨by omega, fun e => ?_⟩
    have h8 := hne g e
    omega)
   have f2 := F3.out.cells.2.2.1
   have b2 := P3.out.cells.2.2.1
   obtain ⟨t0, t1, t2⟩ := HCL.out _ L3.out
   refine hK9.out _ _ (fun _ => ⟨f2, b2, t0, t1, t2⟩) ?_
   clear hK9 K9
   (try simp only [Act.put, q4, q5, q6, q1, q2, q3])
   clear f2 b2 t0 t1 t2
   clear j4 j7 j8 hne hy hk3
   refine AnyTill.one (i := 10) (by kernel_rfl) rfl (fun K9 hK9 => ?_)
   (try simp only [q1, q2, q3])
   go_simp
   have F4 := hidden (F3.out.alloc (.cells #[.int .i64 y.V, .string ⟨y.S.toArray⟩, .slice al3 y.L.length cp3] 24))
   have C4 := hidden (C3.out.alloc (.cells #[.int .i64 y.V, .string ⟨y.S.toArray⟩, .slice al3 y.L.length cp3] 24))
   have P4 := hidden (P3.out.alloc (.cells #[.int .i64 y.V, .string ⟨y.S.toArray⟩, .slice al3 y.L.length cp3] 24))
   have W4 := hidden (W3.out.alloc (.cells #[.int .i64 y.V, .string ⟨y.S.toArray⟩, .slice al3 y.L.length cp3] 24))
   have L4 := hidden (L3.out.alloc (by omega) (.cells #[.int .i64 y.V, .string ⟨y.S.toArray⟩, .slice al3 y.L.length cp3] 24))
   have S4 := hidden (nblk_alloc w3 (.cells #[.int .i64 y.V, .string ⟨y.S.toArray⟩, .slice al3 y.L.length cp3] 24))
   have B4 := hidden (B3.new w3 y.V ⟨y.S.toArray⟩ (.slice al3 y.L.length cp3))
   have Y4 := hidden (Y3.out.alloc (.cells #[.int .i64 y.V, .string ⟨y.S.toArray⟩, .slice al3 y.L.length cp3] 24))
   generalize w3.alloc (.cells #[.int .i64 y.V, .string ⟨y.S.toArray⟩, .slice al3 y.L.length cp3] 24) = w7 at *
   have f2 := F4.out.cells.2.2.1
   have b2 := P4.out.cells.2.2.1
   obtain ⟨t0, t1, t2⟩ := HCL.out _ L4.out
   refine hK9.out _ _ (fun _ => ⟨f2, b2, t0, t1, t2⟩) ?_
   clear hK9 K9
   (try simp only [Act.put, q4, q5, q6, q1, q2, q3])
   clear f2 b2 t0 t1 t2
   refine AnyTill.one (i := 11) (by kernel_rfl) rfl (fun K9 hK9 => ?_)
   (try simp only [q1, q2, q3])
   have hD9 : Dl.length < 1000000 := by have h9 := HDK.out; omega
   have hB9 : b + 2 + 1 ≤ w7.heap.size := by have h9 := S4.out; omega
   refine step_type (w := w7) (a := ⟨_, _⟩) ?_ (.tmp 46) (.tmp 55) ?_ (b + 2 + 1) (.slice vo Dl.length vc) Dl ?_ W4.out w3.heap.size 1 ⟨y, al3, cp3⟩ (0, 0) ?_ B4.out Y4.out hv8 hD9 hB9 ?_
   ·rfl
   ·rfl
   ·rfl
   ·rfl
   intro g cap w8 hrow hgr hog
   have W5 := hidden hrow
   have hne := HNE.out
   have hb0 := HB.out
   have hkp : ∀ g, g < w7.heap.size → (Value.slice vo Dl.length vc).ownBlock ≠ some g → w8.heap[g]? = w7.heap[g]? := fun g hg hn => hgr.block g hg (fun e => hn e.symm)
   have F5 : Hid (B3 w8 (b + 2) 0 ⟨S.toArray⟩ (.slice vo Dl.length vc)) := F4.out.keep (hkp _ F4.out.lt (fun e => by have h9 := hne _ e; omega))
   have C5 : Hid (B3 w8 (b + 1) 0 ⟨#[]⟩ (.slice none 0 0)) := C4.out.keep (hkp _ C4.out.lt (fun e => by have h9 := hne _ e; omega))
   have P5 : Hid (B3 w8 b 0 ⟨S.toArray⟩ (.slice (some a) n c)) := P4.out.keep (hkp _ P4.out.lt (fun e => by have h9 := hne _ e; omega))
   have h4s := L4.out.size
   have L5 : Hid (Below w.heap.size w w8) := ⟨hgr.os.trans L4.out.os, hgr.tape.trans L4.out.tape, hgr.output.trans L4.out.output, Nat.le_trans L4.out.size hgr.size, fun k hk => (hkp k (by omega) (fun e => by have h9 := hne k e; omega)).trans (L4.out.block k hk)⟩
   have f2 := F5.out.cells.2.2.1
   have b2 := P5.out.cells.2.2.1
   obtain ⟨t0, t1, t2⟩ := HCL.out _ L5.out
   refine hK9.out _ _ (fun _ => ⟨f2, b2, t0, t1, t2⟩) ?_
   clear hK9 K9
   (try simp only [Act.put, q4, q5, q6, q1, q2, q3])
   clear f2 b2 t0 t1 t2
   clear hrow hgr hog hne hkp hb0 h4s
   refine AnyTill.one (i := 12) (by kernel_rfl) rfl (fun K9 hK9 => ?_)
   (try simp only [q1, q2, q3])
   go_simp
   have f2 := F5.out.cells.2.2.1
   have b2 := P5.out.cells.2.2.1
   obtain ⟨t0, t1, t2⟩ := HCL.out _ L5.out
   refine hK9.out _ _ (fun _ => ⟨f2, b2, t0, t1, t2⟩) ?_
   clear hK9 K9
   (try simp only [Act.put, q4, q5, q6, q1, q2, q3])
   clear f2 b2 t0 t1 t2
   have f5 := F5.out.cells.2.2.1
   have ff := F5.out.cells.2.2.2 2
   refine AnyTill.one (i := 13) (by kernel_rfl) rfl (fun K9 hK9 => ?_)
   (try simp only [q1, q2, q3])
   go_simp
   refine hK9.out _ _ (fun h => absurd rfl h) ?_
   clear hK9 K9
   (try simp only [Act.put, q4, q5, q6, q1, q2, q3])
   refine AnyTill.done (by kernel_rfl) ?_ _
   (try simp only [Act.put, q4, q5, q6, q1, q2, q3])
   clear f5 ff
   have hk6 : ∀ g', g' ≠ b + 2 → (w8.setCell ⟨b + 2, 2, none⟩ (.slice (some ⟨g, 0, none⟩) (Dl.length + 1) cap)).heap[g']? = w8.heap[g']? := fun g' hg => blk_setCell_other _ _ _ _ hg
   have F6 := hidden (F5.out.set2 (.slice (some ⟨g, 0, none⟩) (Dl.length + 1) cap))
   have C6 : Hid (B3 (w8.setCell ⟨b + 2, 2, none⟩ (.slice (some ⟨g, 0, none⟩) (Dl.length + 1) cap)) (b + 1) 0 ⟨#[]⟩ (.slice none 0 0)) := C5.out.keep (hk6 _ (by omega))
   have P6 : Hid (B3 (w8.setCell ⟨b + 2, 2, none⟩ (.slice (some ⟨g, 0, none⟩) (Dl.length + 1) cap)) b 0 ⟨S.toArray⟩ (.slice (some a) n c)) := P5.out.keep (hk6 _ (by omega))
   have W6 : Hid (TW10 (w8.setCell ⟨b + 2, 2, none⟩ (.slice (some ⟨g, 0, none⟩) (Dl.length + 1) cap)) (b + 2 + 1) (.slice (some ⟨g, 0, none⟩) (Dl.length + 1) cap) (Dl ++ [⟨y, al3, cp3⟩])) := W5.out.keep (fun g' hg _ => hk6 g' (by omega))
   have L6 : Hid (Below w.heap.size w (w8.setCell ⟨b + 2, 2, none⟩ (.slice (some ⟨g, 0, none⟩) (Dl.length + 1) cap))) := below_set L5.out (by have h9 := HB.out; omega) _ _
   generalize w8.setCell ⟨b + 2, 2, none⟩ (.slice (some ⟨g, 0, none⟩) (Dl.length + 1) cap) = w9 at *
   clear hk6
   go_wp2_with fail
   go_roundw
   case rel =>
    refine ⟨k + 1, Dl ++ [⟨y, al3, cp3⟩], .slice (some ⟨g, 0, none⟩) (Dl.length + 1) cap, by rw [HZL.out]; omega, by go_num, by rw [List.length_append, HDK.out]; rfl, W6.out, ?_, L6.out, P6.out, C6.out, F6.out⟩
    rw [HTK.out, apL_app, List.map_append, List.map_append, G4.out]
    show _ ++ [y] = _
    rw [HY.out, apL, apL]
    rfl
   case measure => simp [intOf]; omega
  ·have z1 : ¬ (k : Int) < (n : Int) := by omega
   have hkn : k = n := by omega
   obtain ⟨vo, vc, rfl⟩ := G2.out.slice
   obtain ⟨c0, c1, c2, cf⟩ := G12.out.cells
   obtain ⟨f0, f1, f2, ff⟩ := G13.out.cells
   have HKN := hidden hkn
   clear hkn
   go_wp2_with fail
   refine bodyPost_ret (results_cell_row rfl _ _ (b + 1) 24 #[.int .i64 0, .string ⟨S.toArray⟩, .slice vo Dl.length vc] (0, 0) _ rfl (G12.out.fill 0 ⟨S.toArray⟩ (.slice vo Dl.length vc)) Tryd.underlying24 rfl (by kernel_rfl)) rfl ?_
   have eZ : Z.take k = Z := List.take_of_length_le (by rw [HZL.out]; have h9 := HKN.out; omega)
   obtain ⟨hrt, _⟩ := G2.out.rt
   have e4 := G4.out
   rw [eZ] at e4
   rw [e4] at hrt
   have hln : ((apL (fun n => .v (rn F T n)) Z).map Ty.rw).length = Dl.length := by rw [← e4, List.length_map]
   have h9 : w.heap.size ≤ b + 1 := by have h8 := HB.out; omega
   refine ⟨vo, vc, .mk 0 S ((apL (fun n => .v (rn F T n)) Z).map Ty.rw), ?_, ?_, ?_, below_set (below_set (below_set G7.out h9 0 _) h9 1 _) h9 2 _, ?_⟩
   ·rw [Ty.ap, Ty.rw, rwL_map]
   ·show Ending.returned (.agg #[.int .i64 0, .string ⟨S.toArray⟩, .slice vo Dl.length vc]) = .returned (.agg #[.int .i64 0, .string ⟨S.toArray⟩, .slice vo ((apL (fun n => .v (rn F T n)) Z).map Ty.rw).length vc])
    rw [hln]
   ·exact (hrt.keep (fun g hg _ => fill3_blk wr (by have h7 : b + 2 + 1 ≤ g := hg; omega) _ _ _)).mono (fun g hg _ => by have h8 := HB.out; have h7 : b + 2 + 1 ≤ g := hg; show w.heap.size ≤ g; omega)
   ·exact ⟨by show (-9223372036854775808 : Int) ≤ 0; omega, by show (0 : Int) ≤ 9223372036854775807; omega, HSL.out⟩
theorem rren_all {F T : List Nat} (hT : T.length = F.length) (hF : F.Nodup) (hTb : ∀ n ∈ T, n ≤ 9223372036854775807) (hl : F.length ≤ 1000000) : ∀ s : Nat, RRFor F T s
 | 0 => fun w x ao c fv tv hx => by have := sz_L x; omega
 | s + 1 => fun w x ao c fv tv hx hx2 hm hb hf ht hrt => by
  obtain ⟨V, S, L⟩ := x
  rcases may_parts hm with ⟨h1, h2, h3⟩ | ⟨h1, h2, h3⟩
  ·subst h2 h3
   rw [Rw.ty, if_pos h1]
   exact rren_var F T hT hF hTb w V ao c fv tv h1 hb.2.1 hl hf ht
  ·subst h1
   have hs : 1 + szRL L ≤ s + 1 := by rw [Rw.sz] at hx; exact hx
   rw [Rw.sz] at hx2
   rw [Rw.ty, if_neg (show ¬ (0 : Int) < 0 by omega)]
   exact rren_name F T hT (rren_all hT hF hTb hl s) w S L ao c fv tv (by omega) (by omega) hb.2.2 h3 hl hf ht hrt
end Go.Proofs.YtnebhiaeechpaaaDoor
