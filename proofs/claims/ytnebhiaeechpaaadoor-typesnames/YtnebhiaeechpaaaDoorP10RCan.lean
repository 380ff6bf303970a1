/-
 Layer 10: the document's own Canon: variables numbered as they are met, in new memory. Condition: the type may be, and lies in memory.
-/
import Derived.Test.YtnebhiaeechpaaaDoorP10RRen
namespace Go.Proofs.YtnebhiaeechpaaaDoor
open Go.ChangeShapes Go.WideShapes Go.ChangeAt Go.RowKit Go.Deep
set_option linter.unusedVariables false
set_option linter.unusedSimpArgs false
set_option maxHeartbeats 4000000
set_option maxRecDepth 20000
mutual
theorem vs_nodup : ∀ (t : Ty) (acc : List Nat), acc.Nodup → (t.vs acc).Nodup
 | .v n, acc, h => by
  rw [Ty.vs]
  unfold addV
  split
  ·exact h
  ·next hn => exact List.nodup_append.2 ⟨h, by simp, fun a ha b hb e => hn (by rw [List.mem_singleton.1 hb] at e; exact e ▸ ha)⟩
 | .c s l, acc, h => by
  rw [Ty.vs]
  exact vsL_nodup l acc h
theorem vsL_nodup : ∀ (l : List Ty) (acc : List Nat), acc.Nodup → (vsL l acc).Nodup
 | [], acc, h => by rw [vsL]; exact h
 | t :: l, acc, h => by rw [vsL]; exact vsL_nodup l _ (vs_nodup t acc h)
end
theorem IW.lower {w : World} {B : Nat} {v : Value} {l : List Int} (h : IW w B v l) : IW w 0 v l := by
 refine ⟨h.1, ?_⟩
 rcases h.2 with c | ⟨g, cap, cur, e, hb, rest⟩
 ·exact Or.inl c
 ·exact Or.inr ⟨g, cap, cur, e, Nat.zero_le _, rest⟩
def InRc (x : Rw) (sl fv : Value) (w : World) (b4 : Nat) (tv iv : Value) (wr : World) : Prop := ∃ k : Nat, k ≤ (x.ty.vs []).length ∧ iv = .int .i64 (k : Int) ∧ IW wr b4 tv (intsV ((List.range k).map (fun i => i + 1))) ∧ IW wr w.heap.size fv (intsV (x.ty.vs [])) ∧ B3 wr w.heap.size x.V ⟨x.S.toArray⟩ sl ∧ B3 wr (w.heap.size + 1) 0 ⟨#[]⟩ (.slice none 0 0) ∧ Below w.heap.size w wr ∧ b4 < wr.heap.size ∧ (∀ g, fv.ownBlock = some g → g < b4)
theorem ints_new (w : World) : IW (w.alloc (.cells #[] 3)) w.heap.size (.slice (some ⟨w.heap.size, 0, none⟩) 0 0) [] := by
 have hg := blk_alloc_new w (.cells #[] 3)
 exact ⟨rfl, Or.inr ⟨w.heap.size, 0, #[], rfl, Nat.le_refl _, hg, by simp⟩⟩
theorem vs_len9 (x : Rw) (hm : x.may = true) (hx : x.sz ≤ 1000000) : (x.ty.vs []).length ≤ 1000000 := by
 have h9 := x.ty.vs_len []
 rw [x.sz_ty hm] at h9
 simpa using Nat.le_trans h9 (by simpa using hx)
theorem rcan_any (w : World) (x : Rw) (ao : Option Addr) (c : Nat) (hx : x.sz ≤ 1000000) (hm : x.may = true) (hb : Bd x) (hrt : RT (fun g => g < w.heap.size) w x.L ao) : Calls Tryd.prog 21 #[.agg #[.int .i64 x.V, .string ⟨x.S.toArray⟩, .slice ao x.L.length c]] w fun e w' => ∃ (al : Option Addr) (cp : Nat) (z : Rw), z = (canT x.ty).rw ∧ e = .returned (.agg #[.int .i64 z.V, .string ⟨z.S.toArray⟩, .slice al z.L.length cp]) ∧ RT (fun g => w.heap.size ≤ g) w' z.L al ∧ Below w.heap.size w w' ∧ Bd z := by
 go_enter Tryd.func21, Tryd.ntmps21
 go_upto_region 1 with fail
 have RV := hidden (rvars_all x.sz w.heap.size [] ((w.alloc (.cells #[.int .i64 x.V, .string ⟨x.S.toArray⟩, .slice ao x.L.length c] 24)).alloc (.cells #[.int .i64 0, .string ⟨#[]⟩, .slice none 0 0] 24)) x (.slice none 0 0) ao c (Nat.le_refl _) hm hb.2.1 (by simpa using hx) (by rw [nblk_alloc, nblk_alloc]; omega) (IW.nil _ _) ((hrt.alloc _).alloc _))
 have HND := hidden (vs_nodup x.ty [] List.nodup_nil)
 go_wp2_with fail
 refine RV.out.mono ?_
 rintro e w3 ⟨v3, rfl, q1, q2, q3⟩
 obtain ⟨vo, vc, rfl⟩ := q1.slice
 have HV := hidden (intsV_len (x.ty.vs []))
 have hvl := vs_len9 x hm hx
 have HVL := hidden hvl
 clear hvl
 have DW : Below w.heap.size w w3 := by
  have h9 : Below w.heap.size w ((w.alloc (.cells #[.int .i64 x.V, .string ⟨x.S.toArray⟩, .slice ao x.L.length c] 24)).alloc (.cells #[.int .i64 0, .string ⟨#[]⟩, .slice none 0 0] 24)) := ((Below.refl w.heap.size w).alloc (Nat.le_refl _) _).alloc (by rw [nblk_alloc]; omega) _
  refine h9.trans ⟨q2.os, q2.tape, q2.output, q2.size, fun k hk => q2.block k (by rw [nblk_alloc, nblk_alloc]; omega) (fun e => by cases e)⟩
 have A0 : Hid (B3 w3 (w.heap.size + 1) 0 ⟨#[]⟩ (.slice none 0 0)) := by
  show B3 _ _ _ _ _
  have h9 := B3.new (w.alloc (.cells #[.int .i64 x.V, .string ⟨x.S.toArray⟩, .slice ao x.L.length c] 24)) 0 ⟨#[]⟩ (.slice none 0 0)
  rw [nblk_alloc] at h9
  exact h9.keep (q2.block _ (by rw [nblk_alloc, nblk_alloc]; omega) (fun e => by cases e))
 have XA : Hid (B3 w3 w.heap.size x.V ⟨x.S.toArray⟩ (.slice ao x.L.length c)) := ((B3.new w x.V ⟨x.S.toArray⟩ (.slice ao x.L.length c)).alloc _).keep (q2.block _ (by rw [nblk_alloc, nblk_alloc]; omega) (fun e => by cases e))
 have I3 := hidden (q1.alloc (.cells #[] 3))
 have T3 := hidden (ints_new w3)
 have D3 := hidden (DW.alloc DW.size (.cells #[] 3))
 have A3 := hidden (A0.out.alloc (.cells #[] 3))
 have X3 := hidden (XA.out.alloc (.cells #[] 3))
 have S3 := hidden (nblk_alloc w3 (.cells #[] 3))
 have HQ : Hid (∀ g, (Value.slice vo (intsV (x.ty.vs [])).length vc).ownBlock = some g → w.heap.size ≤ g ∧ g < w3.heap.size) := q1.own
 have h3 : w.heap.size + 1 < w3.heap.size := A0.out.lt
 clear q1 q2 q3 DW A0 XA RV
 go_upto_region 3 with fail
 generalize w3.alloc (.cells #[] 3) = w4 at *
 obtain ⟨b4, hb4⟩ : ∃ b4, w3.heap.size = b4 := ⟨_, rfl⟩
 rw [hb4] at T3 S3 HQ h3 ⊢
 clear hb4
 have IS : Hid (InRc x (.slice ao x.L.length c) (.slice vo (intsV (x.ty.vs [])).length vc) w b4 (.slice (some ⟨b4, 0, none⟩) 0 0) (.int .i64 0) w4) := ⟨0, Nat.zero_le _, rfl, T3.out, I3.out, X3.out, A3.out, D3.out, by have h9 := S3.out; omega, fun g hg => (HQ.out g hg).2⟩
 rw [HV.out] at IS ⊢
 obtain ⟨n, hn⟩ : ∃ n, (x.ty.vs []).length = n := ⟨_, rfl⟩
 rw [hn] at IS HVL ⊢
 have HN := hidden hn
 have hn9 := HVL.out
 clear hn
 go_wp2_with fail
 go_loopw [4, 5] (fun tv iv wr => InRc x (.slice ao x.L.length c) (.slice vo n vc) w b4 tv iv wr) (fun tv iv wr => (n - intOf iv).toNat)
 case atStart => exact IS.out
 case round =>
  obtain ⟨k, k1, rfl, g1, g2, g3, g4, g5, g6, g7⟩ := hrel
  rw [HN.out] at k1
  have e1 : (intsV ((List.range k).map (fun i => i + 1))).length = k := by rw [intsV_len, List.length_map, List.length_range]
  obtain ⟨to, tc, rfl⟩ := g1.slice
  rw [e1] at g1 ⊢
  have HE1 := hidden e1
  have G1 := hidden g1
  have G2 := hidden g2
  have G3 := hidden g3
  have G4 := hidden g4
  have G5 := hidden g5
  have G6 := hidden g6
  have G7 := hidden g7
  clear e1 g1 g2 g3 g4 g5 g7
  by_cases hlt : k < n
  ·have z1 : (k : Int) < (n : Int) := by omega
   have hl9 : (intsV ((List.range k).map (fun i => i + 1))).length < 10000000000 := by rw [HE1.out]; omega
   have HR : Hid (intsV ((List.range (k + 1)).map (fun i => i + 1)) = intsV ((List.range k).map (fun i => i + 1)) ++ [((k : Int) + 1)]) := by show _ = _; rw [List.range_succ, List.map_append]; unfold intsV; rw [List.map_append]; simp
   go_wp2_with (at_builtin; refine append_int rfl (.tmp 15) (.tmp 18) rfl b4 (.slice to k tc) (intsV ((List.range k).map (fun i => i + 1))) rfl (G1.out.alloc _) wr.heap.size 1 ((k : Int) + 1) rfl (int_new _ _) hl9 (by rw [nblk_alloc]; omega) ?_; intro g6 c6 w8 hr6 gr6 or6; have I8 := hidden hr6; have R8 := hidden gr6; clear hr6 gr6 or6)
   go_roundw
   case rel =>
    have hk : ∀ g, g < b4 → w8.heap[g]? = wr.heap[g]? := fun g hg => (R8.out.block g (by rw [nblk_alloc]; omega) (fun e => by have h9 := (G1.out.own g e.symm).1; omega)).trans (blk_alloc_lt _ _ _ (by omega))
    have hs8 := R8.out.size
    rw [nblk_alloc] at hs8
    have hb4 : w.heap.size + 1 < b4 := h3
    have hw9 := G5.out.size
    refine ⟨k + 1, by rw [HN.out]; omega, by go_num, by rw [HR.out]; exact I8.out, G2.out.keep (fun g hg => hk g (G7.out g hg)), G3.out.keep (hk _ (by omega)), G4.out.keep (hk _ (by omega)), ?_, by omega, G7.out⟩
    exact ⟨R8.out.os.trans G5.out.os, R8.out.tape.trans G5.out.tape, R8.out.output.trans G5.out.output, by omega, fun g hg => (hk g (by omega)).trans (G5.out.block g hg)⟩
   case measure => simp [intOf]; omega
  ·have z1 : ¬ (k : Int) < (n : Int) := by omega
   have hkn : k = n := by omega
   have HKN := hidden hkn
   clear hkn
   obtain ⟨x0, x1, x2, xf⟩ := G3.out.cells
   clear xf
   have hw9 := G5.out.size
   have hTb : ∀ m ∈ (List.range k).map (fun i => i + 1), m ≤ 9223372036854775807 := fun m hm => by
    obtain ⟨i, hi, rfl⟩ := List.mem_map.1 hm
    have h9 := List.mem_range.1 hi
    have h8 := HVL.out
    show i + 1 ≤ _
    omega
   have RR := hidden (rren_all (F := x.ty.vs []) (T := (List.range k).map (fun i => i + 1)) (by rw [List.length_map, List.length_range, HN.out]; exact HKN.out) HND.out hTb (by rw [HN.out]; omega) x.sz wr x ao c (.slice vo n vc) (.slice to k tc) (Nat.le_refl _) hx hm hb (G2.out.keep (fun g hg => rfl) |>.lower) (G1.out.lower) ((hrt.keep (fun g hg _ => G5.out.block g hg)).mono (fun g hg _ => Nat.lt_of_lt_of_le hg hw9)))
   clear hTb
   have HCT : Hid ((canT x.ty) = x.ty.ap (fun m => .v (rn (x.ty.vs []) ((List.range k).map (fun i => i + 1)) m))) := by
    show _ = _
    unfold canT
    refine Ty.ap_congr _ (fun m hm => ?_)
    have hin : m ∈ x.ty.vs [] := (Ty.mem_vs x.ty []).2 (Or.inr hm)
    have hix := List.idxOf_lt_length_iff.2 hin
    have e8 : k = (x.ty.vs []).length := HKN.out.trans HN.out.symm
    unfold rn
    rw [if_pos hin, List.getD_eq_getElem?_getD, List.getElem?_map, List.getElem?_range (by omega)]
    rfl
   go_wp2_with fail
   refine RR.out.mono ?_
   rintro e w5 ⟨al, cp, z, hz, rfl, j1, j2, j3⟩
   have C5 : Hid (B3 w5 (w.heap.size + 1) 0 ⟨#[]⟩ (.slice none 0 0)) := G4.out.keep (j2.block _ G4.out.lt)
   obtain ⟨c0, c1, c2, cf⟩ := C5.out.cells
   have J1 := hidden j1
   have J2 := hidden j2
   have J3 := hidden j3
   have HZ := hidden hz
   clear j1 j2 j3 hz x0 x1 x2
   go_wp2_with fail
   refine bodyPost_ret (results_cell_row rfl _ _ (w.heap.size + 1) 24 #[.int .i64 z.V, .string ⟨z.S.toArray⟩, .slice al z.L.length cp] (0, 0) _ rfl (C5.out.fill z.V ⟨z.S.toArray⟩ (.slice al z.L.length cp)) Tryd.underlying24 rfl (by kernel_rfl)) rfl ?_
   have h9 : w.heap.size ≤ w.heap.size + 1 := by omega
   refine ⟨al, cp, z, by rw [HCT.out]; exact HZ.out, rfl, ?_, below_set (below_set (below_set (G5.out.trans (J2.out.mono hw9)) h9 0 _) h9 1 _) h9 2 _, J3.out⟩
   exact (J1.out.keep (fun g hg _ => fill3_blk w5 (by have h7 : wr.heap.size ≤ g := hg; omega) _ _ _)).mono (fun g hg _ => Nat.le_trans hw9 hg)
end Go.Proofs.YtnebhiaeechpaaaDoor
