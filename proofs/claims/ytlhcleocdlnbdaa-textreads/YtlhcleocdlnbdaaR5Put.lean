/-
  Layer 5: what the document's own Put tells and makes. Condition: the document's own arena lies in memory.
-/
import Derived.Test.YtlhcleocdlnbdaaR5Sets
namespace Go.Proofs.Ytlhcleocdlnbdaa
open Go.ChangeShapes Go.WideShapes Go.ChangeAt Go.RowKit Go.Deep
set_option linter.unusedVariables false
set_option maxHeartbeats 1000000

variable {w : World} {p : Pl} {s : St} {rb : Nat} {r : RS} {a : Option Addr} {cap : Nat} {V : Nat → Value}
theorem rput_addr (x i : Int) (c : UInt8) (w : World) (h : Both w p s rb r a cap V) (h0 : 0 ≤ x) (h1 : x ≤ 18446744073709551615) (g : (s.find x).1 = 0 ∨ 0 < (s.find x).2) :
    Calls Try.prog 21 #[.pointer (some ⟨rb, 0, none⟩), .int .u64 x, .int .i64 i, u8v c] w fun e w' => e = .returned (.int .i64 6) ∧ ∃ m, w' = w.drewN m := by
  have HG := hidden g
  clear g
  unfold u8v
  go_enter Try.func21, Try.ntmps21
  go_wp2_with (go_at_call 19; refine (rbyte_addr x i _ h h0 h1 HG.out).mono ?_; rintro e w' ⟨rfl, m, rfl⟩)
  all_goals go_ret
  all_goals exact ⟨rfl, _, rfl⟩
theorem rput_no (x i : Int) (c : UInt8) (k : Nat) (b : Blk) (w : World) (h : Both w p s rb r a cap V) (h0 : 0 ≤ x) (h1 : x ≤ 18446744073709551615) (hk : r.L[k]? = some b) (g : (s.find x).1 = b.ad) (g2 : (s.find x).2 = 0) (hno : (byteOut (textF b) i).2 ≠ 0) :
    Calls Try.prog 21 #[.pointer (some ⟨rb, 0, none⟩), .int .u64 x, .int .i64 i, u8v c] w fun e w' => e = .returned (.int .i64 (byteOut (textF b) i).2) ∧ Below w.heap.size w w' := by
  have HR := hidden (rbyte_blk x i k b w h h0 h1 hk g g2)
  clear h hk g g2
  generalize textF b = o at *
  generalize hbo : byteOut o i = bo at *
  obtain ⟨b1, b2⟩ := bo
  have HBO := hidden hbo
  clear hbo
  have hno2 : (b2 == 0) = false := beq_eq_false_iff_ne.2 hno
  unfold u8v
  go_enter Try.func21, Try.ntmps21
  go_wp2_with (go_at_call 19; refine HR.out.mono ?_; rintro e w' ⟨rfl, hb⟩; rw [HBO.out]; have HB := hidden hb; clear hb)
  all_goals go_ret
  all_goals exact ⟨rfl, HB.out⟩
theorem br_set {w : World} {B g n cp : Nat} {l : List UInt8} (h : BR w B (.slice (some ⟨g, 0, none⟩) n cp) l) (i : Nat) (c : UInt8) : BR (w.setCell ⟨g, i, none⟩ (u8v c)) B (.slice (some ⟨g, 0, none⟩) n cp) (l.set i c) := by
  obtain ⟨g', cap', cur, fz, e, hb, hg, hf, hc, hm, hs, ht⟩ := h
  simp only [Value.slice.injEq, Option.some.injEq, Addr.mk.injEq, and_true] at e
  obtain ⟨rfl, rfl, rfl⟩ := e
  refine ⟨g, cp, cur.setIfInBounds i (u8v c), fz, by rw [List.length_set], hb, by simp [World.setCell, Array.getElem?_modify, hg], by simpa using hf, by rw [List.length_set]; exact hc, hm, by simpa using hs, ?_⟩
  rw [List.length_set, Array.toList_setIfInBounds, List.take_set, ht, List.map_set]
/-- Where the loop over the fields is: j of them are set. -/
def SetTill (w0 : World) (rb : Nat) (r : RS) (k : Nat) (b : Blk) (a : Option Addr) (cap : Nat) (V0 : Nat → Value) (f F : List Int) (g5 : Nat) (kv : Value) (wr : World) : Prop :=
  ∃ j : Nat, j ≤ F.length ∧ kv = .int .i64 j ∧ Setting w0 rb r k b a cap V0 (mixG f F j) wr ∧ Own wr g5 F.length (fun i => f.getD i 0)
set_option maxRecDepth 100000 in
theorem rput_yes (x i : Int) (c : UInt8) (k : Nat) (b : Blk) (l : List UInt8) (w : World) (h : Rf w rb r a cap V) (hg : Good s r) (h4 : 4 ≤ rb) (h0 : 0 ≤ x) (h1 : x ≤ 18446744073709551615) (hk : r.L[k]? = some b) (hx : (b.ad : Int) = addrW x) (ht : textF b = some l) (i0 : 0 ≤ i) (i1 : i < l.length) :
    Calls Try.prog 21 #[.pointer (some ⟨rb, 0, none⟩), .int .u64 x, .int .i64 i, u8v c] w fun e w' => e = .returned (.int .i64 0) ∧ Setting w rb r k b a cap V (fieldsT (l.set i.toNat c)) w' := by
  have hkl := (List.getElem?_eq_some_iff.1 hk).1
  have hfind := hg.rep.find_blk' hk hx
  have hbo := good_both h hg h4
  have hF : fieldsT l = b.F := by
    unfold textF at ht
    split at ht
    · exact read_some ht
    · cases ht
  have hFl : (b.F.length : Nat) = l.length / 8 + 1 := by rw [← hF, fieldsT_len]
  have hlb : l.length ≤ 40000 := by have := (hbo.blk hk).2; omega
  have hBO : byteOut (some l) i = (((l.getD i.toNat 0).toNat : Int), (0 : Int)) := by unfold byteOut; simp only; rw [if_pos ⟨i0, i1⟩]
  have HBY := hidden (fun w' (hb : Below w.heap.size w w') => rbyte_blk x i k b w' (good_both (h.frame (Only.of_below (S := fun _ => False) hb) (fun _ _ => id)) hg h4) h0 h1 hk (by rw [hfind]) (by rw [hfind]))
  have HRD := hidden (fun w' (hb : Below w.heap.size w w') => rread_blk x k b w' (good_both (h.frame (Only.of_below (S := fun _ => False) hb) (fun _ _ => id)) hg h4) h0 h1 hk (by rw [hfind]) (by rw [hfind]))
  have HST := hidden (Setting.start h hg hk)
  have HRO : Hid (∀ q, Rown rb a q → q < w.heap.size) := fun q hq => rf_rown h hq
  have HHX := hidden hx
  have HFL := hidden hFl
  clear hfind hbo h hg hk hx hFl hF
  rw [ht] at HBY HRD
  clear ht
  unfold u8v
  go_enter Try.func21, Try.ntmps21
  go_upto_region 5 with (first
    | (go_at_call 19; refine (HBY.out _ (Below.refl _ _)).mono ?_; rintro e w1 ⟨rfl, hb1⟩; rw [hBO]; have HB1 := hidden hb1; clear hb1)
    | (go_at_call 17; refine (HRD.out _ HB1.out).mono ?_; rintro e w2 ⟨rfl, hb2⟩; have HB2 : Hid (Below w.heap.size w w2) := HB1.out.trans (hb2.mono HB1.out.size); clear hb2; unfold textOut))
  obtain ⟨cb, C, fz, hcv, hbr⟩ := run_bytes ⟨l.toArray⟩ (by show l.length ≤ maxLen; unfold maxLen; omega) w2
  have hcv2 : Sem.run Try.prog (convert 9 55 (.string ⟨l.toArray⟩)) w2 = .ok (.slice (some ⟨w2.heap.size, 0, none⟩) l.length cb) (w2.alloc (.cells C 5 fz)).drew := hcv
  have HBR : Hid (BR (w2.alloc (.cells C 5 fz)).drew w2.heap.size (.slice (some ⟨w2.heap.size, 0, none⟩) l.length cb) l) := hbr w2.heap.size (Nat.le_refl _)
  have HB3 : Hid (Below w.heap.size w (w2.alloc (.cells C 5 fz)).drew) := (HB2.out.alloc HB2.out.size _).drew
  have HSZ := hidden HB2.out.size
  clear hbr hcv
  go_upto_region 6 with (fail)
  clear hcv2
  generalize (w2.alloc (.cells C 5 fz)).drew = w3 at *
  generalize w2.heap.size = gb at *
  obtain ⟨g', cp', e', hcell, hfr, hcc, _, hgl⟩ := HBR.out.slice
  simp only [Value.slice.injEq, Option.some.injEq, Addr.mk.injEq, and_true, true_and] at e'
  obtain ⟨rfl, rfl⟩ := e'
  have hil : i.toNat < l.length := by omega
  have hci := hcell i.toNat hil
  have hfi := hfr i.toNat hil
  have HS := hidden (br_set HBR.out i.toNat c)
  have HB4 := hidden (HB3.out.setCell (p := ⟨gb, i.toNat, none⟩) HSZ.out (u8v c))
  have hcv : Sem.run Try.prog (convert 55 9 (.slice (some ⟨gb, 0, none⟩) l.length cb)) (w3.setCell ⟨gb, i.toNat, none⟩ (.int .u8 c.toNat)) = .ok (.string ⟨(l.set i.toNat c).toArray⟩) (w3.setCell ⟨gb, i.toNat, none⟩ (.int .u8 c.toNat)) := by
    obtain ⟨g', cp', e', hcell, _⟩ := HS.out.slice
    rw [List.length_set] at e'
    simp only [Value.slice.injEq, Option.some.injEq, Addr.mk.injEq, and_true, true_and] at e'
    obtain ⟨rfl, rfl⟩ := e'
    have := run_string (c := cb) (l.set i.toNat c) hcell
    rw [List.length_set] at this
    exact this
  have HLL : Hid ((l.set i.toNat c).length = l.length) := List.length_set
  clear hcell hfr hcc
  unfold u8v at hci HB4
  go_wp2_with (go_at_call 32; refine (rfields_list (l.set i.toNat c) b.F.length _ (by rw [HLL.out]; exact hlb) (by rw [HLL.out]; exact HFL.out.symm)).mono ?_; rintro e w5 ⟨g5, c5, rfl, ho5, hg5, hb5⟩; have O5 := hidden ho5; have B5 : Hid (Below w.heap.size w w5) := HB4.out.trans (hb5.mono HB4.out.size); have HG5 : Hid (w.heap.size ≤ g5) := Nat.le_trans HB4.out.size hg5; clear ho5 hg5 hb5)
  have HST5 := hidden (HST.out.below B5.out)
  have HfL : Hid ((fieldsT (l.set i.toNat c)).length = b.F.length) := by show _ = _; rw [fieldsT_len, HLL.out]; exact HFL.out.symm
  have HfR : Hid (∀ y, y ∈ fieldsT (l.set i.toNat c) → R64 y) := fun y hy => fieldsT_rng _ y hy
  have HNR : Hid (¬ Rown rb a g5) := fun hq => by have := HRO.out g5 hq; have := HG5.out; omega
  have hbF : b.F.length ≤ 40000 := by have := HFL.out; omega
  clear HST HBR HS HB4 HB3 hcv hci hfi
  generalize hf : fieldsT (l.set i.toNat c) = f at *
  have HFE := hidden hf
  clear hf
  go_loopw [15] (fun kv wr => SetTill w rb r k b a cap V f b.F g5 kv wr) (fun kv _ => b.F.length - (intOf kv).toNat)
  case atStart => exact ⟨0, Nat.zero_le _, rfl, by rw [mixG_zero]; exact HST5.out, O5.out⟩
  case round =>
    clear HST5 O5 B5
    obtain ⟨j, hj, rfl, hst, ho⟩ := hrel
    have HS := hidden hst
    have HO := hidden ho
    clear hst
    by_cases hlt : j < b.F.length
    · have hc := ho.cell hlt
      clear ho
      have hv : R64 (f.getD j 0) := by
        have hl2 := HfL.out
        rw [List.getD_eq_getElem?_getD, List.getElem?_eq_getElem (by omega)]
        exact HfR.out _ (List.getElem_mem _)
      have HV := hidden hv
      have HMS := hidden (mixG_set HfL.out hlt)
      have HML := hidden (mixG_len HfL.out j)
      obtain ⟨v0, v1⟩ := hv
      generalize f.getD j 0 = fv at *
      go_wp2_with (go_at_call 34; refine (rset_text HS.out h4 hkl HHX.out h0 h1 (by rw [HML.out]; exact hlt) HV.out).mono ?_; rintro e w6 ⟨rfl, hs6, on6⟩; have S6 := hidden hs6; have O6 := hidden (HO.out.frame on6 HNR.out); clear hs6 on6)
      go_roundw
      case rel => exact ⟨j + 1, by omega, by go_num, by rw [← HMS.out]; exact S6.out, O6.out⟩
      case measure => simp [intOf]; omega
    · have ej : j = b.F.length := by omega
      subst ej
      clear ho
      have HD : Hid (Setting w rb r k b a cap V f wr) := by have := HS.out; rw [mixG_all HfL.out] at this; exact this
      clear HS
      go_wp2_with fail
      go_ret
      exact ⟨rfl, by rw [HFE.out]; exact HD.out⟩
end Go.Proofs.Ytlhcleocdlnbdaa
