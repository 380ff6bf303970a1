/-
  Layer 5: the law of parts: a text's bytes, one by one, are the text; put one by one into another text of its length they make it that one. Condition: the program's text does as the document's own (TextC, LayC).
-/
import Derived.Test.YtlhcleocdlnbdaaT5Apart
import Derived.Test.YtlhcleocdlnbdaaE5Read
namespace Go.Proofs.Ytlhcleocdlnbdaa
open Go.ChangeShapes Go.WideShapes Go.ChangeAt Go.RowKit Go.Deep
set_option linter.unusedVariables false
set_option maxHeartbeats 1000000

/-- The first i bytes of a text, then others. -/
def mixB (l : List UInt8) (c : UInt8) (i : Nat) : List UInt8 := l.take i ++ List.replicate (l.length - i) c
theorem mixB_len (l : List UInt8) (c : UInt8) {i : Nat} (h : i ≤ l.length) : (mixB l c i).length = l.length := by unfold mixB; simp; omega
theorem mixB_zero (l : List UInt8) (c : UInt8) : mixB l c 0 = List.replicate l.length c := by unfold mixB; simp
theorem mixB_all (l : List UInt8) (c : UInt8) : mixB l c l.length = l := by unfold mixB; simp
theorem mixB_set (l : List UInt8) (c : UInt8) {i : Nat} (h : i < l.length) : (mixB l c i).set i (l.getD i 0) = mixB l c (i + 1) := by
  unfold mixB
  have h1 : (l.take i).length = i := by rw [List.length_take]; omega
  have e2 : l.take (i + 1) = l.take i ++ [l[i]] := by rw [List.take_add_one, List.getElem?_eq_getElem h]; rfl
  have e3 : l.getD i 0 = l[i] := by rw [List.getD_eq_getElem?_getD, List.getElem?_eq_getElem h]; rfl
  have e4 : List.replicate (l.length - i) c = c :: List.replicate (l.length - (i + 1)) c := by
    rw [show l.length - i = (l.length - (i + 1)) + 1 from by omega, List.replicate_succ]
  rw [List.set_append_right _ _ (by omega), h1, Nat.sub_self, e2, e3, e4, List.set_cons_zero, List.append_assoc]
  rfl
/-- Where the loop over the bytes is. -/
def PartsAt (w : World) (kb : Nat) (p : Pl) (k : Int) (l : List UInt8) (c : UInt8) (W1 W2 : Int) (iv : Value) (wr : World) : Prop :=
  ∃ (i : Nat) (s : St) (r : RS), i ≤ l.length ∧ iv = .int .i64 i ∧ PI kb p wr s r k ∧ textAt s r W1 = (some l, 0) ∧ textAt s r W2 = (some (mixB l c i), 0) ∧ Below w.heap.size w wr
theorem tparts_long (hAw : AwakeC) (a : ByteArray) (c : UInt8) (w : World) (h : 300 < a.size) :
    Calls Try.prog 7 #[.string a, u8v c] w fun e w' => e = .returned (.bool true) ∧ Below w.heap.size w w' := by
  have HAW := hidden hAw
  have c2 : (300 : Int) < (a.size : Int) := by omega
  clear hAw
  unfold u8v
  go_enter Try.func7, Try.ntmps7
  go_wp2_with (go_at_call 8; refine (HAW.out _).mono ?_; rintro e w1 ⟨rfl, hb1⟩; have B1 := hidden hb1; clear hb1)
  all_goals go_ret
  all_goals exact ⟨rfl, B1.out⟩
theorem byte_get (a : ByteArray) {i : Nat} (h : i < a.size) : (bytesS a).getD i 0 = a[i] := by
  unfold bytesS
  rw [List.getD_eq_getElem?_getD, List.getElem?_eq_getElem (by rw [Array.length_toList]; exact h)]
  rfl
set_option maxRecDepth 100000 in
theorem tparts_some (H : TextC) (HL : LayC) (a : ByteArray) (c : UInt8) (w : World) (ha : a.size ≤ 300) :
    Calls Try.prog 7 #[.string a, u8v c] w fun e w' => e = .returned (.bool true) ∧ Below w.heap.size w w' := by
  have HAW := hidden (awake5_any H HL)
  have HH := hidden H
  have HLY := hidden HL
  have HBA := hidden (bytesS_len a)
  have HAB := hidden (bytes_back a)
  have LO : Hid (bytesS ⟨(List.replicate a.size c).toArray⟩ = List.replicate a.size c) := by show _ = _; unfold bytesS; simp
  have LT := hidden (fun s1 s2 r1 k1 e1 g1 k g2 => lay_two (N := 400) (s1 := s1) (s2 := s2) (bytesS a) (List.replicate a.size c) (fun _ => 0) (fun _ => 0) (by omega) (by omega) (by rw [HBA.out]; omega) (by rw [List.length_replicate]; omega) (by rw [HBA.out, List.length_replicate]; omega) r1 k1 e1 g1 k g2)
  have LF := hidden (lay_first (n := 400) (fun _ => 0) 0 (bytesS a) (by omega) (by omega) (by rw [HBA.out]; omega) (by rw [HBA.out]; omega)).1
  have c2 : ¬ (300 : Int) < (a.size : Int) := by omega
  clear H HL
  unfold u8v
  go_enter Try.func7, Try.ntmps7
  go_upto_region 7 with (first
    | (go_at_call 8; refine (HAW.out _).mono ?_; rintro e w1 ⟨rfl, hb1⟩; have B1 := hidden hb1; clear hb1)
    | (go_at_call 9; refine (mNew_yes 400 _ (by omega) (by omega)).mono ?_; rintro e w2 ⟨kb, p, rfl, pi2, b2, hp2⟩; have PI2 := hidden pi2; have B2 : Hid (Below w.heap.size w w2) := B1.out.trans (b2.mono B1.out.size); have HP : Hid (∀ q, Pown kb p q → w.heap.size ≤ q) := fun q hq => Nat.le_trans B1.out.size (hp2 q hq); clear pi2 b2 hp2)
    | (go_at_call 11; refine (HLY.out.lay (X := fun _ => 0) a _ PI2.out (ws_nil _ _) (by omega)).mono ?_; rintro e w3 ⟨s3, now3, rfl, pi3, on3, _, h03⟩; obtain ⟨al3, c3, rfl, _⟩ := h03 LF.out; rw [LF.out]; have PI3 := hidden pi3; have B3 : Hid (Below w.heap.size w w3) := B2.out.trans (on3.below B2.out.size (fun q hq hp => by have := HP.out q hp; omega)); clear pi3 on3 h03))
  clear PI2 B2 B1
  have hmk := make_bytes a.size (by omega) w3
  go_upto_region 8 with fail
  clear hmk
  have HR4 : Hid ((w3.alloc (.cells (madeCells #[.int .u8 0] a.size) 5)).rowIs w3.heap.size 5 a.size (fun i => .int .u8 0)) := World.rowIs_made w3 (.int .u8 0) a.size 5
  have PI4 := hidden (PI3.out.below ((Below.refl _ _).alloc (Nat.le_refl _) (.cells (madeCells #[.int .u8 0] a.size) 5)) rfl)
  have B4 := hidden (B3.out.alloc B3.out.size (.cells (madeCells #[.int .u8 0] a.size) 5))
  have NP : Hid (¬ Pown kb p w3.heap.size) := fun hq => by have := PI3.out.lt _ hq; omega
  have GB := hidden B3.out.size
  generalize w3.alloc (.cells (madeCells #[.int .u8 0] a.size) 5) = w4 at *
  generalize w3.heap.size = G at *
  clear PI3 B3
  go_wp2_with fail
  go_loopw [40] (fun iv wr => ∃ k : Nat, k ≤ a.size ∧ iv = .int .i64 k ∧ wr.rowIs G 5 a.size (fun j => if j < k then .int .u8 (c.toNat : Int) else .int .u8 0) ∧ Only (fun q => q = G) w4 wr) (fun iv _ => a.size - (intOf iv).toNat)
  case atStart => exact ⟨0, Nat.zero_le _, rfl, World.rowIs.congr HR4.out (fun i hi => by rw [if_neg (by omega)]), Only.refl _ _⟩
  case round =>
    obtain ⟨k, hk, rfl, hrow, hon⟩ := hrel
    have HR := hidden hrow
    have HO := hidden hon
    by_cases hlt : k < a.size
    · have hc := hrow.cell hlt
      have hf := hrow.frozen k
      have x2 : (k : Int) < (a.size : Int) := by omega
      clear hrow hon
      go_wp2_with fail
      go_roundw
      case rel => exact ⟨k + 1, by omega, by go_num, World.rowIs.congr (World.rowIs.set HR.out k _) (fun j hj => by
          by_cases e : j = k
          · rw [if_pos e, if_pos (by omega)]
          · rw [if_neg e]
            by_cases e2 : j < k
            · rw [if_pos e2, if_pos (by omega)]
            · rw [if_neg e2, if_neg (by omega)]), HO.out.trans ((Only.refl (fun q => q = G) wr).setCell (a := ⟨G, k, none⟩) (Or.inr rfl) _)⟩
      case measure => simp [intOf]; omega
    · have ek : k = a.size := by omega
      have hnl : ¬ ((k : Int) < (a.size : Int)) := by omega
      have hstr := run_string (w := wr) (g := G) (c := a.size) (List.replicate a.size c) (fun i hi => by
        rw [List.length_replicate] at hi
        rw [hrow.cell hi, if_pos (by omega), List.getElem_replicate]; rfl)
      rw [List.length_replicate] at hstr
      have PI5 := hidden (PI4.out.frame HO.out (fun q hq e => NP.out (by rw [← e]; exact hq)))
      have B5 : Hid (Below w.heap.size w wr) := B4.out.trans (HO.out.below B4.out.size (fun q hq e => by have := GB.out; omega))
      clear hrow hon HR HO PI4 B4 HR4
      go_upto_region 14 with (go_at_call 11; refine (HLY.out.lay (X := fun _ => 0) ⟨(List.replicate a.size c).toArray⟩ _ PI5.out (ws_nil _ _) (by omega)).mono ?_; rintro e w6 ⟨s6, now6, rfl, pi6, on6, _, h06⟩; rw [LO.out] at pi6 h06 ⊢; obtain ⟨u0, u1, u2, u3, u4, u5, u6⟩ := LT.out s3 s6 _ 0 rfl PI5.out.good _ pi6.rep; obtain ⟨al6, c6, rfl, _⟩ := h06 u1; rw [u1]; obtain ⟨r6, k6, W1, W2, e1, e2, pi66, t1, t2, x1, x2, hne⟩ : ∃ r6 k6 W1 W2, (layOf ⟨400, 0, []⟩ 0 0 (fun _ => 0) (bytesS a)).2.1 = W1 ∧ (layOf (layOf ⟨400, 0, []⟩ 0 0 (fun _ => 0) (bytesS a)).2.2.2.1 (layOf ⟨400, 0, []⟩ 0 0 (fun _ => 0) (bytesS a)).2.2.2.2 0 (fun _ => 0) (List.replicate a.size c)).2.1 = W2 ∧ PI kb p w6 s6 r6 k6 ∧ textAt s6 r6 W1 = (some (bytesS a), 0) ∧ textAt s6 r6 W2 = (some (List.replicate a.size c), 0) ∧ R64 W1 ∧ R64 W2 ∧ addrW W1 ≠ addrW W2 := ⟨_, _, _, _, rfl, rfl, pi6, u2, u3, u4, u5, u6⟩; rw [e1, e2]; have PI6 := hidden pi66; have T1 := hidden t1; have T2 := hidden t2; have HNE := hidden hne; have B6 : Hid (Below w.heap.size w w6) := B5.out.trans (on6.below B5.out.size (fun q hq hp => by have := HP.out q hp; omega)); clear pi6 on6 h06 u0 u1 u2 u3 u4 u5 u6 pi66 t1 t2 hne)
      obtain ⟨x10, x11⟩ := x1
      obtain ⟨x20, x21⟩ := x2
      clear hstr PI5 B5 LT LF LO GB NP ek hnl
      go_wp2_with (go_at_call 14; refine (mArena (p := p) _ PI6.out.cells.1).mono ?_; rintro e w' ⟨rfl, hw'⟩; rw [hw']; clear hw' w')
      go_loopw [15] (fun iv wr => PartsAt w kb p k6 (bytesS a) c W1 W2 iv wr) (fun iv _ => a.size - (intOf iv).toNat)
      case atStart => exact ⟨0, s6, r6, Nat.zero_le _, rfl, PI6.out, T1.out, by rw [mixB_zero, HBA.out]; exact T2.out, B6.out⟩
      case round =>
        clear PI6 T1 T2 B6
        obtain ⟨i, s, r, hi, rfl, hpi, ht1, ht2, hbl⟩ := hrel
        have PR := hidden hpi
        have TA := hidden ht1
        have TB := hidden ht2
        have BR0 := hidden hbl
        have hia : i ≤ a.size := by rw [HBA.out] at hi; exact hi
        clear hpi ht1 ht2 hbl hi
        by_cases hlt : i < a.size
        · have x2 : (i : Int) < (a.size : Int) := by omega
          have BY : Hid (byteAt s r W1 i = (((a[i]).toNat : Int), 0)) := by
            show _ = _
            rw [byte_of TA.out]
            unfold byteOut
            simp only
            rw [if_pos (by rw [HBA.out]; omega), show ((i : Int)).toNat = i from rfl, byte_get a hlt]
          have BP : Hid ((byteAt s r W2 i).2 = 0) := by
            show _ = _
            rw [byte_of TB.out]
            unfold byteOut
            simp only
            rw [if_pos (by rw [mixB_len _ _ (by rw [HBA.out]; omega), HBA.out]; omega)]
          go_wp2_with (first
            | (go_at_call 18; refine (HH.out.byte W1 i _ PR.out.ar PR.out.rep x10 x11).mono ?_; rintro e w7 ⟨rfl, hb7⟩; rw [BY.out]; have P7 := hidden (PR.out.below hb7 rfl); have B7 : Hid (Below w.heap.size w w7) := BR0.out.trans (hb7.mono BR0.out.size); clear hb7)
            | (go_at_call 20; refine (HH.out.put W2 i (a[i]) _ P7.out.ar P7.out.rep x20 x21).mono ?_; rintro e w8 ⟨rfl, s8, ar8, rep8, on8⟩; rw [BP.out]; have P8 := hidden (P7.out.moved ar8 rep8 on8); have TB8 := hidden (put_text P7.out.rep TB.out (i := (i : Int)) (by omega) (by rw [mixB_len _ _ (by rw [HBA.out]; omega), HBA.out]; omega) (a[i]) rep8); have TA8 := hidden (put_other P7.out.rep TB.out (i := (i : Int)) (a[i]) rep8 TA.out HNE.out); have B8 : Hid (Below w.heap.size w w8) := B7.out.trans (on8.below B7.out.size (fun q hq hp => by have := HP.out q (Or.inr (Or.inr hp)); omega)); clear ar8 rep8 on8))
          go_roundw
          case rel => exact ⟨i + 1, s8, _, by rw [HBA.out]; omega, by go_num, P8.out, TA8.out, by
            have h := TB8.out
            rw [show ((i : Int)).toNat = i from rfl, ← byte_get a hlt, mixB_set _ _ (by rw [HBA.out]; exact hlt)] at h
            rw [byte_get a hlt] at h
            exact h, B8.out⟩
          case measure => simp [intOf]; omega
        · have ei : i = a.size := by omega
          have hnl : ¬ ((i : Int) < (a.size : Int)) := by omega
          have RD : Hid (ByteArray.mk ((textAt s r W2).1.getD []).toArray = a) := by
            show _ = _
            rw [TB.out, ei, ← HBA.out, mixB_all]
            exact HAB.out
          have RE : Hid ((textAt s r W2).2 = 0) := by show _ = _; rw [TB.out]
          have BY : Hid (byteAt s r W1 a.size = (0, 2)) := by
            show _ = _
            rw [byte_of TA.out]
            unfold byteOut
            simp only
            rw [if_neg (by rw [HBA.out]; omega)]
          go_wp2_with (first
            | (go_at_call 15; refine (HH.out.read W2 _ PR.out.ar PR.out.rep x20 x21).mono ?_; rintro e w7 ⟨rfl, hb7⟩; rw [RD.out, RE.out]; have P7 := hidden (PR.out.below hb7 rfl); have B7 : Hid (Below w.heap.size w w7) := BR0.out.trans (hb7.mono BR0.out.size); clear hb7)
            | (go_at_call 18; refine (HH.out.byte W1 a.size _ P7.out.ar P7.out.rep x10 x11).mono ?_; rintro e w8 ⟨rfl, hb8⟩; rw [BY.out]; have B8 : Hid (Below w.heap.size w w8) := B7.out.trans (hb8.mono B7.out.size); clear hb8))
          all_goals go_ret
          all_goals exact ⟨rfl, B8.out⟩
theorem tparts_any (H : TextC) (HL : LayC) (a : ByteArray) (c : UInt8) (w : World) :
    Calls Try.prog 7 #[.string a, u8v c] w fun e w' => e = .returned (.bool true) ∧ Below w.heap.size w w' := by
  by_cases h : 300 < a.size
  · exact tparts_long (awake5_any H HL) a c w h
  · exact tparts_some H HL a c w (by omega)
end Go.Proofs.Ytlhcleocdlnbdaa
