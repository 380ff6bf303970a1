/-
  Layer 5: the law that keeps: what was laid is read, whatever is laid since and wherever it moves. Condition: the program's text does as the document's own (TextC, LayC).
-/
import Derived.Test.YtlhcleocdlnbdaaT5Keep
import Derived.Test.YtlhcleocdlnbdaaT5Apart
import Derived.Deep.RegionHeld3
namespace Go.Proofs.Ytlhcleocdlnbdaa
open Go.ChangeShapes Go.WideShapes Go.ChangeAt Go.RowKit Go.Deep
set_option linter.unusedVariables false
set_option maxHeartbeats 1000000

/-- Where the loop over the other texts is. -/
def KeepsAt (w : World) (kb : Nat) (p : Pl) (l : List UInt8) (rv kv : Value) (wr : World) : Prop :=
  ∃ (j : Nat) (s : St) (r : RS) (k : Int) (g c : Nat) (X : Nat → Int), j ≤ 5 ∧ kv = .int .i64 j ∧ rv = .slice (some ⟨g, 0, none⟩) 1 c ∧ WS wr (some ⟨g, 0, none⟩) 1 c X ∧ ¬ Pown kb p g ∧ PI kb p wr s r k ∧ r.n = 1200 ∧ textAt s r (X 0) = (some l, 0) ∧ Below w.heap.size w wr
theorem cut_join (a : ByteArray) (c : UInt8) (n : Nat) (hn : n < a.size) : (a.extract 0 n ++ ⟨#[c]⟩ ++ a.extract (n + 1) a.size).toList = (bytesS a).set n c := by
  have hl : n < (bytesS a).length := by rw [bytesS_len]; exact hn
  have hs : a.data.toList.length = a.size := by rw [Array.length_toList]; rfl
  rw [Go.ByteArray.toList_eq, ← set_cut (bytesS a) hl c]
  unfold bytesS
  simp only [ByteArray.data_append, ByteArray.data_extract, Array.toList_append, Array.toList_extract]
  rw [List.extract_eq_take_drop, List.extract_eq_take_drop, List.drop_zero, Nat.sub_zero]
  rw [List.take_of_length_le (l := a.data.toList.drop (n + 1)) (by rw [List.length_drop, hs]; omega)]
theorem tkeeps_long (hAw : AwakeC) (a b : ByteArray) (i : Int) (c : UInt8) (w : World) (h : 4096 < a.size ∨ 4096 < b.size) :
    Calls Try.prog 5 #[.string a, .string b, .int .u16 i, u8v c] w fun e w' => e = .returned (.bool true) ∧ Below w.heap.size w w' := by
  have HAW := hidden hAw
  clear hAw
  unfold u8v
  by_cases h1 : 4096 < a.size
  · have c2 : (4096 : Int) < (a.size : Int) := by omega
    clear h
    go_enter Try.func5, Try.ntmps5
    go_wp2_with (go_at_call 8; refine (HAW.out _).mono ?_; rintro e w1 ⟨rfl, hb1⟩; have B1 := hidden hb1; clear hb1)
    all_goals go_ret
    all_goals exact ⟨rfl, B1.out⟩
  · have c1 : ¬ (4096 : Int) < (a.size : Int) := by omega
    have c2 : (4096 : Int) < (b.size : Int) := by omega
    clear h
    go_enter Try.func5, Try.ntmps5
    go_wp2_with (go_at_call 8; refine (HAW.out _).mono ?_; rintro e w1 ⟨rfl, hb1⟩; have B1 := hidden hb1; clear hb1)
    all_goals go_ret
    all_goals exact ⟨rfl, B1.out⟩
set_option maxRecDepth 100000 in
theorem tkeeps_any (H : TextC) (HL : LayC) (a b : ByteArray) (i : Int) (c : UInt8) (w : World) (ha : a.size ≤ 4096) (hb : b.size ≤ 4096) (i0 : 0 ≤ i) (i1 : i ≤ 65535) :
    Calls Try.prog 5 #[.string a, .string b, .int .u16 i, u8v c] w fun e w' => e = .returned (.bool true) ∧ Below w.heap.size w w' := by
  have HAW := hidden (awake5_any H HL)
  have HH := hidden H
  have HLY := hidden HL
  have HBA := hidden (bytesS_len a)
  have HBB := hidden (bytesS_len b)
  have ca : ¬ (4096 : Int) < (a.size : Int) := by omega
  have cb : ¬ (4096 : Int) < (b.size : Int) := by omega
  have LF := hidden (lay_first (n := 1200) (fun _ => 1) 1 (bytesS a) (by omega) (by omega) (by rw [HBA.out]; omega) (by rw [HBA.out]; omega))
  clear H HL
  unfold u8v
  go_enter Try.func5, Try.ntmps5
  go_upto_region 7 with (first
    | (go_at_call 8; refine (HAW.out _).mono ?_; rintro e w1 ⟨rfl, hb1⟩; have B1 := hidden hb1; clear hb1)
    | (go_at_call 9; refine (mNew_yes 1200 _ (by omega) (by omega)).mono ?_; rintro e w2 ⟨kb, p, rfl, pi2, b2, hp2⟩; have PI2 := hidden pi2; have B2 : Hid (Below w.heap.size w w2) := B1.out.trans (b2.mono B1.out.size); have HP : Hid (∀ q, Pown kb p q → w.heap.size ≤ q) := fun q hq => Nat.le_trans B1.out.size (hp2 q hq); clear pi2 b2 hp2))
  have PI3 := hidden (PI2.out.below ((Below.refl _ _).alloc (Nat.le_refl _) (.cells #[.int .u64 1] 29)) rfl)
  have B3 := hidden (B2.out.alloc B2.out.size (.cells #[.int .u64 1] 29))
  have O3 : Hid (Own (w2.alloc (.cells #[.int .u64 1] 29)) w2.heap.size 1 (fun _ => 1)) := ⟨_, blk_alloc_new _ _, fun i hi => by have : i = 0 := (by omega); subst this; rfl⟩
  have NP : Hid (¬ Pown kb p w2.heap.size) := fun hq => by have := PI2.out.lt _ hq; omega
  have GB := hidden B2.out.size
  generalize w2.alloc (.cells #[.int .u64 1] 29) = w3 at *
  generalize w2.heap.size = g0 at *
  clear PI2 B1 B2
  go_upto_region 10 with (go_at_call 11; refine (HLY.out.lay (X := fun _ => 1) a _ PI3.out (ws_own O3.out (fun i hi => by omega) (fun i hi => by omega)) (by omega)).mono ?_; rintro e w4 ⟨s4, now4, rfl, pi4, on4, _, h04⟩; obtain ⟨al4, c4, rfl, _⟩ := h04 LF.out.1; rw [LF.out.1, LF.out.2]; have TX4 := hidden (lay_read (s1 := s4) (k := 0) (n := 1) (X := fun _ => 1) (bytesS a) (pick_good PI3.out.good) w LF.out.1 pi4.rep); have PI4 := hidden pi4; have O4 := hidden (O3.out.frame on4 NP.out); have B4 : Hid (Below w.heap.size w w4) := B3.out.trans (on4.below B3.out.size (fun q hq hp => by have := HP.out q hp; omega)); clear pi4 on4 h04)
  have f4 := O4.out.frozen 0
  have y4 := O4.out.cell (i := 0) (by omega)
  have hn4 : (layOf ⟨1200, 0, []⟩ 0 1 (fun _ => 1) (bytesS a)).2.2.2.1.n = 1200 := by
    have hg : Good (St.new 1200) ⟨1200, 0, []⟩ := ⟨rep_new 1200, fun _ => Int.le_refl _, fun _ => by show (0 : Int) ≤ _; omega, by show 2 ≤ 1200; omega, by show 1200 ≤ 32768; omega, Nat.zero_le _⟩
    rw [lay_room 0 1 (fun _ => 1) (bytesS a) hg (by rw [HBA.out]; omega) (by rw [HBA.out]; show lenB [] + _ ≤ 1200; simp [lenB]; omega)]
    rfl
  have T4 : Hid (∃ r4 k4, PI kb p w4 s4 r4 k4 ∧ textAt s4 r4 2 = (some (bytesS a), 0) ∧ r4.n = 1200) := by
    have h := TX4.out.1
    rw [LF.out.2] at h
    exact ⟨_, _, PI4.out, h, hn4⟩
  clear TX4 PI4 hn4
  obtain ⟨r4, k4, pi4, tx4, n4⟩ := T4.out
  have o5 : Only (fun q => q = g0) w4 (w4.setCell ⟨g0, 0, none⟩ (.int .u64 2)) := (Only.refl (fun q => q = g0) w4).setCell (a := ⟨g0, 0, none⟩) (Or.inr rfl) _
  have PI5 := hidden (pi4.frame o5 (fun q hq e => NP.out (by rw [← e]; exact hq)))
  have TX5 := hidden tx4
  have N5 := hidden n4
  have O5 := hidden (O4.out.set 0 2)
  have B5 := hidden (B4.out.setCell (p := ⟨g0, 0, none⟩) GB.out (.int .u64 2))
  clear pi4 tx4 n4 T4 o5 O3 PI3 B3
  go_wp2_with fail
  generalize w4.setCell ⟨g0, 0, none⟩ (.int .u64 2) = w5 at *
  go_loopw [10, 14] (fun rv kv wr => KeepsAt w kb p (bytesS a) rv kv wr) (fun _ kv _ => 5 - (intOf kv).toNat)
  case atStart => exact ⟨0, s4, r4, k4, g0, 1, fun j => if j = 0 then 2 else 1, by omega, rfl, rfl, ws_own O5.out (fun i hi => by split <;> omega) (fun i hi => by split <;> omega), NP.out, PI5.out, N5.out, TX5.out, B5.out⟩
  case round =>
    clear O5 B5 PI5 TX5 N5 O4 B4 f4 y4 LF GB NP
    obtain ⟨j, s, r, k, g, cr, X, hj, rfl, rfl, hws, hnp, hpi, hn, htx, hbl⟩ := hrel
    have WSR := hidden hws
    have NPR := hidden hnp
    have PIR := hidden hpi
    have TXR := hidden htx
    have BR0 := hidden hbl
    have NR := hidden hn
    have XR : Hid (R64 (X 0)) := ⟨hws.lo 0 (by omega), hws.hi 0 (by omega)⟩
    clear hws hnp hpi htx hbl hn
    by_cases h5 : j < 5
    · have LA := hidden (lay_always (k := k) (X := X) (bytesS b) PIR.out.good TXR.out (by rw [HBB.out]; omega) (by rw [HBA.out, HBB.out, NR.out]; omega))
      have LK := hidden (fun s' h1 => lay_keeps (s' := s') (k := k) (n := 1) (j := 0) (X := X) (bytesS b) wr PIR.out.good TXR.out XR.out (by omega) LA.out.1 h1)
      have HLA := hidden (HLY.out.lay (X := X) b wr PIR.out WSR.out (by omega))
      generalize layOf r k 1 X (bytesS b) = o at *
      obtain ⟨E, W, Y, r1, k1⟩ := o
      obtain ⟨hE, hn1⟩ := LA.out
      have hE : E = 0 := hE
      subst hE
      have HN1 := hidden hn1
      clear hn1 LA
      go_wp2_with (go_at_call 11; refine HLA.out.mono ?_; rintro e w6 ⟨s6, now6, rfl, pi6, on6, _, h06⟩; obtain ⟨al6, c6, rfl, ws6, hf6, hal6⟩ := h06 rfl; obtain ⟨g6, rfl⟩ := hal6 (by simp); have TX6 := hidden (LK.out s6 pi6.rep); have PI6 := hidden pi6; have WS6 := hidden ws6; have NP6 : Hid (¬ Pown kb p g6) := fun hq => (by have h1 := hf6 _ rfl; have h2 := PIR.out.lt _ hq; simp only at h1; omega); have B6 : Hid (Below w.heap.size w w6) := BR0.out.trans (on6.below BR0.out.size (fun q hq hp => by have := HP.out q hp; omega)); clear pi6 on6 h06 ws6 hf6 hal6)
      go_roundw
      case rel => exact ⟨j + 1, s6, r1, k1, g6, c6, Y, by omega, by go_num, rfl, WS6.out, NP6.out, PI6.out, by rw [← NR.out]; exact HN1.out, TX6.out.1, B6.out⟩
      case measure => simp [intOf]; omega
    · have ej : j = 5 := by omega
      subst ej
      obtain ⟨ad, e, hc⟩ := WSR.out.cell 0 (by omega)
      cases e
      have y0 : wr.cell? ⟨g, 0, none⟩ = some (.int .u64 (X 0)) := hc
      have TXB : Hid (ByteArray.mk ((textAt s r (X 0)).1.getD []).toArray = a) := by show _ = _; rw [TXR.out]; exact bytes_back a
      have TXE : Hid ((textAt s r (X 0)).2 = 0) := by show _ = _; rw [TXR.out]
      have HNO : Hid (¬ p.own g) := fun hq => NPR.out (Or.inr (Or.inr hq))
      have hgl : g < wr.heap.size := cell_lt y0
      have HX0 : Hid (X 0 = X 0) := rfl
      clear hc
      generalize hx : X 0 = x at *
      have HXX := hidden hx
      clear hx HX0
      go_wp2_with fail
      go_region_held3 (fun w' => w'.cell? ⟨g, 0, none⟩ = some (.int .u64 x)) (go_keep) (first
        | (go_at_call 14; refine (mArena (p := p) _ (PIR.out.drewN 1).cells.1).mono ?_; rintro e w' ⟨rfl, hw'⟩; rw [hw']; clear hw' w')
        | (go_at_call 15; refine (HH.out.read x _ (PIR.out.drewN 1).ar (PIR.out.drewN 1).rep XR.out.1 XR.out.2).mono ?_; rintro e w7 ⟨rfl, hb7⟩; rw [TXB.out, TXE.out]; have P7 := hidden ((PIR.out.drewN 1).below hb7 rfl); have B7 : Hid (Below w.heap.size w w7) := (below_drewN BR0.out 1).trans (hb7.mono BR0.out.size); have y7 := (hb7.cell (p := ⟨g, 0, none⟩) hgl).trans y0; have WS7 := hidden ((WSR.out.drewN 1).below hb7); clear hb7))
      by_cases hz : a.size = 0
      · have BY0 : Hid ((byteAt s r x 0).2 = 2) := by
          show _ = _
          rw [byte_of TXR.out]
          unfold byteOut
          simp only
          rw [if_neg (by rw [HBA.out]; omega)]
        have hzb : ((a.size : Int) == 0) = true := by rw [hz]; rfl
        go_wp2_with fail
        go_region_held3 (fun w' => w'.cell? ⟨g, 0, none⟩ = some (.int .u64 x)) (go_keep) (first
          | (go_at_call 14; refine (mArena (p := p) _ (P7.out.drewN 1).cells.1).mono ?_; rintro e w' ⟨rfl, hw'⟩; rw [hw']; clear hw' w')
          | (go_at_call 20; refine (HH.out.put x 0 c _ (P7.out.drewN 1).ar (P7.out.drewN 1).rep XR.out.1 XR.out.2).mono ?_; rintro e w8 ⟨rfl, s8, ar8, rep8, on8⟩; rw [BY0.out]; have B8 : Hid (Below w.heap.size w w8) := (below_drewN B7.out 1).trans (on8.below B7.out.size (fun q hq hp => by have := HP.out q (Or.inr (Or.inr hp)); omega)); have y8 : w8.cell? ⟨g, 0, none⟩ = some (.int .u64 x) := (World.cell?_of_block (w := w7) (a := ⟨g, 0, none⟩) (on8.block g (cell_lt y7) HNO.out)).trans y7; clear ar8 rep8 on8))
        go_wp2_with fail
        go_ret
        exact ⟨rfl, B8.out⟩
      · have hzb : ((a.size : Int) == 0) = false := beq_eq_false_iff_ne.2 (by omega)
        have hz2 : (a.size : Int) ≠ 0 := by omega
        have k0 : 0 ≤ i % (a.size : Int) := Int.emod_nonneg _ (by omega)
        have k1 : i % (a.size : Int) < (a.size : Int) := Int.emod_lt_of_pos _ (by omega)
        go_upto_region 24 with (fail)
        generalize i % (a.size : Int) = ki at *
        have BYK : Hid ((byteAt s r x ki).2 = 0) := by
          show _ = _
          rw [byte_of TXR.out]
          unfold byteOut
          simp only
          rw [if_pos (by rw [HBA.out]; exact ⟨k0, k1⟩)]
        have KL : Hid (ki < ((bytesS a).length : Nat)) := by show _ < _; rw [HBA.out]; exact k1
        go_region_held3 (fun w' => w'.cell? ⟨g, 0, none⟩ = some (.int .u64 x)) (go_keep) (first
          | (go_at_call 14; refine (mArena (p := p) _ (P7.out.drewN 1).cells.1).mono ?_; rintro e w' ⟨rfl, hw'⟩; rw [hw']; clear hw' w')
          | (go_at_call 20; refine (HH.out.put x ki c _ (P7.out.drewN 1).ar (P7.out.drewN 1).rep XR.out.1 XR.out.2).mono ?_; rintro e w8 ⟨rfl, s8, ar8, rep8, on8⟩; rw [BYK.out]; have TX8 := hidden (put_text P7.out.rep TXR.out k0 KL.out c rep8); have P8 := hidden ((P7.out.drewN 1).moved ar8 rep8 on8); have WS8 := hidden ((WS7.out.drewN 1).frame on8 (fun ad e _ => by cases e; exact HNO.out)); have B8 : Hid (Below w.heap.size w w8) := (below_drewN B7.out 1).trans (on8.below B7.out.size (fun q hq hp => by have := HP.out q (Or.inr (Or.inr hp)); omega)); have y8 : w8.cell? ⟨g, 0, none⟩ = some (.int .u64 x) := (World.cell?_of_block (w := w7) (a := ⟨g, 0, none⟩) (on8.block g (cell_lt y7) HNO.out)).trans y7; clear ar8 rep8 on8))
        generalize putR s r x ki c = r8 at *
        go_upto_region 27 with (go_at_call 24; refine (mForce _ P8.out WS8.out (by omega)).mono ?_; rintro e w9 ⟨g9, s9, rfl, pi9, o9, hg9, on9⟩; have TX9 := hidden (coll_text (xs := listX X 1) P8.out.good TX8.out (by rw [← HXX.out]; exact List.mem_singleton.2 rfl) pi9.good); have P9 := hidden pi9; have y9 := o9.cell (i := 0) (by omega); have B9 : Hid (Below w.heap.size w w9) := B8.out.trans (on9.below B8.out.size (fun q hq hp => by have := HP.out q hp; omega)); clear pi9 o9 hg9 on9)
        rw [HXX.out] at y9
        generalize collW s8 r8 (listX X 1) x = x9 at *
        generalize collR s8 r8 (listX X 1) = r9 at *
        have TX9B : Hid ((textAt s9 r9 x9).1.getD [] = (bytesS a).set ki.toNat c) := by show _ = _; rw [TX9.out.1]; rfl
        have TX9E : Hid ((textAt s9 r9 x9).2 = 0) := by show _ = _; rw [TX9.out.1]
        go_region_held3 (fun w' => w'.cell? ⟨g9, 0, none⟩ = some (.int .u64 x9)) (go_keep) (first
          | (go_at_call 14; refine (mArena (p := p) _ (P9.out.drewN 1).cells.1).mono ?_; rintro e w' ⟨rfl, hw'⟩; rw [hw']; clear hw' w')
          | (go_at_call 15; refine (HH.out.read x9 _ (P9.out.drewN 1).ar (P9.out.drewN 1).rep TX9.out.2.1 TX9.out.2.2).mono ?_; rintro e w10 ⟨rfl, hb10⟩; rw [TX9B.out, TX9E.out]; have B10 : Hid (Below w.heap.size w w10) := (below_drewN B9.out 1).trans (hb10.mono B9.out.size); have y10 := (hb10.cell (p := ⟨g9, 0, none⟩) (cell_lt y9)).trans y9; clear hb10))
        go_wp2_with fail
        have hcv : Sem.run Try.prog (convert 55 9 (.slice (some ⟨w10.heap.size, 0, none⟩) 1 1)) (w10.alloc (.cells #[.int .u8 c.toNat] 5)).drew = .ok (.string ⟨[c].toArray⟩) (w10.alloc (.cells #[.int .u8 c.toNat] 5)).drew := run_string (w := (w10.alloc (.cells #[.int .u8 c.toNat] 5)).drew) (g := w10.heap.size) (c := 1) [c] (fun i hi => by
          have : i = 0 := by simpa using hi
          subst this
          exact byte_new w10 _ _)
        have hcv3 : Sem.run Try.prog (convert 55 9 (.slice (some ⟨w10.heap.size, 0, none⟩) 1 1)) (w10.alloc (.cells #[.int .u8 c.toNat] 5)) = .ok (.string ⟨[c].toArray⟩) (w10.alloc (.cells #[.int .u8 c.toNat] 5)) := run_string (w := (w10.alloc (.cells #[.int .u8 c.toNat] 5))) (g := w10.heap.size) (c := 1) [c] (fun i hi => by
          have : i = 0 := by simpa using hi
          subst this
          exact byte_new w10 _ _)
        have e1 := wrapId (ki + 1) (by omega) (by omega)
        have k2 : ki ≤ (a.size : Int) := by omega
        have k3 : ki + 1 ≤ (a.size : Int) := by omega
        have k4 : 0 ≤ ki + 1 := by omega
        go_region_held (fun w' => w'.cell? ⟨g9, 0, none⟩ = some (.int .u64 x9)) (go_keep) (fail)
        go_wp2_with fail
        go_ret
        refine ⟨?_, (B10.out.alloc B10.out.size _).drew⟩
        show Ending.returned (Value.bool ((bytesS a).set ki.toNat c == (a.extract 0 ki.toNat ++ ⟨#[c]⟩ ++ a.extract (ki + 1).toNat a.size).toList)) = _
        rw [show (ki + 1).toNat = ki.toNat + 1 from by omega, cut_join a c ki.toNat (by omega), beq_self_eq_true]
end Go.Proofs.Ytlhcleocdlnbdaa
