/-
  Layer 5: the law that tells texts apart by their fields. Condition: the program's text does as the document's own (TextC, LayC).
-/
import Derived.Test.YtlhcleocdlnbdaaT5Awake
namespace Go.Proofs.Ytlhcleocdlnbdaa
open Go.ChangeShapes Go.WideShapes Go.ChangeAt Go.RowKit Go.Deep
set_option linter.unusedVariables false
set_option maxHeartbeats 1000000

theorem room_ok {s : St} {r : RS} (l : List UInt8) (hg : Good s r) (hl : l.length ≤ 4096) (hr : lenB r.L + (l.length / 8 + 2) ≤ r.n) : (pick r).allocE 202 (sizeT l) = 0 := by
  have hp := pick_good hg
  have e1 := hp.rep.n
  have e2 := hp.rep.base
  have e3 := hp.rep.top
  unfold St.allocE sizeT
  rw [if_neg (by decide), if_neg (by omega), if_neg (by omega)]
/-- A text that is laid where there is room. -/
theorem lay_room {s : St} {r : RS} (k : Int) (n : Nat) (X : Nat → Int) (l : List UInt8) (hg : Good s r) (hl : l.length ≤ 4096) (hr : lenB r.L + (l.length / 8 + 2) ≤ r.n) : layOf r k n X l = (0, (pick r).allocW 202 (sizeT l), X, laidT (pick r) r l, k) := by
  have hp := pick_good hg
  have e1 := hp.rep.n
  have e2 := hp.rep.base
  have e3 := hp.rep.top
  have g : (pick r).allocE 202 (sizeT l) = 0 := by
    unfold St.allocE sizeT
    rw [if_neg (by decide), if_neg (by omega), if_neg (by omega)]
  unfold layOf
  rw [if_neg (by omega), if_pos g]
theorem lay_long (r : RS) (k : Int) (n : Nat) (X : Nat → Int) (l : List UInt8) (hl : 4096 < l.length) : layOf r k n X l = (4, 0, X, r, k) := by unfold layOf; rw [if_pos hl]
theorem lenB_snoc (L : List Blk) (b : Blk) : lenB (L ++ [b]) = lenB L + (b.F.length + 1) := by
  induction L with
  | nil => simp [lenB]; omega
  | cons c L ih => simp [lenB, ih]; omega
theorem laidT_len (s : St) (r : RS) (l : List UInt8) : lenB (laidT s r l).L = lenB r.L + (l.length / 8 + 2) := by
  unfold laidT
  show lenB (r.L ++ [_]) = _
  rw [lenB_snoc]
  show _ + ((fieldsT l).length + 1) = _
  rw [fieldsT_len]
theorem ws_nil (w : World) (X : Nat → Int) : WS w none 0 0 X := ⟨fun _ => ⟨rfl, rfl⟩, fun i hi => absurd hi (Nat.not_lt_zero _), fun i hi => absurd hi (Nat.not_lt_zero _), fun i hi => absurd hi (Nat.not_lt_zero _)⟩
/-- Two texts are laid in a new Mem with room for both. -/
theorem lay_two {N : Nat} (l1 l2 : List UInt8) (X X' : Nat → Int) (h1 : 2 ≤ N) (h2 : N ≤ 32768) (a1 : l1.length ≤ 4096) (a2 : l2.length ≤ 4096) (hr : l1.length / 8 + 2 + (l2.length / 8 + 2) ≤ N) {s1 s2 : St} (r1 : RS) (k1 : Int) (e1 : (layOf ⟨N, 0, []⟩ 0 0 X l1).2.2.2.1 = r1) (g1 : Good s1 r1) (k : Int) (g2 : Rep s2 (layOf r1 k 0 X' l2).2.2.2.1) :
    (layOf ⟨N, 0, []⟩ 0 0 X l1).1 = 0 ∧ (layOf r1 k 0 X' l2).1 = 0 ∧ textAt s2 (layOf r1 k 0 X' l2).2.2.2.1 (layOf ⟨N, 0, []⟩ 0 0 X l1).2.1 = (some l1, 0) ∧ textAt s2 (layOf r1 k 0 X' l2).2.2.2.1 (layOf r1 k 0 X' l2).2.1 = (some l2, 0) ∧ R64 (layOf ⟨N, 0, []⟩ 0 0 X l1).2.1 ∧ R64 (layOf r1 k 0 X' l2).2.1 ∧ addrW (layOf ⟨N, 0, []⟩ 0 0 X l1).2.1 ≠ addrW (layOf r1 k 0 X' l2).2.1 := by
  have hg : Good (St.new N) ⟨N, 0, []⟩ := ⟨rep_new N, fun _ => Int.le_refl _, fun _ => by show (0 : Int) ≤ _; omega, h1, h2, Nat.zero_le _⟩
  have hp := pick_good hg
  obtain ⟨f0, f1⟩ := lay_first (n := N) X 0 l1 h1 h2 a1 (by omega)
  have L1 := lay_room 0 0 X l1 hg a1 (by show lenB [] + _ ≤ N; simp [lenB]; omega)
  have er1 : r1 = laidT (pick ⟨N, 0, []⟩) ⟨N, 0, []⟩ l1 := by rw [← e1, L1]
  have L2 := lay_room k 0 X' l2 g1 a2 (by rw [er1, laidT_len]; show lenB [] + _ + _ ≤ N; simp [lenB]; omega)
  have q1 := lay_read (s1 := s1) (k := 0) (n := 0) (X := X) l1 hp default f0 (by rw [e1]; exact g1.rep)
  have q2 := lay_read (s1 := s2) (k := k) (n := 0) (X := X') l2 (pick_good g1) default (by rw [L2]) g2
  rw [e1] at q1
  have t1 : textAt s2 (layOf r1 k 0 X' l2).2.2.2.1 (layOf ⟨N, 0, []⟩ 0 0 X l1).2.1 = (some l1, 0) := by
    rw [L2] at g2 ⊢
    exact laid_keeps g1.rep q1.1 l2 g2
  refine ⟨f0, by rw [L2], t1, q2.1, ⟨q1.2.1, q1.2.2.1⟩, ⟨q2.2.1, q2.2.2.1⟩, ?_⟩
  rw [f1, L2]
  have gg := room_ok l2 g1 a2 (by rw [er1, laidT_len]; show lenB [] + _ + _ ≤ N; simp [lenB]; omega)
  have q3 := (word_laid (pick_good g1) gg).2.1
  have e3 := (pick_good g1).rep.top
  have e4 : lenB r1.L = l1.length / 8 + 2 := by rw [er1, laidT_len]; show lenB [] + _ = _; simp [lenB]
  rw [← q3, show addrW 2 = 1 from by decide]
  omega
/-- Where the loop over the fields is. -/
def ApartAt (F1 F2 : List Int) (w5 : World) (sv kv : Value) (wr : World) : Prop :=
  ∃ (k n : Nat) (b : Bool), k ≤ F1.length ∧ kv = .int .i64 k ∧ sv = .bool b ∧ (b = true → F1.length = F2.length ∧ ∀ i, i < k → F1.getD i 0 = F2.getD i 0) ∧ (b = false → F1 ≠ F2) ∧ wr = w5.drewN n
set_option maxRecDepth 100000 in
theorem tapart_any (H : TextC) (HL : LayC) (a b : ByteArray) (w : World) :
    Calls Try.prog 6 #[.string a, .string b] w fun e w' => e = .returned (.bool true) ∧ Below w.heap.size w w' := by
  have HAW := hidden (awake5_any H HL)
  have HH := hidden H
  have HLY := hidden HL
  have HBA := hidden (bytesS_len a)
  have HBB := hidden (bytesS_len b)
  clear H HL
  by_cases c1 : 4096 < a.size
  · have c2 : (4096 : Int) < (a.size : Int) := by omega
    have LL := hidden (fun r k n X => lay_long r k n X (bytesS a) (by rw [HBA.out]; exact c1))
    go_enter Try.func6, Try.ntmps6
    go_wp2_with (first
      | (go_at_call 8; refine (HAW.out _).mono ?_; rintro e w1 ⟨rfl, hb1⟩; have B1 := hidden hb1; clear hb1)
      | (go_at_call 9; refine (mNew_yes 32768 _ (by omega) (by omega)).mono ?_; rintro e w2 ⟨kb, p, rfl, pi2, b2, hp2⟩; have PI2 := hidden pi2; have B2 : Hid (Below w.heap.size w w2) := B1.out.trans (b2.mono B1.out.size); have HP : Hid (∀ q, Pown kb p q → w.heap.size ≤ q) := fun q hq => Nat.le_trans B1.out.size (hp2 q hq); clear pi2 b2 hp2)
      | (go_at_call 11; refine (HLY.out.lay (X := fun _ => 0) b _ PI3.out (ws_nil _ _) (by omega)).mono ?_; rintro e w4 ⟨s4, now4, rfl, pi4, on4, _, _⟩; have B4 : Hid (Below w.heap.size w w4) := B3.out.trans (on4.below B3.out.size (fun q hq hp => by have := HP.out q hp; omega)); clear pi4 on4)
      | (go_at_call 11; refine (HLY.out.lay (X := fun _ => 0) a _ PI2.out (ws_nil _ _) (by omega)).mono ?_; rintro e w3 ⟨s3, now3, rfl, pi3, on3, hno3, _⟩; rw [LL.out] at pi3 hno3 ⊢; obtain ⟨al3, c3, rfl⟩ := hno3 (by show (4 : Int) ≠ 0; decide); have PI3 := hidden pi3; have B3 : Hid (Below w.heap.size w w3) := B2.out.trans (on3.below B2.out.size (fun q hq hp => by have := HP.out q hp; omega)); clear pi3 on3 hno3))
    all_goals go_ret
    all_goals exact ⟨rfl, B4.out⟩
  · by_cases d1 : 4096 < b.size
    · have c2 : ¬ (4096 : Int) < (a.size : Int) := by omega
      have d2 : (4096 : Int) < (b.size : Int) := by omega
      have LL := hidden (fun r k n X => lay_long r k n X (bytesS b) (by rw [HBB.out]; exact d1))
      have LF := hidden (lay_first (n := 32768) (fun _ => 0) 0 (bytesS a) (by omega) (by omega) (by rw [HBA.out]; omega) (by rw [HBA.out]; omega)).1
      go_enter Try.func6, Try.ntmps6
      go_wp2_with (first
        | (go_at_call 8; refine (HAW.out _).mono ?_; rintro e w1 ⟨rfl, hb1⟩; have B1 := hidden hb1; clear hb1)
        | (go_at_call 9; refine (mNew_yes 32768 _ (by omega) (by omega)).mono ?_; rintro e w2 ⟨kb, p, rfl, pi2, b2, hp2⟩; have PI2 := hidden pi2; have B2 : Hid (Below w.heap.size w w2) := B1.out.trans (b2.mono B1.out.size); have HP : Hid (∀ q, Pown kb p q → w.heap.size ≤ q) := fun q hq => Nat.le_trans B1.out.size (hp2 q hq); clear pi2 b2 hp2)
        | (go_at_call 11; refine (HLY.out.lay (X := fun _ => 0) b _ PI3.out (ws_nil _ _) (by omega)).mono ?_; rintro e w4 ⟨s4, now4, rfl, pi4, on4, hno4, _⟩; rw [LL.out] at pi4 hno4 ⊢; obtain ⟨al4, c4, rfl⟩ := hno4 (by show (4 : Int) ≠ 0; decide); have B4 : Hid (Below w.heap.size w w4) := B3.out.trans (on4.below B3.out.size (fun q hq hp => by have := HP.out q hp; omega)); clear pi4 on4 hno4)
        | (go_at_call 11; refine (HLY.out.lay (X := fun _ => 0) a _ PI2.out (ws_nil _ _) (by omega)).mono ?_; rintro e w3 ⟨s3, now3, rfl, pi3, on3, _, h03⟩; obtain ⟨al3, c3, rfl, _⟩ := h03 LF.out; rw [LF.out]; have PI3 := hidden pi3; have B3 : Hid (Below w.heap.size w w3) := B2.out.trans (on3.below B2.out.size (fun q hq hp => by have := HP.out q hp; omega)); clear pi3 on3 h03))
      all_goals go_ret
      all_goals exact ⟨rfl, B4.out⟩
    · have c2 : ¬ (4096 : Int) < (a.size : Int) := by omega
      have d2 : ¬ (4096 : Int) < (b.size : Int) := by omega
      have LT := hidden (fun s1 s2 r1 k1 e1 g1 k g2 => lay_two (N := 32768) (s1 := s1) (s2 := s2) (bytesS a) (bytesS b) (fun _ => 0) (fun _ => 0) (by omega) (by omega) (by rw [HBA.out]; omega) (by rw [HBB.out]; omega) (by rw [HBA.out, HBB.out]; omega) r1 k1 e1 g1 k g2)
      have LF := hidden (lay_first (n := 32768) (fun _ => 0) 0 (bytesS a) (by omega) (by omega) (by rw [HBA.out]; omega) (by rw [HBA.out]; omega)).1
      have LR := hidden (fun s r k (hg : Good s r) hr => lay_room (s := s) (r := r) k 0 (fun _ => 0) (bytesS b) hg (by rw [HBB.out]; omega) hr)
      go_enter Try.func6, Try.ntmps6
      go_upto_region 8 with (first
        | (go_at_call 8; refine (HAW.out _).mono ?_; rintro e w1 ⟨rfl, hb1⟩; have B1 := hidden hb1; clear hb1)
        | (go_at_call 9; refine (mNew_yes 32768 _ (by omega) (by omega)).mono ?_; rintro e w2 ⟨kb, p, rfl, pi2, b2, hp2⟩; have PI2 := hidden pi2; have B2 : Hid (Below w.heap.size w w2) := B1.out.trans (b2.mono B1.out.size); have HP : Hid (∀ q, Pown kb p q → w.heap.size ≤ q) := fun q hq => Nat.le_trans B1.out.size (hp2 q hq); clear pi2 b2 hp2)
        | (go_at_call 11; refine (HLY.out.lay (X := fun _ => 0) b _ PI3.out (ws_nil _ _) (by omega)).mono ?_; rintro e w4 ⟨s4, now4, rfl, pi4, on4, hno4, h04⟩; obtain ⟨u0, u1, u2, u3, u4, u5, u6⟩ := LT.out s3 s4 _ 0 rfl PI3.out.good _ pi4.rep; obtain ⟨al4, c4, rfl, _⟩ := h04 u1; rw [u1]; obtain ⟨r4, k4, W1, W2, e1, e2, pi44, t1, t2, x1, x2⟩ : ∃ r4 k4 W1 W2, (layOf ⟨32768, 0, []⟩ 0 0 (fun _ => 0) (bytesS a)).2.1 = W1 ∧ (layOf (layOf ⟨32768, 0, []⟩ 0 0 (fun _ => 0) (bytesS a)).2.2.2.1 (layOf ⟨32768, 0, []⟩ 0 0 (fun _ => 0) (bytesS a)).2.2.2.2 0 (fun _ => 0) (bytesS b)).2.1 = W2 ∧ PI kb p w4 s4 r4 k4 ∧ textAt s4 r4 W1 = (some (bytesS a), 0) ∧ textAt s4 r4 W2 = (some (bytesS b), 0) ∧ R64 W1 ∧ R64 W2 := ⟨_, _, _, _, rfl, rfl, pi4, u2, u3, u4, u5⟩; rw [e1, e2]; have PI4 := hidden pi44; have T1 := hidden t1; have T2 := hidden t2; have B4 : Hid (Below w.heap.size w w4) := B3.out.trans (on4.below B3.out.size (fun q hq hp => by have := HP.out q hp; omega)); clear pi4 on4 hno4 h04 u0 u1 u2 u3 u4 u5 u6 pi44 t1 t2)
        | (go_at_call 11; refine (HLY.out.lay (X := fun _ => 0) a _ PI2.out (ws_nil _ _) (by omega)).mono ?_; rintro e w3 ⟨s3, now3, rfl, pi3, on3, _, h03⟩; obtain ⟨al3, c3, rfl, _⟩ := h03 LF.out; rw [LF.out]; have PI3 := hidden pi3; have B3 : Hid (Below w.heap.size w w3) := B2.out.trans (on3.below B2.out.size (fun q hq hp => by have := HP.out q hp; omega)); clear pi3 on3 h03))
      have SZ1 := hidden (size_text PI4.out.rep T1.out)
      have SZ2 := hidden (size_text PI4.out.rep T2.out)
      have GT1 := hidden (fun j hj => get_text PI4.out.rep T1.out (j := j) hj)
      have GT2 := hidden (fun j hj => get_text PI4.out.rep T2.out (j := j) hj)
      have L1 := hidden (fieldsT_len (bytesS a))
      have L2 := hidden (fieldsT_len (bytesS b))
      have HEQ : Hid (fieldsT (bytesS a) = fieldsT (bytesS b) → a = b) := fun e => by
        have h1 := fieldsT_inj e
        rw [← bytes_back a, ← bytes_back b, h1]
      have HNE : Hid (fieldsT (bytesS a) ≠ fieldsT (bytesS b) → a ≠ b) := fun e h => e (by rw [h])
      have hz1 : (bytesS a).length / 8 + 1 ≤ 600 := by rw [HBA.out]; omega
      have hz2 : (bytesS b).length / 8 + 1 ≤ 600 := by rw [HBB.out]; omega
      clear T1 T2 LT LF LR HBA HBB
      generalize fieldsT (bytesS a) = F1 at *
      generalize fieldsT (bytesS b) = F2 at *
      generalize (bytesS a).length / 8 + 1 = z1 at *
      generalize (bytesS b).length / 8 + 1 = z2 at *
      obtain ⟨x10, x11⟩ := x1
      obtain ⟨x20, x21⟩ := x2
      have HST : Hid (∃ b0 : Bool, ((z1 : Int) == (z2 : Int)) = b0 ∧ (b0 = true → F1.length = F2.length) ∧ (b0 = false → F1 ≠ F2)) := by
        by_cases e : z1 = z2
        · exact ⟨true, by rw [e]; simp, fun _ => by rw [L1.out, L2.out, e], fun h => (by cases h)⟩
        · exact ⟨false, beq_eq_false_iff_ne.2 (by omega), fun h => (by cases h), fun _ h => e (by rw [← L1.out, ← L2.out, h])⟩
      obtain ⟨b0, hb0, hb1, hb2⟩ := HST.out
      have HB1 := hidden hb1
      have HB2 := hidden hb2
      clear HST hb1 hb2
      go_wp2_with (first
        | (go_at_call 14; refine (mArena (p := p) _ (by first | exact P5.out.cells.1 | exact PI4.out.cells.1)).mono ?_; rintro e w' ⟨rfl, hw'⟩; rw [hw']; clear hw' w')
        | (go_at_call 25; refine (size_is W2 (z2 : Int) _ P5.out.ar x20 x21 SZ2.out).mono ?_; rintro e w6 ⟨rfl, m6, hw6⟩; have P6 : Hid (PI kb p w6 s4 r4 k4) := by { show PI _ _ _ _ _ _; rw [hw6]; exact P5.out.below (below_drews _ _) rfl }; have B6 : Hid (Below w.heap.size w w6) := by { show Below _ _ _; rw [hw6]; exact below_drewN B5.out _ }; clear hw6)
        | (go_at_call 25; refine (size_is W1 (z1 : Int) _ PI4.out.ar x10 x11 SZ1.out).mono ?_; rintro e w5 ⟨rfl, m5, hw5⟩; have P5 : Hid (PI kb p w5 s4 r4 k4) := by { show PI _ _ _ _ _ _; rw [hw5]; exact PI4.out.below (below_drews _ _) rfl }; have B5 : Hid (Below w.heap.size w w5) := by { show Below _ _ _; rw [hw5]; exact below_drewN B4.out _ }; clear hw5))
      clear PI4 P5 B4 B5 SZ2
      go_loopw [12, 13] (fun sv kv wr => ApartAt F1 F2 w6 sv kv wr) (fun _ kv _ => z1 - (intOf kv).toNat)
      case atStart => exact ⟨0, 0, b0, Nat.zero_le _, rfl, rfl, fun h => ⟨HB1.out h, fun i hi => absurd hi (Nat.not_lt_zero _)⟩, HB2.out, rfl⟩
      case round =>
        clear hb0 HB1 HB2
        obtain ⟨k, n, bb, hk, rfl, rfl, ht, hf, hw⟩ := hrel
        have PR : Hid (PI kb p wr s4 r4 k4) := by show PI _ _ _ _ _ _; rw [hw]; exact P6.out.below (below_drews _ _) rfl
        have HW := hidden hw
        have hkz : k ≤ z1 := Nat.le_trans hk (Nat.le_of_eq L1.out)
        clear hw hk
        cases bb with
        | false =>
          have hne : a ≠ b := HNE.out (hf rfl)
          have hne2 : (a.toList == b.toList) = false := beq_eq_false_iff_ne.2 (fun h => hne (by rw [Go.ByteArray.toList_eq, Go.ByteArray.toList_eq] at h; exact Go.WideShapes.bytes_inj h))
          clear ht hf
          go_wp2_with (first
            | (go_at_call 14; refine (mArena (p := p) _ PR.out.cells.1).mono ?_; rintro e w' ⟨rfl, hw'⟩; rw [hw']; clear hw' w')
            | (go_at_call 25; refine (size_is W1 (z1 : Int) _ PR.out.ar x10 x11 SZ1.out).mono ?_; rintro e w7 ⟨rfl, m7, hw7⟩; have HW7 := hidden hw7; clear hw7))
          all_goals go_ret
          all_goals exact ⟨rfl, by rw [HW7.out, HW.out]; exact below_drewN (below_drewN B6.out _) _⟩
        | true =>
          have HT := hidden (ht rfl)
          clear ht hf
          by_cases hlt : k < z1
          · have x2 : (k : Int) < (z1 : Int) := by omega
            have hlt2 : k < z2 := by have h1 := HT.out.1; rw [L1.out, L2.out] at h1; omega
            obtain ⟨ge1, gv1⟩ := GT1.out k hlt
            obtain ⟨ge2, gv2⟩ := GT2.out k hlt2
            have GE1 := hidden ge1
            have GV1 := hidden gv1
            have GE2 := hidden ge2
            have GV2 := hidden gv2
            clear ge1 gv1 ge2 gv2
            by_cases hq : F1.getD k 0 = F2.getD k 0
            · have HQ := hidden hq
              have hqb : (F1.getD k 0 == F2.getD k 0) = true := beq_iff_eq.2 hq
              clear hq
              have G1 : Hid (∃ u, F1.getD k 0 = u ∧ F2.getD k 0 = u) := ⟨_, rfl, HQ.out.symm⟩
              obtain ⟨u, e1, e2⟩ := G1.out
              rw [e1] at GV1
              rw [e2] at GV2
              clear hqb G1 e1 e2
              go_wp2_with (first
                | (go_at_call 14; refine (mArena (p := p) _ (by first | exact P8.out.cells.1 | exact P7.out.cells.1 | exact PR.out.cells.1)).mono ?_; rintro e w' ⟨rfl, hw'⟩; rw [hw']; clear hw' w')
                | (go_at_call 25; refine (size_is W1 (z1 : Int) _ PR.out.ar x10 x11 SZ1.out).mono ?_; rintro e w7 ⟨rfl, m7, hw7⟩; have HW7 := hidden hw7; have P7 : Hid (PI kb p w7 s4 r4 k4) := by { show PI _ _ _ _ _ _; rw [hw7]; exact PR.out.below (below_drews _ _) rfl }; clear hw7)
                | (go_at_call 22; refine (get_at W2 k u 0 _ P8.out.ar P8.out.rep.fits x20 x21 GV2.out GE2.out).mono ?_; rintro e w9 ⟨rfl, m9, hw9⟩; have HW9 := hidden hw9; clear hw9)
                | (go_at_call 22; refine (get_at W1 k u 0 _ P7.out.ar P7.out.rep.fits x10 x11 GV1.out GE1.out).mono ?_; rintro e w8 ⟨rfl, m8, hw8⟩; have HW8 := hidden hw8; have P8 : Hid (PI kb p w8 s4 r4 k4) := by { show PI _ _ _ _ _ _; rw [hw8]; exact P7.out.below (below_drews _ _) rfl }; clear hw8))
              go_roundw
              case rel => exact ⟨k + 1, n + (m7 + (m8 + m9)), true, by rw [L1.out]; omega, by go_num, rfl, fun _ => ⟨HT.out.1, fun i hi => (by by_cases e : i < k; exact HT.out.2 i e; have e2 : i = k := (by omega); subst e2; exact HQ.out)⟩, fun h => (by cases h), by rw [HW9.out, HW8.out, HW7.out, HW.out, World.drewN_drewN, World.drewN_drewN, World.drewN_drewN]⟩
              case measure => simp [intOf]; omega
            · have HQ := hidden hq
              have HF : Hid (F1 ≠ F2) := fun h => HQ.out (by rw [h])
              clear hq
              generalize F1.getD k 0 = u1 at *
              generalize F2.getD k 0 = u2 at *
              have hqb : (u1 == u2) = false := beq_eq_false_iff_ne.2 HQ.out
              go_wp2_with (first
                | (go_at_call 14; refine (mArena (p := p) _ (by first | exact P8.out.cells.1 | exact P7.out.cells.1 | exact PR.out.cells.1)).mono ?_; rintro e w' ⟨rfl, hw'⟩; rw [hw']; clear hw' w')
                | (go_at_call 25; refine (size_is W1 (z1 : Int) _ PR.out.ar x10 x11 SZ1.out).mono ?_; rintro e w7 ⟨rfl, m7, hw7⟩; have HW7 := hidden hw7; have P7 : Hid (PI kb p w7 s4 r4 k4) := by { show PI _ _ _ _ _ _; rw [hw7]; exact PR.out.below (below_drews _ _) rfl }; clear hw7)
                | (go_at_call 22; refine (get_at W2 k u2 0 _ P8.out.ar P8.out.rep.fits x20 x21 GV2.out GE2.out).mono ?_; rintro e w9 ⟨rfl, m9, hw9⟩; have HW9 := hidden hw9; clear hw9)
                | (go_at_call 22; refine (get_at W1 k u1 0 _ P7.out.ar P7.out.rep.fits x10 x11 GV1.out GE1.out).mono ?_; rintro e w8 ⟨rfl, m8, hw8⟩; have HW8 := hidden hw8; have P8 : Hid (PI kb p w8 s4 r4 k4) := by { show PI _ _ _ _ _ _; rw [hw8]; exact P7.out.below (below_drews _ _) rfl }; clear hw8))
              go_roundw
              case rel => exact ⟨k + 1, n + (m7 + (m8 + m9)), false, by rw [L1.out]; omega, by go_num, rfl, fun h => (by cases h), fun _ => HF.out, by rw [HW9.out, HW8.out, HW7.out, HW.out, World.drewN_drewN, World.drewN_drewN, World.drewN_drewN]⟩
              case measure => simp [intOf]; omega
          · have ek : k = z1 := by omega
            have heq : a = b := HEQ.out (list_same HT.out.1 (fun i hi => HT.out.2 i (by have h1 := L1.out; have h2 := HT.out.1; omega)))
            subst heq
            have hnl : ¬ ((k : Int) < (z1 : Int)) := by omega
            go_wp2_with (first
              | (go_at_call 14; refine (mArena (p := p) _ PR.out.cells.1).mono ?_; rintro e w' ⟨rfl, hw'⟩; rw [hw']; clear hw' w')
              | (go_at_call 25; refine (size_is W1 (z1 : Int) _ PR.out.ar x10 x11 SZ1.out).mono ?_; rintro e w7 ⟨rfl, m7, hw7⟩; have HW7 := hidden hw7; clear hw7))
            all_goals go_ret
            all_goals exact ⟨rfl, by rw [HW7.out, HW.out]; exact below_drewN (below_drewN B6.out _) _⟩
end Go.Proofs.Ytlhcleocdlnbdaa
