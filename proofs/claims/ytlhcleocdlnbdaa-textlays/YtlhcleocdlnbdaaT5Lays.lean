/-
  Layer 5: the law that lays: text after text, the program's and the document's own alike, and what was laid is read. Condition: the program's text does as the document's own (TextC, LayC), and is awake.
-/
import Derived.Test.YtlhcleocdlnbdaaT5Two
namespace Go.Proofs.Ytlhcleocdlnbdaa
open Go.ChangeShapes Go.WideShapes Go.ChangeAt Go.RowKit Go.Deep
set_option linter.unusedVariables false
set_option maxHeartbeats 1000000

/-- Where the loop over the texts is. -/
def LaysAt (w : World) (kb : Nat) (p : Pl) (kb2 rb : Nat) (rv kv : Value) (wr : World) : Prop :=
  ∃ (j : Nat) (s : St) (r : RS) (k : Int) (m : Shape) (n g c : Nat) (X : Nat → Int), j ≤ 40 ∧ kv = .int .i64 j ∧ rv = .slice (some ⟨g, 0, none⟩) n c ∧ n ≤ 1 ∧ Own wr g n X ∧ (∀ i, i < n → R64 (X i)) ∧ rb < g ∧ ¬ Mown kb2 rb r.L.length m g ∧ Two5 wr kb p s kb2 rb r k m ∧ Below w.heap.size w wr
theorem tlays_no (hAw : AwakeC) (b : ByteArray) (n times : Int) (w : World) (h : n < 2 ∨ 32768 < n) :
    Calls Try.prog 3 #[.string b, .int .i64 n, .int .i64 times] w fun e w' => e = .returned (.bool true) ∧ Below w.heap.size w w' := by
  have HAW := hidden hAw
  have HH := hidden h
  clear hAw h
  go_enter Try.func3, Try.ntmps3
  go_wp2_with (first
    | (go_at_call 8; refine (HAW.out _).mono ?_; rintro e w1 ⟨rfl, hb1⟩; have B1 := hidden hb1; clear hb1)
    | (go_at_call 9; refine (mNew_no n _ HH.out).mono ?_; rintro e w2 ⟨rfl, hw⟩; rw [hw]; clear hw w2)
    | (go_at_call 10; refine (r4new_no n _ HH.out).mono ?_; rintro e w2 ⟨rfl, hw⟩; rw [hw]; clear hw w2))
  all_goals go_ret
  all_goals exact ⟨rfl, B1.out⟩
theorem good_four {kb : Nat} {p : Pl} {w : World} {s : St} {r : RS} {k : Int} (h : PI kb p w s r k) : 4 ≤ w.heap.size := by
  obtain ⟨cur, hc, _⟩ := h.ar.hc
  obtain ⟨cur2, hb, _⟩ := h.ar.hb
  have ha := h.ar.ha
  have hh := h.ar.hh
  have n1 : p.a ≠ p.h := ty_two ha hh (by decide)
  have n2 : p.a ≠ p.c := ty_two ha hc (by decide)
  have n3 : p.a ≠ p.b := ty_two ha hb (by decide)
  have n4 : p.h ≠ p.c := ty_two hh hc (by decide)
  have n5 : p.h ≠ p.b := ty_two hh hb (by decide)
  have n6 : p.c ≠ p.b := ty_two hc hb (by decide)
  have l1 := lt_of_some ha
  have l2 := lt_of_some hh
  have l3 := lt_of_some hc
  have l4 := lt_of_some hb
  omega
theorem mown_zero {kb2 rb : Nat} {c : Nat} {V : Nat → Value} {q : Nat} (h : Mown kb2 rb 0 (none, c, V) q) : q = kb2 ∨ q = rb := by
  rcases h with e | (e | e) | ⟨i, hi, _⟩
  · exact Or.inl e
  · exact Or.inr e
  · cases e
  · exact absurd hi (Nat.not_lt_zero _)
set_option maxRecDepth 100000 in
theorem tlays_yes (H : TextC) (HL : LayC) (hAw : AwakeC) (b : ByteArray) (n : Nat) (times : Int) (w : World) (h1 : 2 ≤ n) (h2 : n ≤ 32768) :
    Calls Try.prog 3 #[.string b, .int .i64 n, .int .i64 times] w fun e w' => e = .returned (.bool true) ∧ Below w.heap.size w w' := by
  have HAW := hidden hAw
  have HH := hidden H
  have HLY := hidden HL
  have HBL := hidden (bytesS_len b)
  have HBB := hidden (bytes_back b)
  clear hAw H HL
  go_enter Try.func3, Try.ntmps3
  go_wp2_with (first
    | (go_at_call 8; refine (HAW.out _).mono ?_; rintro e w1 ⟨rfl, hb1⟩; have B1 := hidden hb1; clear hb1)
    | (go_at_call 9; refine (mNew_yes n _ h1 h2).mono ?_; rintro e w2 ⟨kb, p, rfl, pi2, b2, hp2⟩; have PI2 := hidden pi2; have B2 : Hid (Below w.heap.size w w2) := B1.out.trans (b2.mono B1.out.size); have HP2 : Hid (∀ q, Pown kb p q → w.heap.size ≤ q) := fun q hq => Nat.le_trans B1.out.size (hp2 q hq); have H4 : Hid (4 ≤ w2.heap.size) := good_four pi2; clear pi2 b2 hp2)
    | (go_at_call 10; refine (r4new_yes n _ h1 h2 H4.out).mono ?_; rintro e w3 ⟨kb2, rb, rfl, mi3, b3, k3, r3⟩; have T3 : Hid (Two5 w3 kb p (St.new n) kb2 rb ⟨n, 0, []⟩ 0 (none, 0, fun _ => .slice none 0 0)) := ⟨PI2.out.below b3 rfl, mi3, fun q hq => Nat.lt_of_lt_of_le (PI2.out.lt q hq) r3⟩; have B3 : Hid (Below w.heap.size w w3) := B2.out.trans (b3.mono B2.out.size); have K3 := hidden (Nat.le_trans B2.out.size k3); have R3 := hidden (Nat.le_trans B2.out.size r3); clear mi3 b3 k3 r3))
  clear PI2 B1 B2 H4
  have g3 : rb < w3.heap.size := (T3.out.mi.lt rb (Or.inr (Or.inl (Or.inl rfl))))
  have O3 : Hid (Own (w3.alloc (.cells #[] 29)) w3.heap.size 0 (fun _ => 0)) := ⟨#[], blk_alloc_new _ _, fun i hi => absurd hi (Nat.not_lt_zero _)⟩
  have T4 := hidden (T3.out.below ((Below.refl _ _).alloc (Nat.le_refl _) (.cells #[] 29)) rfl)
  have B4 := hidden (B3.out.alloc B3.out.size (.cells #[] 29))
  have NM : Hid (¬ Mown kb2 rb 0 (none, 0, fun _ => Value.slice none 0 0) w3.heap.size) := fun hc => by
    have := T3.out.mi.lt w3.heap.size hc
    omega
  generalize w3.alloc (.cells #[] 29) = w4 at *
  go_loopw [9, 10] (fun rv kv wr => LaysAt w kb p kb2 rb rv kv wr) (fun _ kv _ => 40 - (intOf kv).toNat)
  case atStart => exact ⟨0, St.new n, ⟨n, 0, []⟩, 0, (none, 0, fun _ => .slice none 0 0), 0, w3.heap.size, 0, fun _ => 0, by omega, rfl, rfl, by omega, O3.out, fun i hi => absurd hi (Nat.not_lt_zero _), g3, NM.out, T4.out, B4.out⟩
  case round =>
    clear O3 T4 B4 NM T3 B3 g3
    obtain ⟨j, s, r, k, m, nr, g, c, X, hj, rfl, rfl, hn, hown, hX, hg, hnm, hT, hb⟩ := hrel
    have HT := hidden hT
    have HB := hidden hb
    have HO := hidden hown
    have HX := hidden hX
    have HNM := hidden hnm
    have HG := hidden hg
    clear hT hb hown hX hnm hg
    by_cases hlt : (j : Int) < times
    · by_cases h40 : j < 40
      · have HWS : Hid (∀ w', Own w' g nr X → WS w' (some ⟨g, 0, none⟩) nr c X) := fun w' ho => ws_own ho (fun i hi => (HX.out i hi).1) (fun i hi => (HX.out i hi).2)
        have HNP : Hid (¬ Pown kb p g) := fun hp => by have := HT.out.lt g hp; have := HG.out; omega
        have HLT := hidden HT.out.mi.lt
        have HRD := hidden (fun s1 => lay_read (s1 := s1) (k := k) (n := nr) (X := X) (bytesS b) (pick_good HT.out.pi.good) wr)
        have HLA := hidden (HLY.out.lay (X := X) b wr HT.out.pi (HWS.out wr HO.out) (by omega))
        have HRL : Hid (∀ w1, Only (Pown kb p) wr w1 → Calls Try.prog 12 #[.pointer (some ⟨kb2, 0, none⟩), .string b, .slice (some ⟨g, 0, none⟩) nr c] w1 fun e w' => RAllocAs kb2 rb r.L.length m nr (layOf r k nr X (bytesS b)).1 (layOf r k nr X (bytesS b)).2.1 (layOf r k nr X (bytesS b)).2.2.1 (layOf r k nr X (bytesS b)).2.2.2.1 (layOf r k nr X (bytesS b)).2.2.2.2 w1 e w') := fun w1 o1 => rlay_any b w1 (HT.out.left o1) (HWS.out w1 (HO.out.frame o1 HNP.out)) (fun ad e _ => by cases e; exact HNM.out) (by omega)
        clear HWS
        generalize layOf r k nr X (bytesS b) = o at *
        obtain ⟨E, W, Y, r1, k1⟩ := o
        by_cases hE : E = 0
        · subst hE
          go_wp2_with (first
            | (go_at_call 11; refine HLA.out.mono ?_; rintro e w5 ⟨s5, now5, rfl, pi5, on5, _, h05⟩; obtain ⟨al5, c5, rfl, ws5, hf5, hal5⟩ := h05 rfl; obtain ⟨g5, rfl⟩ := hal5 (by simp); have PI5 := hidden pi5; have ON5 := hidden on5; have WS5 := hidden ws5; have G5 := hidden (hf5 _ rfl); have TX := hidden (HRD.out s5 rfl pi5.rep); clear pi5 on5 h05 ws5 hf5 hal5)
            | (go_at_call 12; refine (HRL.out _ ON5.out).mono ?_; rintro e w6 ⟨now6, m6, rfl, mi6, on6, q6, _, t6⟩; obtain ⟨g6, c6, rfl, o6, gg6, nm6⟩ := t6 rfl; have T6 := hidden (HT.out.right PI5.out ON5.out mi6 on6); have ON6 := hidden on6; have O6 := hidden o6; have WS6 := hidden (WS5.out.frame on6 (fun ad e _ hq => by cases e; have := HLT.out _ hq; have := G5.out; simp only at *; omega)); clear mi6 on6 q6 t6 o6 gg6 nm6))
          have B6 : Hid (Below w.heap.size w w6) := (HB.out.trans (ON5.out.below HB.out.size (fun q hq hp => by have := HP2.out q hp; omega))).trans (ON6.out.below (Nat.le_trans HB.out.size ON5.out.size) (fun q hq hm => by rcases mown_ge HT.out.mi hm with e | e; have := K3.out; omega; have := R3.out; omega))
          clear HB HT HO HX HNM HLT HRD HLA HRL WS5 PI5 ON5 ON6 G5
          go_loopw [83] (fun jv wr => ∃ i q : Nat, i ≤ nr ∧ jv = .int .i64 i ∧ wr = w6.drewN q) (fun jv _ => nr - (intOf jv).toNat)
          case atStart => exact ⟨0, 0, Nat.zero_le _, rfl, rfl⟩
          case round =>
            obtain ⟨i, q, hi, rfl, hw⟩ := hrel
            have HW := hidden hw
            by_cases hlt2 : i < nr
            · have ei : i = 0 := by omega
              subst ei
              obtain ⟨ad, e, hc⟩ := WS6.out.cell 0 hlt2
              cases e
              have y1 : wr.cell? ⟨g5, 0, none⟩ = some (.int .u64 (Y 0)) := by rw [hw]; exact hc
              have y2 : wr.cell? ⟨g6, 0, none⟩ = some (.int .u64 (Y 0)) := by rw [hw]; exact O6.out.cell hlt2
              have x2 : ((0 : Nat) : Int) < (nr : Int) := by omega
              have x3 : (0 : Int) < (nr : Int) := by omega
              clear hw hc
              generalize Y 0 = fv at *
              go_wp2
              go_quiet (fail)
              go_wp2
              go_roundw
              case rel => exact ⟨1, _, by omega, rfl, by rw [HW.out]; exact World.drewN_drewN _ _ _⟩
              case measure => simp [intOf]; omega
            · have hnl : ¬ ((i : Int) < (nr : Int)) := by omega
              have TR : Hid (Two5 wr kb p s5 kb2 rb r1 k1 m6) := by show Two5 _ _ _ _ _ _ _ _ _; rw [hw]; exact T6.out.drewN q
              have BR6 : Hid (Below w.heap.size w wr) := by show Below _ _ _; rw [hw]; exact below_drewN B6.out q
              have T7 := hidden (TR.out.below ((Below.refl _ _).alloc (Nat.le_refl _) (.cells #[.int .u64 W] 29)) rfl)
              have B7 := hidden (BR6.out.alloc BR6.out.size (.cells #[.int .u64 W] 29))
              have O7 : Hid (Own (wr.alloc (.cells #[.int .u64 W] 29)) wr.heap.size 1 (fun _ => W)) := ⟨_, blk_alloc_new _ _, fun i hi => by have : i = 0 := (by omega); subst this; rfl⟩
              have TXL : Hid (((textAt s5 r1 W).1.getD []).length = b.size) := by show _ = _; rw [show textAt s5 r1 W = (some (bytesS b), 0) from TX.out.1]; exact HBL.out
              have TXB : Hid (ByteArray.mk ((textAt s5 r1 W).1.getD []).toArray = b) := by show _ = _; rw [show textAt s5 r1 W = (some (bytesS b), 0) from TX.out.1]; exact HBB.out
              have TXE : Hid ((textAt s5 r1 W).2 = 0) := by show _ = _; rw [show textAt s5 r1 W = (some (bytesS b), 0) from TX.out.1]
              have W0 : 0 ≤ W := TX.out.2.1
              have W1 : W ≤ 18446744073709551615 := TX.out.2.2.1
              have hbs : b.size ≤ 4096 := by have := TX.out.2.2.2; rw [HBL.out] at this; exact this
              have HGN : Hid (rb < wr.heap.size) := TR.out.mi.lt rb (Or.inr (Or.inl (Or.inl rfl)))
              have NM7 : Hid (¬ Mown kb2 rb r1.L.length m6 wr.heap.size) := fun hc => by have := TR.out.mi.lt _ hc; omega
              clear hw TX T6 TR BR6
              go_upto_region 24 with (fail)
              generalize wr.alloc (.cells #[.int .u64 W] 29) = w7 at *
              go_wp2_with (first
                | (go_at_call 14; refine (mArena (p := p) _ (by first | exact T8.out.pi.cells.1 | exact T7.out.pi.cells.1)).mono ?_; rintro e w' ⟨rfl, hw'⟩; rw [hw']; clear hw' w')
                | (go_at_call 13; refine (HH.out.length W _ T7.out.pi.ar T7.out.pi.rep W0 W1).mono ?_; rintro e w8 ⟨rfl, hb8⟩; rw [TXL.out, TXE.out]; have T8 := hidden (T7.out.below hb8 rfl); have O8 := hidden (O7.out.of_block (hb8.block _ O7.out.lt)); have B8 := hidden (B7.out.trans (hb8.mono B7.out.size)); clear hb8)
                | (go_at_call 15; refine (HH.out.read W _ T8.out.pi.ar T8.out.pi.rep W0 W1).mono ?_; rintro e w9 ⟨rfl, hb9⟩; rw [TXB.out, TXE.out]; have T9 := hidden (T8.out.below hb9 rfl); have O9 := hidden (O8.out.of_block (hb9.block _ O8.out.lt)); have B9 := hidden (B8.out.trans (hb9.mono B8.out.size)); clear hb9))
              go_roundw
              case rel => exact ⟨j + 1, s5, r1, k1, m6, 1, wr.heap.size, 1, fun _ => W, by omega, by go_num, rfl, by omega, O9.out, fun i hi => ⟨W0, W1⟩, HGN.out, NM7.out, T9.out, B9.out⟩
              case measure => simp [intOf]; omega
        · have hE2 : (E == 0) = false := beq_eq_false_iff_ne.2 hE
          have HE := hidden hE
          clear hE
          go_wp2_with (first
            | (go_at_call 11; refine HLA.out.mono ?_; rintro e w5 ⟨s5, now5, rfl, pi5, on5, hno5, _⟩; obtain ⟨al5, c5, rfl⟩ := hno5 HE.out; have PI5 := hidden pi5; have ON5 := hidden on5; clear pi5 on5 hno5)
            | (go_at_call 12; refine (HRL.out _ ON5.out).mono ?_; rintro e w6 ⟨now6, m6, rfl, mi6, on6, q6, f6, _⟩; rw [f6 HE.out]; have MI6 := hidden mi6; have ON6 := hidden on6; clear mi6 on6 q6 f6))
          have B6 : Hid (Below w.heap.size w w6) := (HB.out.trans (ON5.out.below HB.out.size (fun q hq hp => by have := HP2.out q hp; omega))).trans (ON6.out.below (Nat.le_trans HB.out.size ON5.out.size) (fun q hq hm => by rcases mown_ge HT.out.mi hm with e | e; have := K3.out; omega; have := R3.out; omega))
          go_loopw [83] (fun jv wr => jv = .int .i64 0 ∧ wr = w6) (fun _ _ => 0)
          case atStart => exact ⟨rfl, rfl⟩
          case round =>
            obtain ⟨rfl, rfl⟩ := hrel
            go_wp2_with fail
            go_ret
            exact ⟨rfl, B6.out⟩
      · have e40 : j = 40 := by omega
        subst e40
        go_wp2_with fail
        go_ret
        exact ⟨rfl, HB.out⟩
    · go_wp2_with fail
      go_ret
      exact ⟨rfl, HB.out⟩
end Go.Proofs.Ytlhcleocdlnbdaa
