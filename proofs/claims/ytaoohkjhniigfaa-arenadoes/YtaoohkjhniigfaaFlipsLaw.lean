/-
  ArenaFlips: whatever number of cells, steps and sizes are handed to it, the call returns true and writes nothing that was there. Condition: the slices lie in memory.
-/
import Derived.Test.YtaoohkjhniigfaaPlay
import Derived.Test.YtaoohkjhniigfaaBlocks
namespace Go.Proofs.Ytaoohkjhniigfaa
open Go.ChangeShapes Go.WideShapes Go.ChangeAt Go.RowKit Go.Deep
set_option linter.unusedVariables false
set_option maxHeartbeats 2000000

theorem two_new {w1 w2 : World} {n : Nat} {p : Pl} (ha : Ar w1 p (St.new n)) (hr : Rf w2 w1.heap.size ⟨n, 0, []⟩ none 0 (fun _ => .slice none 0 0)) (hb : Below w1.heap.size w1 w2) : Two w2 p (St.new n) w1.heap.size ⟨n, 0, []⟩ none 0 (fun _ => .slice none 0 0) := by
  have ha2 : Ar w2 p (St.new n) := ha.frame (S := fun _ => False) (Only.of_below hb) id id id id
  exact ⟨ha2, ⟨⟨_, ha2⟩, hr, rep_new n, lt_of_some ha.ha, lt_of_some ha.hh, ha.hc.lt, ha.hb.lt⟩⟩
theorem steps_below {w w' : World} {al : Option Addr} {len : Nat} {S : Nat → Stp} (h : Steps w w.heap.size al len S) (hb : Below w.heap.size w w') : Steps w' w.heap.size al len S := by
  intro i hi
  obtain ⟨x, e, x0, y0, y1, y2, y3, y4, r⟩ := h i hi
  exact ⟨x, e, x0, (hb.cell x0).trans y0, (hb.cell (p := ⟨(x.add (i * 5)).block, (x.add (i * 5)).off + 1, none⟩) x0).trans y1, (hb.cell (p := ⟨(x.add (i * 5)).block, (x.add (i * 5)).off + 2, none⟩) x0).trans y2,
    (hb.cell (p := ⟨(x.add (i * 5)).block, (x.add (i * 5)).off + 3, none⟩) x0).trans y3, (hb.cell (p := ⟨(x.add (i * 5)).block, (x.add (i * 5)).off + 4, none⟩) x0).trans y4, r⟩
theorem flips_no (n : Int) (al : Option Addr) (ll cl : Nat) (a2 : Option Addr) (l2 c2 : Nat) (w : World) (h : n < 2 ∨ 32768 < n) :
    Calls Try.prog 7 #[.int .i64 n, .slice al ll cl, .slice a2 l2 c2] w fun e w' => e = .returned (.bool true) ∧ Below w.heap.size w w' := by
  go_enter Try.func7, Try.ntmps7
  go_wp2_with (first | (go_at_call 8; refine (awake_any _).mono ?_; rintro e w0 ⟨rfl, b0⟩) | (go_at_call 9; refine (new_no n _ h).mono ?_; rintro e w' ⟨rfl, rfl⟩) | (go_at_call 10; refine (rnew_no n _ h).mono ?_; rintro e w' ⟨rfl, rfl⟩))
  all_goals go_ret
  all_goals exact ⟨rfl, b0⟩
theorem flip_top (s : St) : s.flip.top = s.flip.base := rfl
theorem allocE_flip {sa so : St} (h1 : sa.n = so.n) (h2 : so.base = 0) (h3 : sa.top = sa.base + so.top) (t z : Int) : sa.allocE t z = so.allocE t z := by
  unfold St.allocE
  by_cases c : St.mayLie t = false
  · rw [if_pos c, if_pos c]
  · rw [if_neg c, if_neg c]
    by_cases c2 : z < 0 ∨ 4096 < z
    · rw [if_pos c2, if_pos c2]
    · rw [if_neg c2, if_neg c2]
      by_cases c3 : (sa.base : Int) + sa.n < sa.top + z + 1
      · rw [if_pos c3, if_pos (by omega)]
      · rw [if_neg c3, if_neg (by omega)]
theorem alloc_flip {sa so : St} (h1 : sa.n = so.n) (h2 : so.base = 0) (h3 : sa.top = sa.base + so.top) (t z : Int) : (sa.alloc t z).n = (so.alloc t z).n ∧ (so.alloc t z).base = 0 ∧ (sa.alloc t z).top = (sa.alloc t z).base + (so.alloc t z).top ∧ (sa.alloc t z).base = sa.base := by
  have e := allocE_flip h1 h2 h3 t z
  unfold St.alloc
  rw [e]
  by_cases c : so.allocE t z = 0
  · rw [if_pos c, if_pos c]
    refine ⟨h1, h2, ?_, rfl⟩
    show sa.top + z.toNat + 1 = sa.base + (so.top + z.toNat + 1)
    omega
  · rw [if_neg c, if_neg c]
    exact ⟨h1, h2, h3, rfl⟩
theorem base_is {p : Pl} {s : St} (b : Nat) (w : World) (h : Ar w p s) (hb : s.base = b) :
    Calls Try.prog 13 #[.pointer (some ⟨p.a, 0, none⟩)] w fun e w' => e = .returned (.int .i64 b) ∧ w' = w := by
  subst hb; exact base_any w h
theorem flips_yes (n : Int) (al : Option Addr) (ll cl : Nat) (S : Nat → Stp) (a2 : Option Addr) (l2 c2 : Nat) (Z : Nat → Int) (w : World) (h1 : 2 ≤ n) (h2 : n ≤ 32768) (hl : ll ≤ maxLen) (hl2 : l2 ≤ maxLen)
    (hS : Steps w w.heap.size al ll S) (hc : ∀ i, i < l2 → ∃ x : Addr, a2 = some x ∧ (x.add i).block < w.heap.size ∧ w.cell? (x.add i) = some (.int .u8 (Z i)) ∧ 0 ≤ Z i ∧ Z i ≤ 255) :
    Calls Try.prog 7 #[.int .i64 n, .slice al ll cl, .slice a2 l2 c2] w fun e w' => e = .returned (.bool true) ∧ Below w.heap.size w w' := by
  have HS : Hid _ := hS
  have HC : Hid _ := hc
  have HL : Hid _ := hl
  unfold maxLen at hl2
  clear hS hc hl
  go_enter Try.func7, Try.ntmps7
  go_wp2_with fail
  refine (awake_any _).mono ?_
  rintro e w0 ⟨rfl, b0⟩
  go_wp2_with fail
  refine (new_at n _ h1 h2).mono ?_
  rintro e w1 ⟨p, rfl, ha, b1, i1, i2, i3, i4⟩
  have B := b0.size
  have hB := b0.trans (b1.mono B)
  have j1 : w.heap.size ≤ p.a := by omega
  have j2 : w.heap.size ≤ p.h := by omega
  have j3 : w.heap.size ≤ p.c := by omega
  have j4 : w.heap.size ≤ p.b := by omega
  have HS1 : Hid (Steps w1 w.heap.size al ll S) := steps_below HS.out hB
  clear b0 b1 i1 i2 i3 i4 B
  go_wp2_with fail
  refine (rnew_yes n _ h1 h2).mono ?_
  rintro e w2 ⟨rfl, hr, b2⟩
  have h0 := two_new ha hr b2
  have hB2 := hB.trans (b2.mono hB.size)
  have HS2 : Hid (Steps w2 w.heap.size al ll S) := steps_below HS.out hB2
  clear hr ha HS1 hB
  generalize w1.heap.size = rb at h0 ⊢
  go_wp2_with fail
  refine (play_any n.toNat w.heap.size al ll cl S _ h0 rfl HL.out HS2.out ⟨j1, j2, j3, j4⟩ hB2.size).mono ?_
  rintro e w3 ⟨rfl, s, r, a, cap, V, h3, hn, b3⟩
  have hB3 := hB2.trans b3
  clear h0 hB2 b3 HS2
  go_wp2_with fail
  refine (flip_any _ h3.ar).mono ?_
  rintro e w4 ⟨rfl, h4, o4⟩
  have hB4 := hB3.trans (o4.under hB3.size j2 j3 j4)
  have hrep := rep_flip h3.bo.rep
  have HR : Hid _ := hrep
  have HN : Hid (s.flip.n = n.toNat) := hn
  clear h3 hn hB3 o4 hrep
  go_wp2_with fail
  refine (new_at n _ h1 h2).mono ?_
  rintro e w5 ⟨po, rfl, ho, b5, k1, k2, k3, k4⟩
  have h5 : Ar w5 p s.flip := h4.frame (S := fun _ => False) (Only.of_below b5) id id id id
  have m1 := lt_of_some h4.ha
  have m2 := lt_of_some h4.hh
  have m3 := h4.hc.lt
  have m4 := h4.hb.lt
  have hB5 := hB4.trans (b5.mono hB4.size)
  have hz := hB4.size
  clear h4 hB4 b5
  go_wp2_with (first | (go_at_call 20; refine (top_is _ _ h5 rfl).mono ?_; rintro e w' ⟨rfl, hw'⟩; rw [hw']; clear hw' w') | (go_at_call 13; refine (base_any _ h5).mono ?_; rintro e w' ⟨rfl, hw'⟩; rw [hw']; clear hw' w') | (go_at_call 14; refine (blocks_any 0 _ h5 HR.out rfl).mono ?_; rintro e w6 ⟨ba, bc, rfl, _, _, b6⟩))
  have h6 : Ar w6 p s.flip := h5.frame (S := fun _ => False) (Only.of_below b6) id id id id
  have ho6 : Ar w6 po (St.new n.toNat) := ho.frame (S := fun _ => False) (Only.of_below b6) id id id id
  have hB6 := hB5.trans (b6.mono hB5.size)
  have d1 : p.h < po.a ∧ p.c < po.a ∧ p.b < po.a := by omega
  have d2 : p.h < po.h ∧ p.c < po.h ∧ p.b < po.h := by omega
  have d3 : p.h < po.c ∧ p.c < po.c ∧ p.b < po.c := by omega
  have d4 : p.h < po.b ∧ p.c < po.b ∧ p.b < po.b := by omega
  have d5 : p.a < po.h ∧ p.a < po.c ∧ p.a < po.b := by omega
  have g2 : w.heap.size ≤ po.h := by omega
  have g3 : w.heap.size ≤ po.c := by omega
  have g4 : w.heap.size ≤ po.b := by omega
  clear h5 ho hB5 b6 k1 k2 k3 k4 m1 m2 m3 m4 hz j1 HR
  have hb0 := h6.b1
  have hn2 := h6.n2
  generalize hfb : s.flip.base = fb at *
  have HF : Hid _ := hfb
  clear hfb
  go_loopw [10] (fun i wr => ∃ (k : Nat) (sa so : St), k ≤ 60 ∧ k ≤ l2 ∧ i = .int .i64 k ∧ Ar wr p sa ∧ Ar wr po so ∧ sa.n = so.n ∧ so.base = 0 ∧ sa.top = sa.base + so.top ∧ sa.base = fb ∧ Below w.heap.size w wr) (fun i _ => 60 - (intOf i).toNat)
  case atStart => exact ⟨0, s.flip, St.new n.toNat, by omega, by omega, rfl, h6, ho6, HN.out, rfl, rfl, HF.out, hB6⟩
  case round =>
    clear h6 ho6 hB6
    obtain ⟨k, sa, so, hk, hkl, rfl, ha, ho, e1, e2, e3, e4, hb⟩ := hrel
    have E1 : Hid _ := e1
    have E2 : Hid _ := e2
    have E3 : Hid _ := e3
    have E4 : Hid _ := e4
    have t2 := ha.t2
    have n2 := ha.n2
    by_cases hlt : k < l2
    · by_cases h60 : k < 60
      · obtain ⟨x, rfl, hx, hcell, v0, v1⟩ := HC.out k hlt
        have hcx := (hb.cell hx).trans hcell
        generalize Z k = v at *
        have HCELL : Hid _ := hcell
        have HEQ : Hid (sa.allocE ((k : Int) % 200) v = so.allocE ((k : Int) % 200) v) := allocE_flip e1 e2 e3 _ _
        have HAL : Hid _ := alloc_flip e1 e2 e3 ((k : Int) % 200) v
        by_cases full : so.allocE ((k : Int) % 200) v = 0
        · have HX : Hid (sa.allocW ((k : Int) % 200) v = 2 * (fb + so.top + 1)) := by show _ = _; unfold St.allocW; rw [if_pos (HEQ.out.trans full), e3, e4]; omega
          have HY : Hid (so.allocW ((k : Int) % 200) v = 2 * (so.top + 1)) := by show _ = _; unfold St.allocW; rw [if_pos full]
          have HE : Hid _ := HEQ.out.trans full
          have HF0 : Hid _ := full
          have q1 : (fb : Int) ≤ 65536 := by omega
          have q2 : (so.top : Int) ≤ 65536 := by omega
          clear e1 e2 e3 e4 full hcell
          go_wp2_with fail
          refine (alloc_at _ _ (2 * (fb + so.top + 1)) 0 _ ha HX.out HE.out).mono ?_
          rintro e w7 ⟨rfl, ha7, o7⟩
          have hb7 := hb.trans (o7.under hb.size j2 j3 j4)
          have hx7 := (hb7.cell hx).trans HCELL.out
          have ho7 : Ar w7 po so := ho.frame o7 (by unfold Pl.own; omega) (by unfold Pl.own; omega) (by unfold Pl.own; omega) (by unfold Pl.own; omega)
          clear hcx o7 ha ho
          go_wp2_with fail
          refine (alloc_at _ _ (2 * (so.top + 1)) 0 _ ho7 HY.out HF0.out).mono ?_
          rintro e w8 ⟨rfl, ho8, o8⟩
          have hb8 := hb7.trans (o8.under hb7.size g2 g3 g4)
          have ha8 : Ar w8 p (sa.alloc ((k : Int) % 200) v) := ha7.frame o8 (by unfold Pl.own; omega) (by unfold Pl.own; omega) (by unfold Pl.own; omega) (by unfold Pl.own; omega)
          obtain ⟨f1, f2, f3, f4⟩ := HAL.out
          have F1 : Hid _ := f1
          have F2 : Hid _ := f2
          have F3 : Hid _ := f3
          have F4 : Hid ((sa.alloc ((k : Int) % 200) v).base = fb) := f4.trans E4.out
          clear hx7 o8 ha7 ho7 f1 f2 f3 f4
          go_wp2_with (go_at_call 13; refine (base_is _ _ ha8 F4.out).mono ?_; rintro e w' ⟨rfl, hw'⟩; rw [hw']; clear hw' w')
          all_goals go_roundw
          case rel => exact ⟨k + 1, _, _, by omega, by omega, by go_num, ha8, ho8, F1.out, F2.out, F3.out, F4.out, hb8⟩
          case measure => simp [intOf]; omega
        · have HE : Hid _ := HEQ.out
          have HX : Hid (sa.allocW ((k : Int) % 200) v = 0) := by show _ = _; unfold St.allocW; rw [if_neg (by rw [HEQ.out]; exact full)]
          have HY : Hid (so.allocW ((k : Int) % 200) v = 0) := by show _ = _; unfold St.allocW; rw [if_neg full]
          have G : (so.allocE ((k : Int) % 200) v == 0) = false := beq_eq_false_iff_ne.2 full
          clear e1 e2 e3 e4 full hcell
          go_wp2_with fail
          refine (alloc_at _ _ 0 (so.allocE ((k : Int) % 200) v) _ ha HX.out HE.out).mono ?_
          rintro e w7 ⟨rfl, ha7, o7⟩
          have hb7 := hb.trans (o7.under hb.size j2 j3 j4)
          have hx7 := (hb7.cell hx).trans HCELL.out
          have ho7 : Ar w7 po so := ho.frame o7 (by unfold Pl.own; omega) (by unfold Pl.own; omega) (by unfold Pl.own; omega) (by unfold Pl.own; omega)
          clear hcx o7 ha ho
          go_wp2_with fail
          refine (alloc_at _ _ 0 (so.allocE ((k : Int) % 200) v) _ ho7 HY.out rfl).mono ?_
          rintro e w8 ⟨rfl, ho8, o8⟩
          have hb8 := hb7.trans (o8.under hb7.size g2 g3 g4)
          have ha8 : Ar w8 p (sa.alloc ((k : Int) % 200) v) := ha7.frame o8 (by unfold Pl.own; omega) (by unfold Pl.own; omega) (by unfold Pl.own; omega) (by unfold Pl.own; omega)
          obtain ⟨f1, f2, f3, f4⟩ := HAL.out
          have F1 : Hid _ := f1
          have F2 : Hid _ := f2
          have F3 : Hid _ := f3
          have F4 : Hid ((sa.alloc ((k : Int) % 200) v).base = fb) := f4.trans E4.out
          clear hx7 o8 ha7 ho7 f1 f2 f3 f4
          go_wp2_with fail
          go_roundw
          case rel => exact ⟨k + 1, _, _, by omega, by omega, by go_num, ha8, ho8, F1.out, F2.out, F3.out, F4.out, hb8⟩
          case measure => simp [intOf]; omega
      · go_wp2_with fail
        go_ret
        exact ⟨rfl, hb⟩
    · go_wp2_with fail
      go_ret
      exact ⟨rfl, hb⟩
end Go.Proofs.Ytaoohkjhniigfaa
