/-
  Layer 5: what the statements' own lay makes: one block with given fields in both arenas, or none. Condition: the fields lie in memory.
-/
import Derived.Test.YtlhcleocdlnbdaaR5Lay
import Derived.Test.YtlhcleocdlnbdaaLibB
namespace Go.Proofs.Ytlhcleocdlnbdaa
open Go.ChangeShapes Go.WideShapes Go.ChangeAt Go.RowKit Go.Deep
set_option linter.unusedVariables false
set_option maxHeartbeats 1000000

variable {w w' : World} {p : Pl} {s : St} {rb : Nat} {r : RS} {a : Option Addr} {cap : Nat} {V : Nat → Value}
theorem below_right {w4 w5 : World} {B : Nat} (hb : Below B w w4) (h : Both w4 p s rb r a cap V) (o : Only (Rown rb a) w4 w5) (hrb : B ≤ rb) : Below B w w5 := by
  have := lt_of_some h.rf.hr
  exact hb.trans (o.below (by omega) (fun q hq hs => by have := (rown_old h q hs).1; omega))
/-- Both arenas hold one block with these fields. -/
def LaidYes (t : Int) (F : List Int) (w : World) (e : Ending) (w' : World) : Prop :=
  ∃ (p : Pl) (rb : Nat) (s : St) (a : Option Addr) (cap : Nat) (V : Nat → Value), e = .returned (.tuple #[.pointer (some ⟨p.a, 0, none⟩), .pointer (some ⟨rb, 0, none⟩), .int .u64 2]) ∧ Two w' p s rb ⟨64, 0, [⟨1, t, F⟩]⟩ a cap V ∧ Below w.heap.size w w' ∧ w.heap.size ≤ p.a ∧ w.heap.size ≤ p.h ∧ w.heap.size ≤ p.c ∧ w.heap.size ≤ p.b ∧ w.heap.size ≤ rb
/-- Both arenas hold none. -/
def LaidNo (w : World) (e : Ending) (w' : World) : Prop :=
  ∃ (p : Pl) (rb : Nat) (s : St) (a : Option Addr) (cap : Nat) (V : Nat → Value), e = .returned (.tuple #[.pointer (some ⟨p.a, 0, none⟩), .pointer (some ⟨rb, 0, none⟩), .int .u64 0]) ∧ Two w' p s rb ⟨64, 0, []⟩ a cap V ∧ Below w.heap.size w w' ∧ w.heap.size ≤ p.a ∧ w.heap.size ≤ p.h ∧ w.heap.size ≤ p.c ∧ w.heap.size ≤ p.b ∧ w.heap.size ≤ rb
/-- Where the loop is: j fields stand. -/
def LaidTill (w : World) (p : Pl) (rb : Nat) (a : Option Addr) (cap : Nat) (b : Blk) (f : List Int) (kv : Value) (wr : World) : Prop :=
  ∃ (j : Nat) (s : St) (V : Nat → Value), j ≤ b.F.length ∧ kv = .int .i64 j ∧ Two wr p s rb ((⟨64, 0, [b]⟩ : RS).withF 0 b (mixG f b.F j)) a cap V ∧ Below w.heap.size w wr
theorem laid_step {w6 w7 wr : World} {b : Blk} {G : List Int} {x v : Int} {j : Nat} {V7 : Nat → Value} {r7 : RS} (h : Two wr p s rb ((⟨64, 0, [b]⟩ : RS).withF 0 b G) a cap V) (hx : (b.ad : Int) = addrW x) (hj : j < G.length) (hv : R64 v) (ha : Ar w6 p (s.put x j v)) (o : Only p.own wr w6) (rf7 : Rf w7 rb r7 a cap V7) (rep7 : Rep (s.put x j v) r7) (o7 : Only (Rown rb a) w6 w7) : Two w7 p (s.put x j v) rb ((⟨64, 0, [b]⟩ : RS).withF 0 b (G.set j v)) a cap V7 := by
  obtain ⟨he, gp⟩ := good_withF (x := x) (v := v) (j := j) (Good.of h.ar h.bo.rep) (by show 0 < 1; omega) hx hj hv
  have e := good_unique gp rep7
  rw [e] at rf7 rep7
  exact play_two (h.left o) ha rf7 rep7 o7
set_option maxRecDepth 100000 in
theorem lay5_ok {al : Option Addr} {m c : Nat} {X : Nat → Int} (t : Int) (w : World) (hz : WS w al m c X) (hm : m ≤ 40) (ht : St.mayLie t = true) :
    Calls Try.prog 16 #[.int .i64 t, .slice al m c] w fun e w' => LaidYes t (listX X m) w e w' := by
  have HZ := hidden hz
  have hm2 : (m : Int) ≤ 40 := by omega
  have HE : Hid ((St.new 64).allocE t (m : Nat) = 0) := by show _ = _; unfold St.allocE St.new; rw [if_neg (by rw [ht]; decide), if_neg (by omega), if_neg (by simp <;> omega)]
  have HW : Hid ((St.new 64).allocW t (m : Nat) = 2) := by show _ = _; unfold St.allocW; rw [if_pos HE.out]; rfl
  clear hz ht
  go_enter Try.func16, Try.ntmps16
  go_upto_region 5 with (first
    | (go_at_call 26; refine (new_at 64 _ (by omega) (by omega)).mono ?_; rintro e w1 ⟨p, rfl, ha1, b1, p1, p2, p3, p4⟩; have HA1 := hidden ha1; have B1 := hidden b1; clear ha1 b1)
    | (go_at_call 27; refine (rnew_yes 64 _ (by omega) (by omega)).mono ?_; rintro e w2 ⟨rfl, hr2, b2⟩; have T2 := hidden (two_new HA1.out hr2 b2); have B2 : Hid (Below w.heap.size w w2) := B1.out.trans (b2.mono B1.out.size); have HRB := hidden B1.out.size; clear hr2 b2 HA1))
  go_wp2_with (first
    | (go_at_call 40; refine (alloc_any (p := p) (s := St.new 64) t (m : Nat) _ T2.out.ar).mono ?_; rintro e w3 ⟨rfl, ha3, o3⟩; rw [HW.out, HE.out]; have A3 := hidden ha3; have BO3 := hidden (T2.out.left o3); have B3 : Hid (Below w.heap.size w w3) := B2.out.trans (o3.under B2.out.size p2 p3 p4); clear ha3 o3)
    | (go_at_call 41; refine (ralloc_any t (m : Nat) _ BO3.out).mono ?_; rintro e w4 ⟨rfl, a4, cap4, V4, rf4, o4⟩; have T4 := hidden (play_two BO3.out A3.out rf4 (rep_after BO3.out.rep (Nat.le_refl _) t (m : Nat)) o4); have B4 := hidden (below_right B3.out BO3.out o4 HRB.out); clear rf4 o4))
  have e5 : (⟨64, 0, []⟩ : RS).after (St.new 64) t (m : Nat) = ⟨64, 0, [⟨1, t, List.replicate m 1⟩]⟩ := by unfold RS.after; rw [if_pos HE.out]; rfl
  have T5 : Hid (Two w4 p ((St.new 64).alloc t (m : Nat)) w1.heap.size ((⟨64, 0, [⟨1, t, List.replicate m 1⟩]⟩ : RS).withF 0 ⟨1, t, List.replicate m 1⟩ (List.replicate m 1)) a4 cap4 V4) := by have := T4.out; rw [show (Int.toNat 64) = 64 from rfl, e5] at this; exact this
  clear T4 e5 BO3 A3 T2 B1 B2 B3
  generalize w1.heap.size = rb at *
  have HFL : Hid ((listX X m).length = (List.replicate m (1 : Int)).length) := by show _ = _; unfold listX; simp
  have HFM : Hid ((List.replicate m (1 : Int)).length = m) := List.length_replicate
  generalize (St.new 64).alloc t (m : Nat) = s4 at *
  go_loopw [34] (fun kv wr => LaidTill w p rb a4 cap4 ⟨1, t, List.replicate m 1⟩ (listX X m) kv wr) (fun kv _ => m - (intOf kv).toNat)
  case atStart => exact ⟨0, _, _, Nat.zero_le _, rfl, by rw [mixG_zero]; exact T5.out, B4.out⟩
  case round =>
    clear T5 B4
    obtain ⟨j, s, V, hj, rfl, T, hb⟩ := hrel
    have hj2 : j ≤ m := Nat.le_trans hj (Nat.le_of_eq HFM.out)
    have HT := hidden T
    have HB := hidden hb
    clear T hj
    by_cases hlt : j < m
    · obtain ⟨ad2, e, hx⟩ := (HZ.out.below hb).cell j hlt
      cases e
      have HXA : Hid (∀ w', Below w.heap.size w w' → w'.cell? (ad2.add j) = some (.int .u64 (X j))) := fun w' hb' => by
        obtain ⟨ad3, e, hx⟩ := (HZ.out.below hb').cell j hlt
        cases e; exact hx
      have v0 := HZ.out.lo j hlt
      have v1 := HZ.out.hi j hlt
      have x2 : (j : Int) < ((m : Nat) : Int) := by omega
      have HV : Hid (R64 (X j)) := ⟨v0, v1⟩
      have HMS : Hid ((mixG (listX X m) (List.replicate m 1) j).set j (X j) = mixG (listX X m) (List.replicate m 1) (j + 1)) := by
        show _ = _
        have := mixG_set HFL.out (j := j) (by rw [HFM.out]; exact hlt)
        rw [show (listX X m).getD j 0 = X j from by unfold listX; simp [List.getD_eq_getElem?_getD, hlt]] at this
        exact this
      have HML : Hid (j < (mixG (listX X m) (List.replicate m 1) j).length) := by show _ < _; rw [mixG_len HFL.out, HFM.out]; exact hlt
      clear hb
      generalize X j = fv at *
      go_wp2_with (first
        | (go_at_call 29; refine (set_any 2 j fv _ HT.out.ar HT.out.bo.rep.fits (by omega) (by omega) v0 v1).mono ?_; rintro e w6 ⟨rfl, ha6, o6⟩; have A6 := hidden ha6; have O6 := hidden o6; have BO6 := hidden (HT.out.left o6); have B6 : Hid (Below w.heap.size w w6) := HB.out.trans (o6.under HB.out.size p2 p3 p4); have hx6 := HXA.out _ B6.out; clear ha6 o6)
        | (go_at_call 34; refine (rset_any 2 j fv _ BO6.out (by omega) (by omega)).mono ?_; rintro e w7 ⟨rfl, r7, V7, rf7, rep7, o7⟩; have T7 := hidden (laid_step HT.out rfl HML.out HV.out A6.out O6.out rf7 rep7 o7); have B7 := hidden (below_right B6.out BO6.out o7 HRB.out); clear rf7 rep7 o7))
      go_roundw
      case rel => exact ⟨j + 1, _, _, by show j + 1 ≤ (List.replicate m (1 : Int)).length; rw [HFM.out]; omega, by go_num, by rw [← HMS.out]; exact T7.out, B7.out⟩
      case measure => simp [intOf]; omega
    · have ej : j = m := by omega
      have HTF : Hid (Two wr p s rb ⟨64, 0, [⟨1, t, listX X m⟩]⟩ a4 cap4 V) := by
        have h5 := HT.out
        have h6 := mixG_all HFL.out
        rw [HFM.out] at h6
        rw [ej, h6] at h5
        exact h5
      have hnl : ¬ ((j : Int) < ((m : Nat) : Int)) := by omega
      clear hb HT
      go_wp2_with fail
      go_ret3
      exact ⟨p, rb, s, a4, cap4, V, rfl, HTF.out, HB.out, p1, p2, p3, p4, HRB.out⟩
set_option maxRecDepth 100000 in
theorem lay5_okB {al : Option Addr} {m c : Nat} {X : Nat → Int} (t : Int) (w : World) (hz : WS w al m c X) (hm : 40 < m) (hmc : m ≤ c) (ht : St.mayLie t = true) :
    Calls Try.prog 16 #[.int .i64 t, .slice al m c] w fun e w' => LaidYes t (listX X 40) w e w' := by
  have HZ : Hid (WS w al 40 c X) := ⟨fun e => by have := (hz.nil e).1; omega, fun i hi => hz.cell i (by omega), fun i hi => hz.lo i (by omega), fun i hi => hz.hi i (by omega)⟩
  have hm2 : (40 : Int) < (m : Int) := by omega
  obtain ⟨ad, rfl⟩ : ∃ ad, al = some ad := by
    cases al with
    | none => have := (hz.nil rfl).1; omega
    | some ad => exact ⟨ad, rfl⟩
  have HE : Hid ((St.new 64).allocE t (40 : Nat) = 0) := by show _ = _; unfold St.allocE St.new; rw [if_neg (by rw [ht]; decide), if_neg (by omega), if_neg (by simp <;> omega)]
  have HW : Hid ((St.new 64).allocW t (40 : Nat) = 2) := by show _ = _; unfold St.allocW; rw [if_pos HE.out]; rfl
  clear hz ht
  go_enter Try.func16, Try.ntmps16
  go_upto_region 5 with (first
    | (go_at_call 26; refine (new_at 64 _ (by omega) (by omega)).mono ?_; rintro e w1 ⟨p, rfl, ha1, b1, p1, p2, p3, p4⟩; have HA1 := hidden ha1; have B1 := hidden b1; clear ha1 b1)
    | (go_at_call 27; refine (rnew_yes 64 _ (by omega) (by omega)).mono ?_; rintro e w2 ⟨rfl, hr2, b2⟩; have T2 := hidden (two_new HA1.out hr2 b2); have B2 : Hid (Below w.heap.size w w2) := B1.out.trans (b2.mono B1.out.size); have HRB := hidden B1.out.size; clear hr2 b2 HA1))
  go_wp2_with (first
    | (go_at_call 40; refine (alloc_any (p := p) (s := St.new 64) t (40 : Nat) _ T2.out.ar).mono ?_; rintro e w3 ⟨rfl, ha3, o3⟩; rw [HW.out, HE.out]; have A3 := hidden ha3; have BO3 := hidden (T2.out.left o3); have B3 : Hid (Below w.heap.size w w3) := B2.out.trans (o3.under B2.out.size p2 p3 p4); clear ha3 o3)
    | (go_at_call 41; refine (ralloc_any t (40 : Nat) _ BO3.out).mono ?_; rintro e w4 ⟨rfl, a4, cap4, V4, rf4, o4⟩; have T4 := hidden (play_two BO3.out A3.out rf4 (rep_after BO3.out.rep (Nat.le_refl _) t (40 : Nat)) o4); have B4 := hidden (below_right B3.out BO3.out o4 HRB.out); clear rf4 o4))
  have e5 : (⟨64, 0, []⟩ : RS).after (St.new 64) t (40 : Nat) = ⟨64, 0, [⟨1, t, List.replicate 40 1⟩]⟩ := by unfold RS.after; rw [if_pos HE.out]; rfl
  have T5 : Hid (Two w4 p ((St.new 64).alloc t (40 : Nat)) w1.heap.size ((⟨64, 0, [⟨1, t, List.replicate 40 1⟩]⟩ : RS).withF 0 ⟨1, t, List.replicate 40 1⟩ (List.replicate 40 1)) a4 cap4 V4) := by have := T4.out; rw [show (Int.toNat 64) = 64 from rfl, e5] at this; exact this
  clear T4 e5 BO3 A3 T2 B1 B2 B3
  generalize w1.heap.size = rb at *
  have HFL : Hid ((listX X 40).length = (List.replicate 40 (1 : Int)).length) := by show _ = _; unfold listX; simp
  have HFM : Hid ((List.replicate 40 (1 : Int)).length = 40) := List.length_replicate
  generalize (St.new 64).alloc t (40 : Nat) = s4 at *
  go_loopw [34] (fun kv wr => LaidTill w p rb a4 cap4 ⟨1, t, List.replicate 40 1⟩ (listX X 40) kv wr) (fun kv _ => 40 - (intOf kv).toNat)
  case atStart => exact ⟨0, _, _, Nat.zero_le _, rfl, by rw [mixG_zero]; exact T5.out, B4.out⟩
  case round =>
    clear T5 B4
    obtain ⟨j, s, V, hj, rfl, T, hb⟩ := hrel
    have hj2 : j ≤ 40 := Nat.le_trans hj (Nat.le_of_eq HFM.out)
    have HT := hidden T
    have HB := hidden hb
    clear T hj
    by_cases hlt : j < 40
    · obtain ⟨ad2, e, hx⟩ := (HZ.out.below hb).cell j hlt
      cases e
      have HXA : Hid (∀ w', Below w.heap.size w w' → w'.cell? (ad.add j) = some (.int .u64 (X j))) := fun w' hb' => by
        obtain ⟨ad3, e, hx⟩ := (HZ.out.below hb').cell j hlt
        cases e; exact hx
      have v0 := HZ.out.lo j hlt
      have v1 := HZ.out.hi j hlt
      have x2 : (j : Int) < ((40 : Nat) : Int) := by omega
      have HV : Hid (R64 (X j)) := ⟨v0, v1⟩
      have HMS : Hid ((mixG (listX X 40) (List.replicate 40 1) j).set j (X j) = mixG (listX X 40) (List.replicate 40 1) (j + 1)) := by
        show _ = _
        have := mixG_set HFL.out (j := j) (by rw [HFM.out]; exact hlt)
        rw [show (listX X 40).getD j 0 = X j from by unfold listX; simp [List.getD_eq_getElem?_getD, hlt]] at this
        exact this
      have HML : Hid (j < (mixG (listX X 40) (List.replicate 40 1) j).length) := by show _ < _; rw [mixG_len HFL.out, HFM.out]; exact hlt
      clear hb
      generalize X j = fv at *
      go_wp2_with (first
        | (go_at_call 29; refine (set_any 2 j fv _ HT.out.ar HT.out.bo.rep.fits (by omega) (by omega) v0 v1).mono ?_; rintro e w6 ⟨rfl, ha6, o6⟩; have A6 := hidden ha6; have O6 := hidden o6; have BO6 := hidden (HT.out.left o6); have B6 : Hid (Below w.heap.size w w6) := HB.out.trans (o6.under HB.out.size p2 p3 p4); have hx6 := HXA.out _ B6.out; clear ha6 o6)
        | (go_at_call 34; refine (rset_any 2 j fv _ BO6.out (by omega) (by omega)).mono ?_; rintro e w7 ⟨rfl, r7, V7, rf7, rep7, o7⟩; have T7 := hidden (laid_step HT.out rfl HML.out HV.out A6.out O6.out rf7 rep7 o7); have B7 := hidden (below_right B6.out BO6.out o7 HRB.out); clear rf7 rep7 o7))
      go_roundw
      case rel => exact ⟨j + 1, _, _, by show j + 1 ≤ (List.replicate 40 (1 : Int)).length; rw [HFM.out]; omega, by go_num, by rw [← HMS.out]; exact T7.out, B7.out⟩
      case measure => simp [intOf]; omega
    · have ej : j = 40 := by omega
      have HTF : Hid (Two wr p s rb ⟨64, 0, [⟨1, t, listX X 40⟩]⟩ a4 cap4 V) := by
        have h5 := HT.out
        have h6 := mixG_all HFL.out
        rw [HFM.out] at h6
        rw [ej, h6] at h5
        exact h5
      have hnl : ¬ ((j : Int) < ((40 : Nat) : Int)) := by omega
      clear hb HT
      go_wp2_with fail
      go_ret3
      exact ⟨p, rb, s, a4, cap4, V, rfl, HTF.out, HB.out, p1, p2, p3, p4, HRB.out⟩
set_option maxRecDepth 100000 in
theorem lay5_no {al : Option Addr} {m c : Nat} {X : Nat → Int} (t : Int) (w : World) (hz : WS w al m c X) (hm : m ≤ 40) (ht : St.mayLie t = false) :
    Calls Try.prog 16 #[.int .i64 t, .slice al m c] w fun e w' => LaidNo w e w' := by
  have HZ := hidden hz
  have hm2 : (m : Int) ≤ 40 := by omega
  have HE : Hid ((St.new 64).allocE t (m : Nat) = 1) := by show _ = _; unfold St.allocE; rw [if_pos ht]
  have HW : Hid ((St.new 64).allocW t (m : Nat) = 0) := by show _ = _; unfold St.allocW; rw [if_neg (by rw [HE.out]; decide)]
  clear hz ht
  go_enter Try.func16, Try.ntmps16
  go_upto_region 5 with (first
    | (go_at_call 26; refine (new_at 64 _ (by omega) (by omega)).mono ?_; rintro e w1 ⟨p, rfl, ha1, b1, p1, p2, p3, p4⟩; have HA1 := hidden ha1; have B1 := hidden b1; clear ha1 b1)
    | (go_at_call 27; refine (rnew_yes 64 _ (by omega) (by omega)).mono ?_; rintro e w2 ⟨rfl, hr2, b2⟩; have T2 := hidden (two_new HA1.out hr2 b2); have B2 : Hid (Below w.heap.size w w2) := B1.out.trans (b2.mono B1.out.size); have HRB := hidden B1.out.size; clear hr2 b2 HA1))
  go_wp2_with (first
    | (go_at_call 40; refine (alloc_any (p := p) (s := St.new 64) t (m : Nat) _ T2.out.ar).mono ?_; rintro e w3 ⟨rfl, ha3, o3⟩; rw [HW.out, HE.out]; have A3 := hidden ha3; have BO3 := hidden (T2.out.left o3); have B3 : Hid (Below w.heap.size w w3) := B2.out.trans (o3.under B2.out.size p2 p3 p4); clear ha3 o3)
    | (go_at_call 41; refine (ralloc_any t (m : Nat) _ BO3.out).mono ?_; rintro e w4 ⟨rfl, a4, cap4, V4, rf4, o4⟩; have T4 := hidden (play_two BO3.out A3.out rf4 (rep_after BO3.out.rep (Nat.le_refl _) t (m : Nat)) o4); have B4 := hidden (below_right B3.out BO3.out o4 HRB.out); clear rf4 o4))
  have e5 : (⟨64, 0, []⟩ : RS).after (St.new 64) t (m : Nat) = ⟨64, 0, []⟩ := by unfold RS.after; rw [if_neg (by rw [HE.out]; decide)]
  have T5 : Hid (Two w4 p ((St.new 64).alloc t (m : Nat)) w1.heap.size ⟨64, 0, []⟩ a4 cap4 V4) := by have := T4.out; rw [show (Int.toNat 64) = 64 from rfl, e5] at this; exact this
  clear T4 e5 BO3 A3 T2 B1 B2 B3
  generalize w1.heap.size = rb at *
  generalize (St.new 64).alloc t (m : Nat) = s4 at *
  go_loopw [34] (fun kv wr => ∃ j : Nat, j ≤ m ∧ kv = .int .i64 j ∧ wr = w4) (fun kv _ => m - (intOf kv).toNat)
  case atStart => exact ⟨0, Nat.zero_le _, rfl, rfl⟩
  case round =>
    obtain ⟨j, hj, rfl, rfl⟩ := hrel
    by_cases hlt : j < m
    · have x2 : (j : Int) < ((m : Nat) : Int) := by omega
      go_wp2_with fail
      go_roundw
      case rel => exact ⟨j + 1, by omega, by go_num, by first | rfl | trivial⟩
      case measure => simp [intOf]; omega
    · have hnl : ¬ ((j : Int) < ((m : Nat) : Int)) := by omega
      go_wp2_with fail
      go_ret3
      exact ⟨p, rb, s4, a4, cap4, V4, rfl, T5.out, B4.out, p1, p2, p3, p4, HRB.out⟩
set_option maxRecDepth 100000 in
theorem lay5_noB {al : Option Addr} {m c : Nat} {X : Nat → Int} (t : Int) (w : World) (hz : WS w al m c X) (hm : 40 < m) (hmc : m ≤ c) (ht : St.mayLie t = false) :
    Calls Try.prog 16 #[.int .i64 t, .slice al m c] w fun e w' => LaidNo w e w' := by
  have HZ : Hid (WS w al 40 c X) := ⟨fun e => by have := (hz.nil e).1; omega, fun i hi => hz.cell i (by omega), fun i hi => hz.lo i (by omega), fun i hi => hz.hi i (by omega)⟩
  have hm2 : (40 : Int) < (m : Int) := by omega
  obtain ⟨ad, rfl⟩ : ∃ ad, al = some ad := by
    cases al with
    | none => have := (hz.nil rfl).1; omega
    | some ad => exact ⟨ad, rfl⟩
  have HE : Hid ((St.new 64).allocE t (40 : Nat) = 1) := by show _ = _; unfold St.allocE; rw [if_pos ht]
  have HW : Hid ((St.new 64).allocW t (40 : Nat) = 0) := by show _ = _; unfold St.allocW; rw [if_neg (by rw [HE.out]; decide)]
  clear hz ht
  go_enter Try.func16, Try.ntmps16
  go_upto_region 5 with (first
    | (go_at_call 26; refine (new_at 64 _ (by omega) (by omega)).mono ?_; rintro e w1 ⟨p, rfl, ha1, b1, p1, p2, p3, p4⟩; have HA1 := hidden ha1; have B1 := hidden b1; clear ha1 b1)
    | (go_at_call 27; refine (rnew_yes 64 _ (by omega) (by omega)).mono ?_; rintro e w2 ⟨rfl, hr2, b2⟩; have T2 := hidden (two_new HA1.out hr2 b2); have B2 : Hid (Below w.heap.size w w2) := B1.out.trans (b2.mono B1.out.size); have HRB := hidden B1.out.size; clear hr2 b2 HA1))
  go_wp2_with (first
    | (go_at_call 40; refine (alloc_any (p := p) (s := St.new 64) t (40 : Nat) _ T2.out.ar).mono ?_; rintro e w3 ⟨rfl, ha3, o3⟩; rw [HW.out, HE.out]; have A3 := hidden ha3; have BO3 := hidden (T2.out.left o3); have B3 : Hid (Below w.heap.size w w3) := B2.out.trans (o3.under B2.out.size p2 p3 p4); clear ha3 o3)
    | (go_at_call 41; refine (ralloc_any t (40 : Nat) _ BO3.out).mono ?_; rintro e w4 ⟨rfl, a4, cap4, V4, rf4, o4⟩; have T4 := hidden (play_two BO3.out A3.out rf4 (rep_after BO3.out.rep (Nat.le_refl _) t (40 : Nat)) o4); have B4 := hidden (below_right B3.out BO3.out o4 HRB.out); clear rf4 o4))
  have e5 : (⟨64, 0, []⟩ : RS).after (St.new 64) t (40 : Nat) = ⟨64, 0, []⟩ := by unfold RS.after; rw [if_neg (by rw [HE.out]; decide)]
  have T5 : Hid (Two w4 p ((St.new 64).alloc t (40 : Nat)) w1.heap.size ⟨64, 0, []⟩ a4 cap4 V4) := by have := T4.out; rw [show (Int.toNat 64) = 64 from rfl, e5] at this; exact this
  clear T4 e5 BO3 A3 T2 B1 B2 B3
  generalize w1.heap.size = rb at *
  generalize (St.new 64).alloc t (40 : Nat) = s4 at *
  go_loopw [34] (fun kv wr => ∃ j : Nat, j ≤ 40 ∧ kv = .int .i64 j ∧ wr = w4) (fun kv _ => 40 - (intOf kv).toNat)
  case atStart => exact ⟨0, Nat.zero_le _, rfl, rfl⟩
  case round =>
    obtain ⟨j, hj, rfl, rfl⟩ := hrel
    by_cases hlt : j < 40
    · have x2 : (j : Int) < ((40 : Nat) : Int) := by omega
      go_wp2_with fail
      go_roundw
      case rel => exact ⟨j + 1, by omega, by go_num, by first | rfl | trivial⟩
      case measure => simp [intOf]; omega
    · have hnl : ¬ ((j : Int) < ((40 : Nat) : Int)) := by omega
      go_wp2_with fail
      go_ret3
      exact ⟨p, rb, s4, a4, cap4, V4, rfl, T5.out, B4.out, p1, p2, p3, p4, HRB.out⟩
end Go.Proofs.Ytlhcleocdlnbdaa
