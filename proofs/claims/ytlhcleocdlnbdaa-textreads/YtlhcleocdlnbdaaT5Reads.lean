/-
  Layer 5: the law that reads: whatever lies there, the program's text and the document's own answer alike, and so do the fields behind a byte that is put. Condition: the program's text does as the document's own (TextC), and is awake.
-/
import Derived.Test.YtlhcleocdlnbdaaT5Spec
namespace Go.Proofs.Ytlhcleocdlnbdaa
open Go.ChangeShapes Go.WideShapes Go.ChangeAt Go.RowKit Go.Deep
set_option linter.unusedVariables false
set_option maxHeartbeats 1000000

set_option maxRecDepth 100000 in
theorem treads_any (H : TextC) (hAw : AwakeC) {al : Option Addr} {m c : Nat} {X : Nat → Int} (t at_ i : Int) (b : UInt8) (w : World) (hz : WS w al m c X) (hmc : m ≤ c) (hm : m ≤ maxLen) (a0 : 0 ≤ at_) (a1 : at_ ≤ 255) :
    Calls Try.prog 4 #[.int .i64 t, .slice al m c, .int .u8 at_, .int .i64 i, u8v b] w fun e w' => e = .returned (.bool true) ∧ Below w.heap.size w w' := by
  have HH := hidden H
  have HAW := hidden hAw
  have HZ := hidden hz
  have HMC := hidden hmc
  unfold maxLen at hm
  clear H hAw hz hmc
  have HUV : Hid (Value.int .u8 (b.toNat : Int) = u8v b) := rfl
  unfold u8v
  have b1 := u8_lt b
  go_enter Try.func4, Try.ntmps4
  go_upto_region 5 with (first
    | (go_at_call 8; refine (HAW.out _).mono ?_; rintro e w1 ⟨rfl, hb1⟩; have B1 := hidden hb1; clear hb1)
    | (go_at_call 16; refine (lay5_any t _ (HZ.out.below B1.out) HMC.out).mono ?_; rintro e w2 ⟨p, rb, s, r, a, cap, V, W, rfl, hT, hb, W0, W2, p2, p3, p4, p5⟩; have P2 := hidden (Nat.le_trans B1.out.size p2); have P3 := hidden (Nat.le_trans B1.out.size p3); have P4 := hidden (Nat.le_trans B1.out.size p4); have P5 := hidden (Nat.le_trans B1.out.size p5); clear p2 p3 p4 p5; have T2 := hidden hT; have B2 : Hid (Below w.heap.size w w2) := B1.out.trans (hb.mono B1.out.size); clear hT hb))
  have x0 : 0 ≤ W + 2 * (at_ % 4) := by omega
  have x1 : W + 2 * (at_ % 4) ≤ 18446744073709551615 := by omega
  generalize W + 2 * (at_ % 4) = x at *
  go_upto_region 12 with (first
    | (go_at_call 15; refine (HH.out.read x _ T2.out.ar T2.out.bo.rep x0 x1).mono ?_; rintro e w3 ⟨rfl, hb⟩; have T3 := hidden (T2.out.below hb); have B3 : Hid (Below w.heap.size w w3) := B2.out.trans (hb.mono B2.out.size); clear hb)
    | (go_at_call 17; refine (rread_any x _ T3.out.bo x0 x1).mono ?_; rintro e w4 ⟨rfl, hb⟩; have T4 := hidden (T3.out.below hb); have B4 : Hid (Below w.heap.size w w4) := B3.out.trans (hb.mono B3.out.size); clear hb)
    | (go_at_call 13; refine (HH.out.length x _ T4.out.ar T4.out.bo.rep x0 x1).mono ?_; rintro e w5 ⟨rfl, hb⟩; have T5 := hidden (T4.out.below hb); have B5 : Hid (Below w.heap.size w w5) := B4.out.trans (hb.mono B4.out.size); clear hb)
    | (go_at_call 18; refine (HH.out.byte x i _ T5.out.ar T5.out.bo.rep x0 x1).mono ?_; rintro e w6 ⟨rfl, hb⟩; have T6 := hidden (T5.out.below hb); have B6 : Hid (Below w.heap.size w w6) := B5.out.trans (hb.mono B5.out.size); clear hb)
    | (go_at_call 19; refine (rbyte_any x i _ T6.out.bo x0 x1).mono ?_; rintro e w7 ⟨rfl, hb⟩; have T7 := hidden (T6.out.below hb); have B7 : Hid (Below w.heap.size w w7) := B6.out.trans (hb.mono B6.out.size); clear hb))
  clear T2 T3 T4 T5 T6 B2 B3 B4 B5 B6
  go_wp2_with (first
    | (go_at_call 20; refine (HH.out.put x i b _ T7.out.ar T7.out.bo.rep x0 x1).mono ?_; rintro e w8 ⟨rfl, s8, ar8, rep8, on8⟩; have A8 := hidden ar8; have R8 := hidden rep8; have BO8 := hidden (T7.out.left on8); have B8 : Hid (Below w.heap.size w w8) := B7.out.trans (on8.under B7.out.size P2.out P3.out P4.out); clear ar8 rep8 on8)
    | (go_at_call 21; refine (rput_any x i b _ BO8.out.rf (Good.of T7.out.ar T7.out.bo.rep) T7.out.four x0 x1).mono ?_; rintro e w9 ⟨rfl, V9, s9, rf9, _, on9, _⟩; have T9 := hidden (play_two BO8.out A8.out rf9 R8.out on9); have B9 := hidden (below_right B8.out BO8.out on9 P5.out); clear rf9 on9))
  clear T7 A8 R8 BO8 B8
  go_loopw [24] (fun kv wr => ∃ k n : Nat, k ≤ 40 ∧ k ≤ m ∧ kv = .int .i64 k ∧ wr = w9.drewN n) (fun kv _ => m - (intOf kv).toNat)
  case atStart => exact ⟨0, 0, Nat.zero_le _, Nat.zero_le _, rfl, rfl⟩
  case round =>
    obtain ⟨k, n, hk, hkm, rfl, hw⟩ := hrel
    have HW := hidden hw
    have TR : Hid (Two wr p s8 rb (putR s r x i b) a cap V9) := by show Two _ _ _ _ _ _ _ _; rw [hw]; exact T9.out.drewN n
    clear hw
    by_cases hlt : k < m
    · by_cases h40 : k < 40
      · go_wp2_with (first
          | (go_at_call 22; refine (get_any x k _ TR.out.ar TR.out.bo.rep.fits x0 x1).mono ?_; rintro e w10 ⟨rfl, n1, hw10⟩; have T10 : Hid (Two w10 p s8 rb (putR s r x i b) a cap V9) := by { show Two _ _ _ _ _ _ _ _; rw [hw10]; exact TR.out.drewN n1 }; have HW10 := hidden hw10; clear hw10)
          | (go_at_call 23; refine (rget_any x k _ T10.out.bo x0 x1).mono ?_; rintro e w11 ⟨rfl, n2, hw11⟩; have HW11 := hidden hw11; clear hw11))
        go_roundw
        case rel => exact ⟨k + 1, n + (n1 + n2), by omega, by omega, by go_num, by rw [HW11.out, HW10.out, HW.out, World.drewN_drewN, World.drewN_drewN]⟩
        case measure => simp [intOf]; omega
      · have e40 : k = 40 := by omega
        subst e40
        go_wp2_with fail
        go_ret
        exact ⟨rfl, by rw [HW.out]; exact below_drewN B9.out _⟩
    · have ek : k = m := by omega
      have hnl : ¬ ((k : Int) < (m : Int)) := by omega
      go_wp2_with fail
      go_ret
      exact ⟨rfl, by rw [HW.out]; exact below_drewN B9.out _⟩
end Go.Proofs.Ytlhcleocdlnbdaa
