/-
  ArenaFills: whatever number of cells and sizes are handed to it, the call returns true and writes nothing that was there. Condition: the slice is nil, or leads to a row of numbers that fit their kind.
-/
import Derived.Test.YtaoohkjhniigfaaAwake
namespace Go.Proofs.Ytaoohkjhniigfaa
open Go.ChangeShapes Go.WideShapes Go.ChangeAt Go.RowKit Go.Deep
set_option linter.unusedVariables false
set_option maxHeartbeats 400000

theorem fills_no (n : Int) (a : Option Addr) (len cap : Nat) (w : World) (h : n < 2 ∨ 32768 < n) :
    Calls Try.prog 5 #[.int .i64 n, .slice a len cap] w fun e w' => e = .returned (.bool true) ∧ Below w.heap.size w w' := by
  by_cases c : n < 2
  · go_enter Try.func5, Try.ntmps5
    go_wp2_with (first | (go_at_call 8; refine (awake_any _).mono ?_; rintro e w0 ⟨rfl, b0⟩) | (go_at_call 9; refine (new_no n _ h).mono ?_; rintro e w' ⟨rfl, rfl⟩))
    all_goals go_ret
    all_goals exact ⟨rfl, b0⟩
  · have c2 : 32768 < n := by omega
    go_enter Try.func5, Try.ntmps5
    go_wp2_with (first | (go_at_call 8; refine (awake_any _).mono ?_; rintro e w0 ⟨rfl, b0⟩) | (go_at_call 9; refine (new_no n _ h).mono ?_; rintro e w' ⟨rfl, rfl⟩))
    all_goals go_ret
    all_goals exact ⟨rfl, b0⟩
theorem mayLie_mod (k : Nat) : St.mayLie ((k : Int) % 200) = true := by
  unfold St.mayLie
  have : 0 ≤ (k : Int) % 200 ∧ (k : Int) % 200 ≤ 199 := by omega
  simp
  omega
theorem fills_yes (n : Int) (a : Option Addr) (len cap : Nat) (zs : List Int) (w : World) (h1 : 2 ≤ n) (h2 : n ≤ 32768) (hl : len ≤ maxLen)
    (hc : ∀ i, i < len → ∃ x : Addr, a = some x ∧ (x.add i).block < w.heap.size ∧ w.cell? (x.add i) = some (.int .u16 (zs.getD i 0)) ∧ 0 ≤ zs.getD i 0 ∧ zs.getD i 0 ≤ 65535) :
    Calls Try.prog 5 #[.int .i64 n, .slice a len cap] w fun e w' => e = .returned (.bool true) ∧ Below w.heap.size w w' := by
  unfold maxLen at hl
  go_enter Try.func5, Try.ntmps5
  go_wp2_with fail
  refine (awake_any _).mono ?_
  rintro e w0 ⟨rfl, b0⟩
  go_wp2_with fail
  refine (new_at n _ h1 h2).mono ?_
  rintro e w1 ⟨p, rfl, ha, b1, i1, i2, i3, i4⟩
  have B := b0.size
  have hB := b0.trans (b1.mono B)
  have j2 : w.heap.size ≤ p.h := by omega
  have j3 : w.heap.size ≤ p.c := by omega
  have j4 : w.heap.size ≤ p.b := by omega
  clear b0 b1 i1 i2 i3 i4 B
  go_wp2_with fail
  have HC : Hid (∀ i, i < len → ∃ x : Addr, a = some x ∧ (x.add i).block < w.heap.size ∧ w.cell? (x.add i) = some (.int .u16 (zs.getD i 0)) ∧ 0 ≤ zs.getD i 0 ∧ zs.getD i 0 ≤ 65535) := hc
  clear hc
  go_loopw [6, 7] (fun u i wr => ∃ (k : Nat) (s : St), k ≤ 60 ∧ k ≤ len ∧ i = .int .i64 k ∧ u = .int .i64 s.top ∧ s.base = 0 ∧ s.n = n.toNat ∧ Ar wr p s ∧ Below w.heap.size w wr) (fun _ i _ => 60 - (intOf i).toNat)
  case atStart => exact ⟨0, St.new n.toNat, by omega, by omega, rfl, rfl, rfl, rfl, ha, hB⟩
  case round =>
    clear ha hB
    obtain ⟨k, s, hk, hkl, rfl, rfl, es, en, hr, hb⟩ := hrel
    have t1 := hr.t1
    have t2 := hr.t2
    rw [es, en] at t2
    by_cases hlt : k < len
    · by_cases h60 : k < 60
      · obtain ⟨x, rfl, hx, hcell, v0, v1⟩ := HC.out k hlt
        have hcx := (hb.cell hx).trans hcell
        generalize zs.getD k 0 = v at *
        clear hcell
        have m0 : 0 ≤ v % 4097 := by omega
        have m1 : v % 4097 ≤ 4096 := by omega
        by_cases full : n < s.top + v % 4097 + 1
        · have HE : Hid (s.allocE ((k : Int) % 200) (v % 4097) = 10) := by
            show _ = _
            unfold St.allocE
            rw [if_neg (by rw [mayLie_mod k]; simp), if_neg (by omega), if_pos (by rw [es, en]; omega)]
          have HW : Hid (s.allocW ((k : Int) % 200) (v % 4097) = 0) := by show _ = _; unfold St.allocW; rw [if_neg (by rw [HE.out]; omega)]
          have HA : Hid (s.alloc ((k : Int) % 200) (v % 4097) = s) := by show _ = _; unfold St.alloc; rw [if_neg (by rw [HE.out]; omega)]
          go_wp2_with (go_at_call 21; refine (alloc_at _ _ 0 10 _ hr HW.out HE.out).mono ?_; rintro e w2 ⟨rfl, hr2, ho2⟩)
          go_roundw
          case rel => exact ⟨k + 1, s, by omega, by omega, by go_num, rfl, es, en, by rw [← HA.out]; exact hr2, hb.trans (ho2.under hb.size j2 j3 j4)⟩
          case measure => simp [intOf]; omega
        · have HE : Hid (s.allocE ((k : Int) % 200) (v % 4097) = 0) := by
            show _ = _
            unfold St.allocE
            rw [if_neg (by rw [mayLie_mod k]; simp), if_neg (by omega), if_neg (by rw [es, en]; omega)]
          have HW : Hid (s.allocW ((k : Int) % 200) (v % 4097) = 2 * (s.top + 1)) := by show _ = _; unfold St.allocW; rw [if_pos HE.out]
          obtain ⟨f1, f2, f3, f4, f5, f6⟩ := found_new hr.t1 (by omega) HE.out
          have F2 : Hid _ := f2
          have F3 : Hid _ := f3
          have F4 : Hid _ := f4
          have F5 : Hid _ := f5.trans en
          have F6 : Hid _ := f6.trans es
          have F7 : Hid (((s.alloc ((k : Int) % 200) (v % 4097)).top : Int) = s.top + (v % 4097 + 1)) := by show _ = _; rw [f4]; omega
          clear f1 f2 f3 f4 f5 f6
          go_wp2_with (first | (go_at_call 21; refine (alloc_at _ _ (2 * (s.top + 1)) 0 _ hr HW.out HE.out).mono ?_; rintro e w2 ⟨rfl, hr2, ho2⟩) | (go_at_call 16; refine (size_is _ _ _ hr2 (by omega) (by omega) F2.out).mono ?_; rintro e w' ⟨rfl, m1, rfl⟩) | (go_at_call 22; refine (tag_is _ _ _ (hr2.drewN _) (by omega) (by omega) F3.out).mono ?_; rintro e w' ⟨rfl, m2, rfl⟩) | (go_at_call 20; refine (top_is _ _ (hr2.drewN _) F7.out).mono ?_; rintro e w' ⟨rfl, rfl⟩))
          go_roundw
          case rel => exact ⟨k + 1, s.alloc ((k : Int) % 200) (v % 4097), by omega, by omega, by go_num, by rw [F7.out], F6.out, F5.out, hr2.drewN _, below_drewN (hb.trans (ho2.under hb.size j2 j3 j4)) _⟩
          case measure => simp [intOf]; omega
      · go_wp2_with fail
        go_ret
        exact ⟨rfl, hb⟩
    · go_wp2_with fail
      go_ret
      exact ⟨rfl, hb⟩
end Go.Proofs.Ytaoohkjhniigfaa
