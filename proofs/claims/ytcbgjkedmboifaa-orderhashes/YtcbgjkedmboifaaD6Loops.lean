/-
  What the document's own loops return: a bit, a product, bits, doubling, halving; nothing in memory changes. Conditions: each argument is a number of 63 bits.
-/
import Derived.Test.YtcbgjkedmboifaaRefNum
import Derived.Test.YtcbgjkedmboifaaD6Ref
namespace Go.Proofs.Ytcbgjkedmboifaa
open Go.ChangeShapes Go.WideShapes Go.ChangeAt Go.RowKit
set_option linter.unusedVariables false
set_option maxHeartbeats 400000

theorem bit_any (n i : Int) (w : World) (h : -4611686018427387904 ≤ n) (h' : n ≤ 4611686018427387903) (g : 0 ≤ i) (g' : i ≤ 62) :
    Calls Try.prog 88 #[.int .i64 n, .int .i64 i] w fun e w' => e = .returned (.bool (bitB n i)) ∧ w' = w := by
  have l := intW_lo n
  have l' := intW_hi n
  obtain ⟨k, rfl⟩ := Int.eq_ofNat_of_zero_le g
  go_enter Try.func88, Try.ntmps88
  go_wp2_with (go_at_call 17; refine (rint_any _ _ (by omega) (by omega)).mono ?_; rintro e w' ⟨rfl, rfl⟩)
  all_goals go_ret
  exact ⟨ret_bool (bit_walk n k), rfl⟩
theorem times_any (x y : Int) (w : World) (h : -4611686018427387904 ≤ x) (h' : x ≤ 4611686018427387903) (g : -4611686018427387904 ≤ y) (g' : y ≤ 4611686018427387903) :
    Calls Try.prog 66 #[.int .i64 x, .int .i64 y] w fun e w' => e = .returned (.int .i64 (cutN (x * y))) ∧ w' = w := by
  go_enter Try.func66, Try.ntmps66
  go_wp2
  go_loop [5, 6] (fun n i => ∃ k : Nat, k ≤ 63 ∧ i = .int .i64 ((k : Int) - 1) ∧ n = .int .i64 (timesTo x y k)) (fun _ i => (intOf i + 1).toNat)
  case atStart => exact ⟨63, by omega, rfl, by rw [timesTo_start]⟩
  case round =>
    obtain ⟨k, hk, rfl, rfl⟩ := hrel
    by_cases hz : k = 0
    · subst hz
      go_wp2
      go_ret
      exact ⟨ret_int (timesTo_end x y), rfl⟩
    · obtain ⟨j, rfl⟩ : ∃ j, k = j + 1 := ⟨k - 1, by omega⟩
      have l1 := timesTo_lo x y (j + 1)
      have l2 := timesTo_hi x y (j + 1)
      have l3 := cutN_lo (timesTo x y (j + 1) + timesTo x y (j + 1))
      have l4 := cutN_hi (timesTo x y (j + 1) + timesTo x y (j + 1))
      clear hz
      have ej : ((j + 1 : Nat) : Int) - 1 = (j : Int) := by omega
      rw [ej]
      clear ej
      cases hb : bitB y j
      · have HS : Hid (cutN (timesTo x y (j + 1) + timesTo x y (j + 1)) = timesTo x y j) := timesTo_no x y j hb
        go_wp2_with (first | (go_at_call 40; refine (rcut_any _ _ (by omega) (by omega)).mono ?_; rintro e w' ⟨rfl, rfl⟩) | (go_at_call 88; refine (bit_any _ _ _ (by omega) (by omega) (by omega) (by omega)).mono ?_; rintro e w' ⟨rfl, rfl⟩))
        all_goals
          go_round
          case rel => exact ⟨j, by omega, rfl, by rw [HS.out]⟩
          case measure => simp [intOf]
      · have HS : Hid (cutN (cutN (timesTo x y (j + 1) + timesTo x y (j + 1)) + x) = timesTo x y j) := timesTo_yes x y j hb
        go_wp2_with (first | (go_at_call 40; refine (rcut_any _ _ (by omega) (by omega)).mono ?_; rintro e w' ⟨rfl, rfl⟩) | (go_at_call 88; refine (bit_any _ _ _ (by omega) (by omega) (by omega) (by omega)).mono ?_; rintro e w' ⟨rfl, rfl⟩))
        all_goals
          go_round
          case rel => exact ⟨j, by omega, rfl, by rw [HS.out]⟩
          case measure => simp [intOf]
theorem twice_any (x y : Int) (w : World) (h : -4611686018427387904 ≤ x) (h' : x ≤ 4611686018427387903) (g : -4611686018427387904 ≤ y) (g' : y ≤ 4611686018427387903) :
    Calls Try.prog 68 #[.int .i64 x, .int .i64 y] w fun e w' => e = .returned (.int .i64 (cutN (shlN x y))) ∧ w' = w := by
  by_cases c1 : y < 0
  · have HV : Hid (cutN (shlN x y) = 0) := by unfold shlN; rw [if_pos (by omega)]; rfl
    go_enter Try.func68, Try.ntmps68
    go_wp2
    all_goals go_ret
    all_goals exact ⟨ret_int HV.out.symm, rfl⟩
  · by_cases c2 : 62 < y
    · have HV : Hid (cutN (shlN x y) = 0) := by unfold shlN; rw [if_pos (by omega)]; rfl
      go_enter Try.func68, Try.ntmps68
      go_wp2
      all_goals go_ret
      all_goals exact ⟨ret_int HV.out.symm, rfl⟩
    · obtain ⟨m, rfl⟩ := Int.eq_ofNat_of_zero_le (by omega : 0 ≤ y)
      have HV : Hid (cutN (shlN x m) = twiceTo x m) := by unfold shlN; rw [if_neg (by omega)]; rfl
      have HX : Hid (twiceTo x 0 = x) := twiceTo_start x h h'
      go_enter Try.func68, Try.ntmps68
      go_wp2
      go_loop [0, 5] (fun a i => ∃ k : Nat, k ≤ m ∧ i = .int .i64 k ∧ a = .int .i64 (twiceTo x k)) (fun _ i => (m - intOf i).toNat)
      case atStart => exact ⟨0, by omega, rfl, by rw [HX.out]⟩
      case round =>
        obtain ⟨k, hk, rfl, rfl⟩ := hrel
        have l1 := twiceTo_lo x k
        have l2 := twiceTo_hi x k
        by_cases hlt : k < m
        · have HS : Hid (cutN (twiceTo x k + twiceTo x k) = twiceTo x (k + 1)) := twiceTo_step x k
          go_wp2_with (go_at_call 40; refine (rcut_any _ _ (by omega) (by omega)).mono ?_; rintro e w' ⟨rfl, rfl⟩)
          all_goals
            go_round
            case rel => exact ⟨k + 1, by omega, by go_num, by rw [HS.out]⟩
            case measure => simp [intOf]; omega
        · have hkm : k = m := by omega
          subst hkm
          go_wp2
          go_ret
          exact ⟨ret_int HV.out.symm, rfl⟩
theorem half_any (x y : Int) (w : World) (h : -4611686018427387904 ≤ x) (h' : x ≤ 4611686018427387903) (g : -4611686018427387904 ≤ y) (g' : y ≤ 4611686018427387903) :
    Calls Try.prog 69 #[.int .i64 x, .int .i64 y] w fun e w' => e = .returned (.int .i64 (shrN x y)) ∧ w' = w := by
  have HX : Hid (halfTo x 0 = x) := halfTo_start x
  by_cases c1 : y < 0
  · have HV : Hid (shrN x y = halfTo x 63) := by
        show shrN x y = halfTo x 63
        unfold shrN halfTo; rw [if_pos (by omega), half_far x h h']
    go_enter Try.func69, Try.ntmps69
    go_wp2
    go_loop [0, 5] (fun a i => ∃ k : Nat, k ≤ 63 ∧ i = .int .i64 k ∧ a = .int .i64 (halfTo x k)) (fun _ i => (63 - intOf i).toNat)
    case atStart => exact ⟨0, by omega, rfl, by rw [HX.out]⟩
    case round =>
      obtain ⟨k, hk, rfl, rfl⟩ := hrel
      have l1 := halfTo_lo x k h
      have l2 := halfTo_hi x k h'
      by_cases hlt : k < 63
      · have HS : Hid (halfTo x (k + 1) = halfTo x k / 2) := halfTo_step x k
        by_cases c : halfTo x k < 0
        · by_cases d : halfTo x k % 2 = 0
          · have d1 : ((halfTo x k).tmod 2 != 0) = false := tmod_even _ d
            have HD : Hid (halfTo x k % 2 = 0) := d
            clear d
            go_wp2
            all_goals
              go_round
              case rel => exact ⟨k + 1, by omega, by go_num, by rw [HS.out, half_even _ HD.out]⟩
              case measure => simp [intOf]; omega
          · have d1 : ((halfTo x k).tmod 2 != 0) = true := tmod_odd _ d
            have HD : Hid (¬ halfTo x k % 2 = 0) := d
            clear d
            go_wp2
            all_goals
              go_round
              case rel => exact ⟨k + 1, by omega, by go_num, by rw [HS.out, half_odd _ HD.out]⟩
              case measure => simp [intOf]; omega
        · go_wp2
          all_goals
            go_round
            case rel => exact ⟨k + 1, by omega, by go_num, by rw [HS.out]⟩
            case measure => simp [intOf]; omega
      · have hkm : k = 63 := by omega
        subst hkm
        go_wp2
        go_ret
        exact ⟨ret_int HV.out.symm, rfl⟩
  · by_cases c2 : 62 < y
    · have HV : Hid (shrN x y = halfTo x 63) := by
        show shrN x y = halfTo x 63
        unfold shrN halfTo; rw [if_pos (by omega), half_far x h h']
      go_enter Try.func69, Try.ntmps69
      go_wp2
      go_loop [0, 5] (fun a i => ∃ k : Nat, k ≤ 63 ∧ i = .int .i64 k ∧ a = .int .i64 (halfTo x k)) (fun _ i => (63 - intOf i).toNat)
      case atStart => exact ⟨0, by omega, rfl, by rw [HX.out]⟩
      case round =>
        obtain ⟨k, hk, rfl, rfl⟩ := hrel
        have l1 := halfTo_lo x k h
        have l2 := halfTo_hi x k h'
        by_cases hlt : k < 63
        · have HS : Hid (halfTo x (k + 1) = halfTo x k / 2) := halfTo_step x k
          by_cases c : halfTo x k < 0
          · by_cases d : halfTo x k % 2 = 0
            · have d1 : ((halfTo x k).tmod 2 != 0) = false := tmod_even _ d
              have HD : Hid (halfTo x k % 2 = 0) := d
              clear d
              go_wp2
              all_goals
                go_round
                case rel => exact ⟨k + 1, by omega, by go_num, by rw [HS.out, half_even _ HD.out]⟩
                case measure => simp [intOf]; omega
            · have d1 : ((halfTo x k).tmod 2 != 0) = true := tmod_odd _ d
              have HD : Hid (¬ halfTo x k % 2 = 0) := d
              clear d
              go_wp2
              all_goals
                go_round
                case rel => exact ⟨k + 1, by omega, by go_num, by rw [HS.out, half_odd _ HD.out]⟩
                case measure => simp [intOf]; omega
          · go_wp2
            all_goals
              go_round
              case rel => exact ⟨k + 1, by omega, by go_num, by rw [HS.out]⟩
              case measure => simp [intOf]; omega
        · have hkm : k = 63 := by omega
          subst hkm
          go_wp2
          go_ret
          exact ⟨ret_int HV.out.symm, rfl⟩
    · obtain ⟨m, rfl⟩ := Int.eq_ofNat_of_zero_le (by omega : 0 ≤ y)
      have HV : Hid (shrN x m = halfTo x m) := by unfold shrN; rw [if_neg (by omega)]; rfl
      go_enter Try.func69, Try.ntmps69
      go_wp2
      go_loop [0, 5] (fun a i => ∃ k : Nat, k ≤ m ∧ i = .int .i64 k ∧ a = .int .i64 (halfTo x k)) (fun _ i => (m - intOf i).toNat)
      case atStart => exact ⟨0, by omega, rfl, by rw [HX.out]⟩
      case round =>
        obtain ⟨k, hk, rfl, rfl⟩ := hrel
        have l1 := halfTo_lo x k h
        have l2 := halfTo_hi x k h'
        by_cases hlt : k < m
        · have HS : Hid (halfTo x (k + 1) = halfTo x k / 2) := halfTo_step x k
          by_cases c : halfTo x k < 0
          · by_cases d : halfTo x k % 2 = 0
            · have d1 : ((halfTo x k).tmod 2 != 0) = false := tmod_even _ d
              have HD : Hid (halfTo x k % 2 = 0) := d
              clear d
              go_wp2
              all_goals
                go_round
                case rel => exact ⟨k + 1, by omega, by go_num, by rw [HS.out, half_even _ HD.out]⟩
                case measure => simp [intOf]; omega
            · have d1 : ((halfTo x k).tmod 2 != 0) = true := tmod_odd _ d
              have HD : Hid (¬ halfTo x k % 2 = 0) := d
              clear d
              go_wp2
              all_goals
                go_round
                case rel => exact ⟨k + 1, by omega, by go_num, by rw [HS.out, half_odd _ HD.out]⟩
                case measure => simp [intOf]; omega
          · go_wp2
            all_goals
              go_round
              case rel => exact ⟨k + 1, by omega, by go_num, by rw [HS.out]⟩
              case measure => simp [intOf]; omega
        · have hkm : k = m := by omega
          subst hkm
          go_wp2
          go_ret
          exact ⟨ret_int HV.out.symm, rfl⟩
set_option maxRecDepth 100000 in
theorem bits_and (a b : Int) (w : World) (h : -4611686018427387904 ≤ a) (h' : a ≤ 4611686018427387903) (g : -4611686018427387904 ≤ b) (g' : b ≤ 4611686018427387903) :
    Calls Try.prog 67 #[.int .i64 a, .int .i64 b, .int .i64 6] w fun e w' => e = .returned (.int .i64 (cutN (andN a b))) ∧ w' = w := by
  have HX : Hid (bitsTo (lowN a &&& lowN b) 0 = 1) := bitsTo_zero _
  go_enter Try.func67, Try.ntmps67
  go_wp2
  go_loop [7, 8] (fun v i => ∃ k : Nat, k ≤ 63 ∧ i = .int .i64 k ∧ v = .int .u64 (bitsTo (lowN a &&& lowN b) k)) (fun _ i => (63 - intOf i).toNat)
  case atStart => exact ⟨0, by omega, rfl, by rw [HX.out]⟩
  case round =>
    obtain ⟨k, hk, rfl, rfl⟩ := hrel
    have l1 := bitsTo_lo (lowN a &&& lowN b) k
    have l2 := bitsTo_hi (lowN a &&& lowN b) k hk
    by_cases hlt : k < 63
    · cases hx : bitB a k
      · cases hy : bitB b k
        · have HS : Hid (bitsTo (lowN a &&& lowN b) k = bitsTo (lowN a &&& lowN b) (k + 1)) := bitsTo_no _ k (by rw [Nat.testBit_and]; simp only [bitB, Int.toNat_natCast] at hx hy; rw [hx, hy]; rfl)
          go_wp2_with (go_at_call 88; refine (bit_any _ _ _ (by omega) (by omega) (by omega) (by omega)).mono ?_; rintro e w' ⟨rfl, rfl⟩)
          all_goals
            go_round
            case rel => exact ⟨k + 1, by omega, by go_num, by rw [HS.out]⟩
            case measure => simp [intOf]; omega
        · have HS : Hid (bitsTo (lowN a &&& lowN b) k = bitsTo (lowN a &&& lowN b) (k + 1)) := bitsTo_no _ k (by rw [Nat.testBit_and]; simp only [bitB, Int.toNat_natCast] at hx hy; rw [hx, hy]; rfl)
          go_wp2_with (go_at_call 88; refine (bit_any _ _ _ (by omega) (by omega) (by omega) (by omega)).mono ?_; rintro e w' ⟨rfl, rfl⟩)
          all_goals
            go_round
            case rel => exact ⟨k + 1, by omega, by go_num, by rw [HS.out]⟩
            case measure => simp [intOf]; omega
      · cases hy : bitB b k
        · have HS : Hid (bitsTo (lowN a &&& lowN b) k = bitsTo (lowN a &&& lowN b) (k + 1)) := bitsTo_no _ k (by rw [Nat.testBit_and]; simp only [bitB, Int.toNat_natCast] at hx hy; rw [hx, hy]; rfl)
          go_wp2_with (go_at_call 88; refine (bit_any _ _ _ (by omega) (by omega) (by omega) (by omega)).mono ?_; rintro e w' ⟨rfl, rfl⟩)
          all_goals
            go_round
            case rel => exact ⟨k + 1, by omega, by go_num, by rw [HS.out]⟩
            case measure => simp [intOf]; omega
        · have HS : Hid (IntKind.u64.wrap (bitsTo (lowN a &&& lowN b) k + IntKind.u64.wrap (2 ^ (k + 1))) = bitsTo (lowN a &&& lowN b) (k + 1)) := bitsTo_walk _ k hlt (by rw [Nat.testBit_and]; simp only [bitB, Int.toNat_natCast] at hx hy; rw [hx, hy]; rfl)
          go_wp2_with (go_at_call 88; refine (bit_any _ _ _ (by omega) (by omega) (by omega) (by omega)).mono ?_; rintro e w' ⟨rfl, rfl⟩)
          all_goals
            go_round
            case rel => exact ⟨k + 1, by omega, by go_num, by rw [HS.out]⟩
            case measure => simp [intOf]; omega
    · have hkm : k = 63 := by omega
      subst hkm
      go_wp2_with (go_at_call 16; refine (rnum_any _ _ (by omega) (by omega)).mono ?_; rintro e w' ⟨rfl, rfl⟩)
      all_goals go_ret
      all_goals exact ⟨ret_int (bitsTo_end _ (and_lt a b)), rfl⟩
set_option maxRecDepth 100000 in
theorem bits_or (a b : Int) (w : World) (h : -4611686018427387904 ≤ a) (h' : a ≤ 4611686018427387903) (g : -4611686018427387904 ≤ b) (g' : b ≤ 4611686018427387903) :
    Calls Try.prog 67 #[.int .i64 a, .int .i64 b, .int .i64 7] w fun e w' => e = .returned (.int .i64 (cutN (orN a b))) ∧ w' = w := by
  have HX : Hid (bitsTo (lowN a ||| lowN b) 0 = 1) := bitsTo_zero _
  go_enter Try.func67, Try.ntmps67
  go_wp2
  go_loop [7, 8] (fun v i => ∃ k : Nat, k ≤ 63 ∧ i = .int .i64 k ∧ v = .int .u64 (bitsTo (lowN a ||| lowN b) k)) (fun _ i => (63 - intOf i).toNat)
  case atStart => exact ⟨0, by omega, rfl, by rw [HX.out]⟩
  case round =>
    obtain ⟨k, hk, rfl, rfl⟩ := hrel
    have l1 := bitsTo_lo (lowN a ||| lowN b) k
    have l2 := bitsTo_hi (lowN a ||| lowN b) k hk
    by_cases hlt : k < 63
    · cases hx : bitB a k
      · cases hy : bitB b k
        · have HS : Hid (bitsTo (lowN a ||| lowN b) k = bitsTo (lowN a ||| lowN b) (k + 1)) := bitsTo_no _ k (by rw [Nat.testBit_or]; simp only [bitB, Int.toNat_natCast] at hx hy; rw [hx, hy]; rfl)
          go_wp2_with (go_at_call 88; refine (bit_any _ _ _ (by omega) (by omega) (by omega) (by omega)).mono ?_; rintro e w' ⟨rfl, rfl⟩)
          all_goals
            go_round
            case rel => exact ⟨k + 1, by omega, by go_num, by rw [HS.out]⟩
            case measure => simp [intOf]; omega
        · have HS : Hid (IntKind.u64.wrap (bitsTo (lowN a ||| lowN b) k + IntKind.u64.wrap (2 ^ (k + 1))) = bitsTo (lowN a ||| lowN b) (k + 1)) := bitsTo_walk _ k hlt (by rw [Nat.testBit_or]; simp only [bitB, Int.toNat_natCast] at hx hy; rw [hx, hy]; rfl)
          go_wp2_with (go_at_call 88; refine (bit_any _ _ _ (by omega) (by omega) (by omega) (by omega)).mono ?_; rintro e w' ⟨rfl, rfl⟩)
          all_goals
            go_round
            case rel => exact ⟨k + 1, by omega, by go_num, by rw [HS.out]⟩
            case measure => simp [intOf]; omega
      · cases hy : bitB b k
        · have HS : Hid (IntKind.u64.wrap (bitsTo (lowN a ||| lowN b) k + IntKind.u64.wrap (2 ^ (k + 1))) = bitsTo (lowN a ||| lowN b) (k + 1)) := bitsTo_walk _ k hlt (by rw [Nat.testBit_or]; simp only [bitB, Int.toNat_natCast] at hx hy; rw [hx, hy]; rfl)
          go_wp2_with (go_at_call 88; refine (bit_any _ _ _ (by omega) (by omega) (by omega) (by omega)).mono ?_; rintro e w' ⟨rfl, rfl⟩)
          all_goals
            go_round
            case rel => exact ⟨k + 1, by omega, by go_num, by rw [HS.out]⟩
            case measure => simp [intOf]; omega
        · have HS : Hid (IntKind.u64.wrap (bitsTo (lowN a ||| lowN b) k + IntKind.u64.wrap (2 ^ (k + 1))) = bitsTo (lowN a ||| lowN b) (k + 1)) := bitsTo_walk _ k hlt (by rw [Nat.testBit_or]; simp only [bitB, Int.toNat_natCast] at hx hy; rw [hx, hy]; rfl)
          go_wp2_with (go_at_call 88; refine (bit_any _ _ _ (by omega) (by omega) (by omega) (by omega)).mono ?_; rintro e w' ⟨rfl, rfl⟩)
          all_goals
            go_round
            case rel => exact ⟨k + 1, by omega, by go_num, by rw [HS.out]⟩
            case measure => simp [intOf]; omega
    · have hkm : k = 63 := by omega
      subst hkm
      go_wp2_with (go_at_call 16; refine (rnum_any _ _ (by omega) (by omega)).mono ?_; rintro e w' ⟨rfl, rfl⟩)
      all_goals go_ret
      all_goals exact ⟨ret_int (bitsTo_end _ (or_lt a b)), rfl⟩
set_option maxRecDepth 100000 in
theorem bits_xor (a b : Int) (w : World) (h : -4611686018427387904 ≤ a) (h' : a ≤ 4611686018427387903) (g : -4611686018427387904 ≤ b) (g' : b ≤ 4611686018427387903) :
    Calls Try.prog 67 #[.int .i64 a, .int .i64 b, .int .i64 8] w fun e w' => e = .returned (.int .i64 (cutN (xorN a b))) ∧ w' = w := by
  have HX : Hid (bitsTo (lowN a ^^^ lowN b) 0 = 1) := bitsTo_zero _
  go_enter Try.func67, Try.ntmps67
  go_wp2
  go_loop [7, 8] (fun v i => ∃ k : Nat, k ≤ 63 ∧ i = .int .i64 k ∧ v = .int .u64 (bitsTo (lowN a ^^^ lowN b) k)) (fun _ i => (63 - intOf i).toNat)
  case atStart => exact ⟨0, by omega, rfl, by rw [HX.out]⟩
  case round =>
    obtain ⟨k, hk, rfl, rfl⟩ := hrel
    have l1 := bitsTo_lo (lowN a ^^^ lowN b) k
    have l2 := bitsTo_hi (lowN a ^^^ lowN b) k hk
    by_cases hlt : k < 63
    · cases hx : bitB a k
      · cases hy : bitB b k
        · have HS : Hid (bitsTo (lowN a ^^^ lowN b) k = bitsTo (lowN a ^^^ lowN b) (k + 1)) := bitsTo_no _ k (by rw [Nat.testBit_xor]; simp only [bitB, Int.toNat_natCast] at hx hy; rw [hx, hy]; rfl)
          go_wp2_with (go_at_call 88; refine (bit_any _ _ _ (by omega) (by omega) (by omega) (by omega)).mono ?_; rintro e w' ⟨rfl, rfl⟩)
          all_goals
            go_round
            case rel => exact ⟨k + 1, by omega, by go_num, by rw [HS.out]⟩
            case measure => simp [intOf]; omega
        · have HS : Hid (IntKind.u64.wrap (bitsTo (lowN a ^^^ lowN b) k + IntKind.u64.wrap (2 ^ (k + 1))) = bitsTo (lowN a ^^^ lowN b) (k + 1)) := bitsTo_walk _ k hlt (by rw [Nat.testBit_xor]; simp only [bitB, Int.toNat_natCast] at hx hy; rw [hx, hy]; rfl)
          go_wp2_with (go_at_call 88; refine (bit_any _ _ _ (by omega) (by omega) (by omega) (by omega)).mono ?_; rintro e w' ⟨rfl, rfl⟩)
          all_goals
            go_round
            case rel => exact ⟨k + 1, by omega, by go_num, by rw [HS.out]⟩
            case measure => simp [intOf]; omega
      · cases hy : bitB b k
        · have HS : Hid (IntKind.u64.wrap (bitsTo (lowN a ^^^ lowN b) k + IntKind.u64.wrap (2 ^ (k + 1))) = bitsTo (lowN a ^^^ lowN b) (k + 1)) := bitsTo_walk _ k hlt (by rw [Nat.testBit_xor]; simp only [bitB, Int.toNat_natCast] at hx hy; rw [hx, hy]; rfl)
          go_wp2_with (go_at_call 88; refine (bit_any _ _ _ (by omega) (by omega) (by omega) (by omega)).mono ?_; rintro e w' ⟨rfl, rfl⟩)
          all_goals
            go_round
            case rel => exact ⟨k + 1, by omega, by go_num, by rw [HS.out]⟩
            case measure => simp [intOf]; omega
        · have HS : Hid (bitsTo (lowN a ^^^ lowN b) k = bitsTo (lowN a ^^^ lowN b) (k + 1)) := bitsTo_no _ k (by rw [Nat.testBit_xor]; simp only [bitB, Int.toNat_natCast] at hx hy; rw [hx, hy]; rfl)
          go_wp2_with (go_at_call 88; refine (bit_any _ _ _ (by omega) (by omega) (by omega) (by omega)).mono ?_; rintro e w' ⟨rfl, rfl⟩)
          all_goals
            go_round
            case rel => exact ⟨k + 1, by omega, by go_num, by rw [HS.out]⟩
            case measure => simp [intOf]; omega
    · have hkm : k = 63 := by omega
      subst hkm
      go_wp2_with (go_at_call 16; refine (rnum_any _ _ (by omega) (by omega)).mono ?_; rintro e w' ⟨rfl, rfl⟩)
      all_goals go_ret
      all_goals exact ⟨ret_int (bitsTo_end _ (xor_lt a b)), rfl⟩
end Go.Proofs.Ytcbgjkedmboifaa
