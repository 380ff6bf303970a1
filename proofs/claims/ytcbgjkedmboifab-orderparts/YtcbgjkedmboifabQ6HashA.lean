/-
  Layer 6, the program's hash: a word more, a text's bytes more. Condition: words are words.
-/
import Derived.Test.YtcbgjkedmboifabQ6Fault
import Derived.Test.YtcbgjkedmboifabO6Hash
import Derived.Test.YtcbgjkedmboifabD6Dos
import Derived.Deep.RegionHeld
namespace Go.Proofs.Ytcbgjkedmboifab
open Go.ChangeShapes Go.WideShapes Go.ChangeAt Go.RowKit Go.Deep
set_option linter.unusedVariables false
set_option maxHeartbeats 1000000

variable {w w' : World} {p : Pl} {s : St} {r : RS}
theorem num_int6 (z : Int) : numW (intW (numW (intW z))) = numW (intW z) := by unfold numW intW; split <;> split <;> omega
theorem num_back (x : Int) (h0 : 0 ≤ x) (h1 : x ≤ 18446744073709551615) : numW (intW (numW x)) = numW x := by unfold numW intW; split <;> split <;> omega
theorem doV1 (a b : Int) : doV 1 a b = intW (numW a + numW b) := by unfold doV; rw [if_pos rfl]
theorem mix_int (h z : Int) : mixW h (numW (intW z)) = mixW h z := by
  unfold mixW
  rw [doV1, doV1, num_int6]
theorem mix_word (h n : Int) (n0 : 0 ≤ n) (n1 : n ≤ 18446744073709551615) : doV 1 (doV 3 (intW 31) h) n = mixW h (numW n) := by
  have e : doV 3 (intW 31) h = doV 3 h (intW 31) := by
    unfold doV
    rw [if_neg (by decide), if_neg (by decide), if_pos rfl, if_neg (by decide), if_neg (by decide), if_pos rfl, Int.mul_comm]
  unfold mixW
  rw [e]
  rw [doV1, doV1, num_back n n0 n1]
theorem add_any {v : Int} (h n : Int) (w : World) (h0 : 0 ≤ h) (h1 : h ≤ 18446744073709551615) (n0 : 0 ≤ n) (n1 : n ≤ 18446744073709551615) (e : mixW h (numW n) = v) :
    Calls Try.prog 59 #[.int .u64 h, .int .u64 n] w fun e w' => e = .returned (.int .u64 v) ∧ w' = w := by
  subst e
  rw [← mix_word h n n0 n1]
  obtain ⟨a0, a1⟩ := intW_rng 31
  obtain ⟨c0, c1⟩ := doV3_rng (intW 31) h
  obtain ⟨A, hA⟩ : ∃ A, intW 31 = A := ⟨_, rfl⟩
  obtain ⟨C, hC⟩ : ∃ C, doV 3 (intW 31) h = C := ⟨_, rfl⟩
  obtain ⟨D, hD⟩ : ∃ D, doV 1 C n = D := ⟨_, rfl⟩
  rw [hC, hD]
  rw [hC] at c0 c1
  rw [hA] at hC a0 a1
  have HA := hidden hA
  have HC := hidden hC
  have HD := hidden hD
  clear hA hC hD
  go_enter Try.func59, Try.ntmps59
  go_wp2_with (first | (go_at_call 25; refine (int_any _ _ (by omega) (by omega)).mono ?_; rintro e w' ⟨rfl, hw'⟩; rw [hw']; clear hw' w'; rw [HA.out]) | (go_at_call 30; refine (do_any _ _ _ _ (by first | with_reducible exact a0 | with_reducible exact c0) (by first | with_reducible exact a1 | with_reducible exact c1) (by first | with_reducible exact h0 | with_reducible exact n0) (by first | with_reducible exact h1 | with_reducible exact n1) (by omega) (by omega)).mono ?_; rintro e w' ⟨rfl, hw'⟩; rw [hw']; clear hw' w'; first | rw [HC.out] | rw [HD.out]))
  all_goals go_ret
  all_goals exact ⟨rfl, rfl⟩
theorem addInt_any {v : Int} (h z : Int) (w : World) (h0 : 0 ≤ h) (h1 : h ≤ 18446744073709551615) (e : mixW h z = v) :
    Calls Try.prog 59 #[.int .u64 h, .int .u64 (intW z)] w fun e w' => e = .returned (.int .u64 v) ∧ w' = w :=
  add_any h (intW z) w h0 h1 (intW_rng z).1 (intW_rng z).2 (by rw [mix_int]; exact e)
theorem fold_snoc (t : ByteArray) (h : Int) {i : Nat} (hi : i < t.size) : ((intsS t).take (i + 1)).foldl mixW h = mixW (((intsS t).take i).foldl mixW h) ((t[i]).toNat : Int) := by
  rw [List.take_add_one, intsS_at t hi, List.foldl_append]; rfl
theorem addBytes_any (t : ByteArray) (h : Int) (w : World) (h0 : 0 ≤ h) (h1 : h ≤ 18446744073709551615) (ht : t.size ≤ 1000000) :
    Calls Try.prog 61 #[.int .u64 h, .string t] w fun e w' => e = .returned (.int .u64 ((intsS t).foldl mixW h)) ∧ w' = w := by
  have HL := hidden (intsS_len t)
  go_enter Try.func61, Try.ntmps61
  go_wp2_with fail
  go_loop [0, 8] (fun hv iv => ∃ (i : Nat) (g : Int), i ≤ t.size ∧ iv = .int .i64 i ∧ hv = .int .u64 g ∧ R64 g ∧ g = ((intsS t).take i).foldl mixW h) (fun _ iv => (t.size - intOf iv).toNat)
  case atStart => exact ⟨0, h, Nat.zero_le _, rfl, rfl, ⟨h0, h1⟩, rfl⟩
  case round =>
    obtain ⟨i, g, hi, rfl, rfl, ⟨g0, g1⟩, hg⟩ := hrel
    have HG := hidden hg
    clear hg
    by_cases hlt : i < t.size
    · have x2 : (i : Int) < (t.size : Int) := by omega
      have HF := hidden (fold_snoc t h hlt)
      have b1 : ((t[i]).toNat : Int) < 256 := by have := u8_lt (t[i]); omega
      obtain ⟨M, hM⟩ : ∃ M, mixW g ((t[i]).toNat : Int) = M := ⟨_, rfl⟩
      obtain ⟨m0, m1⟩ := mixW_rng g ((t[i]).toNat : Int)
      rw [hM] at m0 m1
      have HM := hidden hM
      clear hM
      go_wp2_with (first | (go_at_call 25; refine (int_any _ _ (by omega) (by omega)).mono ?_; rintro e w' ⟨rfl, hw'⟩; rw [hw']; clear hw' w') | (go_at_call 59; refine (addInt_any g _ _ g0 g1 HM.out).mono ?_; rintro e w' ⟨rfl, hw'⟩; rw [hw']; clear hw' w'))
      all_goals go_roundw
      case rel => exact ⟨i + 1, M, by omega, by go_num, rfl, ⟨m0, m1⟩, by rw [HF.out, ← HG.out, HM.out]⟩
      case measure => simp [intOf]; omega
    · have x2 : ¬ (i : Int) < (t.size : Int) := by omega
      have HF : Hid (g = (intsS t).foldl mixW h) := by show _ = _; rw [HG.out, List.take_of_length_le (by rw [HL.out]; omega)]
      go_wp2_with fail
      all_goals go_ret
      all_goals exact ⟨ret_int HF.out, rfl⟩
end Go.Proofs.Ytcbgjkedmboifab
