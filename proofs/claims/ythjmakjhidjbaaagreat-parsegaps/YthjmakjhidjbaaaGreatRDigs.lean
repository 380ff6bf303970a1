/-
 What the document's own Int and Digits return. Conditions: the argument fits its kind.
-/
import Derived.Test.YthjmakjhidjbaaaGreatRows
import Derived.WalkKit
import Derived.ProofKit
import Derived.OpenShut
import Derived.WalkLawsBesides
import Derived.Laws.IdiomStrings
import Derived.Lib.ItoaLen
import Derived.Lib.AppendIntMem
import Derived.Test.YthjmakjhidjbaaaGreatPlain
import Derived.Test.YthjmakjhidjbaaaGreatShelf
namespace Go.Proofs.YthjmakjhidjbaaaGreat
open Go.ChangeShapes Go.WideShapes Go.ChangeAt Go.RowKit
set_option linter.unusedVariables false
set_option maxHeartbeats 400000

theorem rcut_any (n : Int) (w : World) (h : -9223372036854775808 ≤ n) (h' : n ≤ 9223372036854775807) :
  Calls Tryz.prog 68 #[.int .i64 n] w fun e w' => e = .returned (.int .i64 (cutN n)) ∧ w' = w := by
 go_enter Tryz.func68, Tryz.ntmps68
 go_wp2
 all_goals go_ret
 all_goals exact ⟨ret_int (by unfold cutN; omega), rfl⟩
theorem rint_any (n : Int) (w : World) (h : -9223372036854775808 ≤ n) (h' : n ≤ 9223372036854775807) :
  Calls Tryz.prog 38 #[.int .i64 n] w fun e w' => e = .returned (.int .u64 (intW n)) ∧ w' = w := by
 have lo := cutN_lo n
 have hi := cutN_hi n
 go_enter Tryz.func38, Tryz.ntmps38
 go_wp2_with (go_at_call 68; refine (rcut_any _ _ (by omega) (by omega)).mono ?_; rintro e w' ⟨rfl, rfl⟩)
 all_goals go_ret
 all_goals refine ⟨ret_int ?_, rfl⟩
 ·rw [← intW_cut n, IntKind.wrap_u64, IntKind.wrap_u64]; unfold intW; omega
 ·rw [← intW_cut n]; unfold intW; omega
theorem rnum_any (x : Int) (w : World) (h : 0 ≤ x) (h' : x ≤ 18446744073709551615) :
  Calls Tryz.prog 47 #[.int .u64 x] w fun e w' => e = .returned (.int .i64 (numW x)) ∧ w' = w := by
 go_enter Tryz.func47, Tryz.ntmps47
 go_wp2
 all_goals go_ret
 all_goals exact ⟨ret_int (by unfold numW; split <;> omega), rfl⟩
theorem ret_str {a b : ByteArray} (h : a = b) : Ending.returned (.string a) = .returned (.string b) := by rw [h]
/-- The last digit's text of a number of 0 or more, and the numeral's. -/
def digS (n : Int) : ByteArray := ⟨#[UInt8.ofNat (48 + n.toNat % 10)]⟩
def decS (n : Int) : ByteArray := ⟨(Lib.decDigits n.toNat).toArray⟩
theorem digS_size (n : Int) : (digS n).size ≤ 1 := Nat.le_refl _
theorem decS_size (n : Int) (h : 0 ≤ n) (h' : n ≤ 4611686018427387904) : (decS n).size ≤ 21 := by
 show (Lib.decDigits n.toNat).length ≤ 21
 rw [← Lib.itoa_nonneg, Int.toNat_of_nonneg h]
 exact Lib.itoa_length_le n (by omega) (by omega)
theorem decS_one (n : Int) (h : 0 ≤ n) (h' : n < 10) : decS n = digS n := by
 unfold decS digS; rw [Lib.decDigits_one (by omega), Nat.mod_eq_of_lt (by omega)]
theorem decS_step (n : Int) (h : 10 ≤ n) : decS (n / 10) ++ digS n = decS n := by
 unfold decS digS
 rw [show (n / 10).toNat = n.toNat / 10 from by omega, ByteArray.mk_append_mk]
 rw [Lib.decDigits.eq_def n.toNat, dif_neg (by omega)]
theorem quo_is (n : Int) (h : 0 ≤ n) (h' : n ≤ 4611686018427387904) : wrap64 (-n.tdiv 10) = -(n / 10) := by
 rw [Int.tdiv_eq_ediv_of_nonneg h, wrap64_def]; omega
theorem one_text (w : World) (n : Int) (h : 0 ≤ n) :
  (convert 76 9 (.slice (some ⟨w.heap.size, 0, none⟩) 1 1)).run Tryz.prog (w.alloc (.cells #[.int .u8 (48 + n % 10)] 5)) = .ok (.string (digS n)) (w.alloc (.cells #[.int .u8 (48 + n % 10)] 5)) := by
 have h := run_convert_bytes_back (P := Tryz.prog) (w.alloc (.cells #[.int .u8 (48 + n % 10)] 5)) 76 9 5 ⟨w.heap.size, 0, none⟩ 1 [UInt8.ofNat (48 + n.toNat % 10)] Tryz.underlying76 Tryz.underlying5 Tryz.underlying9 (fun j hj => by
  have hj0 : j = 0 := by simp at hj; omega
  subst hj0
  have e : (UInt8.ofNat (48 + n.toNat % 10)).toNat = 48 + n.toNat % 10 := by
   rw [UInt8.toNat_ofNat']; omega
  show (w.alloc (.cells #[.int .u8 (48 + n % 10)] 5)).cell? ⟨w.heap.size, 0, none⟩ = some (.int .u8 ((UInt8.ofNat (48 + n.toNat % 10)).toNat : Int))
  rw [World.cell?_alloc_mark, e]
  show some (Value.int .u8 (48 + n % 10)) = _
  congr 2
  omega)
 exact h
theorem rdig_any : ∀ (k : Nat) (n : Int) (w : World), 0 ≤ n → n ≤ k → n ≤ 4611686018427387904 →
  Calls Tryz.prog 67 #[.int .i64 (-n)] w fun e w' => e = .returned (.string (decS n)) ∧ Below w.heap.size w w' := by
 intro k
 induction k with
 | zero =>
  intro n w h0 hk hm
  have h10 : n < 10 := by omega
  have HV : Hid (decS n = digS n) := decS_one n h0 h10
  have ht := one_text w n h0
  go_enter Tryz.func67, Tryz.ntmps67
  go_wp2_with fail
  all_goals go_ret
  all_goals exact ⟨ret_str HV.out.symm, (Below.refl _ _).alloc (Nat.le_refl _) _⟩
 | succ k ih =>
  intro n w h0 hk hm
  have IH : Hid (∀ (n : Int) (w : World), 0 ≤ n → n ≤ k → n ≤ 4611686018427387904 →
   Calls Tryz.prog 67 #[.int .i64 (-n)] w fun e w' => e = .returned (.string (decS n)) ∧ Below w.heap.size w w') := ih
  clear ih
  have ht := one_text w n h0
  by_cases h10 : n < 10
  ·have HV : Hid (decS n = digS n) := decS_one n h0 h10
   go_enter Tryz.func67, Tryz.ntmps67
   go_wp2_with fail
   all_goals go_ret
   all_goals exact ⟨ret_str HV.out.symm, (Below.refl _ _).alloc (Nat.le_refl _) _⟩
  ·have HV : Hid (decS (n / 10) ++ digS n = decS n) := decS_step n (by omega)
   have z1 := digS_size n
   have z2 := decS_size (n / 10) (by omega) (by omega)
   go_enter Tryz.func67, Tryz.ntmps67
   go_wp2_with fail
   rw [quo_is n h0 hm]
   refine (IH.out (n / 10) _ (by omega) (by omega) (by omega)).mono ?_
   rintro e w1 ⟨rfl, hb⟩
   go_wp2_with fail
   all_goals go_ret
   all_goals exact ⟨ret_str HV.out, ((Below.refl _ _).alloc (Nat.le_refl _) _).trans (hb.mono (by simp))⟩
theorem rdigits_any (x : Int) (w : World) (h : 0 ≤ x) (h' : x ≤ 18446744073709551615) :
  Calls Tryz.prog 37 #[.int .u64 x] w fun e w' => e = .returned (.string ⟨(Lib.itoa (numW x)).toArray⟩) ∧ Below w.heap.size w w' := by
 have lo := numW_lo x h
 have hi := numW_hi x h'
 by_cases c : numW x < 0
 ·have HV : Hid (⟨#[45]⟩ ++ decS (-numW x) = (⟨(Lib.itoa (numW x)).toArray⟩ : ByteArray)) := by
   show ⟨#[45]⟩ ++ decS (-numW x) = (⟨(Lib.itoa (numW x)).toArray⟩ : ByteArray)
   unfold decS Lib.itoa
   rw [if_pos c, show (-numW x).toNat = (numW x).natAbs from by omega]
   exact ByteArray.mk_append_mk [45] _
  have z2 := decS_size (-numW x) (by omega) (by omega)
  go_enter Tryz.func37, Tryz.ntmps37
  go_wp2_with (first | (go_at_call 47; refine (rnum_any _ _ (by omega) (by omega)).mono ?_; rintro e w' ⟨rfl, rfl⟩))
  rw [show numW x = -(-numW x) from by omega]
  refine (rdig_any (-numW x).toNat (-numW x) _ (by omega) (by omega) (by omega)).mono ?_
  rintro e w1 ⟨rfl, hb⟩
  go_wp2_with fail
  all_goals go_ret
  all_goals exact ⟨ret_str HV.out, hb⟩
 ·have HV : Hid (decS (numW x) = (⟨(Lib.itoa (numW x)).toArray⟩ : ByteArray)) := by
   show decS (numW x) = (⟨(Lib.itoa (numW x)).toArray⟩ : ByteArray)
   unfold decS Lib.itoa
   rw [if_neg c]
  go_enter Tryz.func37, Tryz.ntmps37
  go_wp2_with (first | (go_at_call 47; refine (rnum_any _ _ (by omega) (by omega)).mono ?_; rintro e w' ⟨rfl, rfl⟩))
  refine (rdig_any (numW x).toNat (numW x) _ (by omega) (by omega) (by omega)).mono ?_
  rintro e w1 ⟨rfl, hb⟩
  go_wp2_with fail
  all_goals go_ret
  all_goals exact ⟨ret_str HV.out, hb⟩
end Go.Proofs.YthjmakjhidjbaaaGreat
