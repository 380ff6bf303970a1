/-
 Plain arithmetic of words, without any program: numbers of 63 bits as words of 64 bits, addresses, headers; what cutting to 63 bits does. No condition but those written in each statement.
-/
import Derived.WalkKit
import Derived.Laws.BitsAllLaws
namespace Go.Proofs.YthjmakjhidjbaaaGreat
open Go.RowKit

/-- The word of a number, cut. -/
def intW (n : Int) : Int := (2 * n + 1) % 18446744073709551616
/-- The number of a word. -/
def numW (x : Int) : Int := if x < 9223372036854775808 then x / 2 else x / 2 - 9223372036854775808
/-- A number cut to 63 bits. -/
def cutN (n : Int) : Int := (n + 4611686018427387904) % 9223372036854775808 - 4611686018427387904
/-- Is a word a number's? -/
def isIntW (x : Int) : Bool := x % 2 == 1
/-- The word of an address. -/
def ptrW (a : Int) : Int := if a < 0 ∨ 2147483647 < a then 0 else 2 * a
/-- The address of a word. -/
def addrW (x : Int) : Int := if x % 2 = 1 ∨ 4294967294 < x then 0 else x / 2
/-- The word of a header. -/
def headW (t s : Int) : Int := if t < 0 ∨ 255 < t ∨ s < 0 ∨ 2147483647 < s then 0 else intW (256 * s + t)
/-- Is a word a header's? -/
def isHeadW (x : Int) : Bool := x % 2 == 1 && decide (0 ≤ numW x) && decide (numW x ≤ 549755813887)
/-- The tag of a header's word. -/
def tagW (x : Int) : Int := if isHeadW x = true then numW x % 256 else 0
/-- The size of a header's word. -/
def sizeW (x : Int) : Int := if isHeadW x = true then numW x / 256 else 0

theorem ret_int {k : IntKind} {a b : Int} (h : a = b) : Ending.returned (.int k a) = .returned (.int k b) := by rw [h]
theorem ret_bool {a b : Bool} (h : a = b) : Ending.returned (.bool a) = .returned (.bool b) := by rw [h]

theorem intW_lo (n : Int) : 0 ≤ intW n := by unfold intW; omega
theorem intW_hi (n : Int) : intW n ≤ 18446744073709551615 := by unfold intW; omega
theorem numW_lo (x : Int) (h : 0 ≤ x) : -4611686018427387904 ≤ numW x := by unfold numW; split <;> omega
theorem numW_hi (x : Int) (h : x ≤ 18446744073709551615) : numW x ≤ 4611686018427387903 := by unfold numW; split <;> omega
theorem cutN_lo (n : Int) : -4611686018427387904 ≤ cutN n := by unfold cutN; omega
theorem cutN_hi (n : Int) : cutN n ≤ 4611686018427387903 := by unfold cutN; omega
theorem intW_cut (n : Int) : intW (cutN n) = intW n := by unfold intW cutN; omega
theorem num_int (n : Int) : numW (intW n) = cutN n := by unfold numW intW cutN; split <;> omega
theorem cut_same (n : Int) (h : -4611686018427387904 ≤ n) (h' : n ≤ 4611686018427387903) : cutN n = n := by unfold cutN; omega
theorem int_num (x : Int) (h : 0 ≤ x) (h' : x ≤ 18446744073709551615) (ho : x % 2 = 1) : intW (numW x) = x := by unfold intW numW; split <;> omega
theorem isInt_int (n : Int) : isIntW (intW n) = true := by unfold isIntW intW; rw [beq_iff_eq]; omega
theorem int_eq (a b : Int) (h : (a - b) % 9223372036854775808 = 0) : intW a = intW b := by unfold intW; omega
theorem cut_eq (a b : Int) (h : (a - b) % 9223372036854775808 = 0) : cutN a = cutN b := by unfold cutN; omega
theorem cut_dvd (n : Int) : ∃ k, cutN n = n + k * 9223372036854775808 := ⟨-((n + 4611686018427387904) / 9223372036854775808), by unfold cutN; omega⟩

theorem or_one (x : Int) (h : 0 ≤ x) (h' : x ≤ 18446744073709551615) (he : x % 2 = 0) : bits .or .u64 x 1 = x + 1 := by
 rw [u64_or x 1 h (by omega) (by omega) (by omega)]
 have e : (x.toNat ||| (1 : Int).toNat) = x.toNat + 1 := nat_join 1 x.toNat 1 (by omega) (by omega)
 rw [e]; omega
theorem and_one (x : Int) (h : 0 ≤ x) (h' : x ≤ 18446744073709551615) : bits .and .u64 x 1 = x % 2 := by
 rw [u64_and x 1 h (by omega) (by omega) (by omega)]
 have e : (x.toNat &&& (1 : Int).toNat) = x.toNat % 2 := nat_mask1 x.toNat
 rw [e]; omega
theorem int_walk (n : Int) : bits BinOp.or IntKind.u64 (IntKind.u64.wrap (IntKind.u64.wrap n * 2)) 1 = intW n := by
 rw [IntKind.wrap_u64, IntKind.wrap_u64, or_one _ (by omega) (by omega) (by omega)]
 unfold intW; omega
theorem wrap64_def (n : Int) : wrap64 n = (n + 9223372036854775808) % 18446744073709551616 - 9223372036854775808 := by
 unfold wrap64; omega
theorem num_walk (x : Int) (h : 0 ≤ x) (h' : x ≤ 18446744073709551615) : wrap64 x / 2 = numW x := by
 rw [wrap64_def]; unfold numW; split <;> omega
theorem wrap_i64 (n : Int) : IntKind.i64.wrap n = wrap64 n := by
 rw [wrap64_def]; simp [IntKind.wrap, IntKind.bits, IntKind.signed]; omega
theorem and_i64 (a b : Int) : bits .and .i64 a b = wrap64 (((a % 18446744073709551616).toNat &&& (b % 18446744073709551616).toNat : Nat) : Int) := by
 show IntKind.i64.wrap ((BitVec.ofInt 64 a &&& BitVec.ofInt 64 b).toNat : Int) = _
 rw [BitVec.toNat_and, BitVec.toNat_ofInt, BitVec.toNat_ofInt, wrap_i64]
 rfl
theorem or_i64 (a b : Int) : bits .or .i64 a b = wrap64 (((a % 18446744073709551616).toNat ||| (b % 18446744073709551616).toNat : Nat) : Int) := by
 show IntKind.i64.wrap ((BitVec.ofInt 64 a ||| BitVec.ofInt 64 b).toNat : Int) = _
 rw [BitVec.toNat_or, BitVec.toNat_ofInt, BitVec.toNat_ofInt, wrap_i64]
 rfl
theorem xor_i64 (a b : Int) : bits .xor .i64 a b = wrap64 (((a % 18446744073709551616).toNat ^^^ (b % 18446744073709551616).toNat : Nat) : Int) := by
 show IntKind.i64.wrap ((BitVec.ofInt 64 a ^^^ BitVec.ofInt 64 b).toNat : Int) = _
 rw [BitVec.toNat_xor, BitVec.toNat_ofInt, BitVec.toNat_ofInt, wrap_i64]
 rfl
theorem and_255 (n : Int) (h : 0 ≤ n) (h' : n ≤ 4611686018427387903) : bits .and .i64 n 255 = n % 256 := by
 rw [and_i64]
 have e1 : (n % 18446744073709551616).toNat = n.toNat := by omega
 have e2 : ((255 : Int) % 18446744073709551616).toNat = 255 := by omega
 rw [e1, e2, nat_mask8, wrap64_def]; omega
end Go.Proofs.YthjmakjhidjbaaaGreat
