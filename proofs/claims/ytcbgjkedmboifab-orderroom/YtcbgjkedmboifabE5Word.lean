/-
  Layer 5, the program's text: the word of eight bytes. No condition.
-/
import Derived.Test.YtcbgjkedmboifabE5Bytes
namespace Go.Proofs.Ytcbgjkedmboifab
open Go.ChangeShapes Go.WideShapes Go.ChangeAt Go.RowKit Go.Deep
set_option linter.unusedVariables false
set_option maxHeartbeats 1000000

/-- The number of the first k bytes. -/
def wordK (f : Nat → UInt8) : Nat → Int
  | 0 => 0
  | k + 1 => wordK f k + ((f k).toNat : Int) * 2 ^ (8 * k)
theorem eight_at (f : Nat → UInt8) {i : Nat} (hi : i < 8) : (eightV f)[i]? = some (.int .u8 ((f i).toNat : Int)) := by
  match i, hi with
  | 0, _ | 1, _ | 2, _ | 3, _ | 4, _ | 5, _ | 6, _ | 7, _ => rfl
theorem e5_index (f : Nat → UInt8) {i : Nat} (hi : i < 8) (w : World) : Sem.run Try.prog (Instr.index 130 (.agg (eightV f)) (.int .i64 i)) w = .ok (.int .u8 ((f i).toNat : Int)) w := by
  obtain ⟨i0, hi0, hz0, hz1, hz2⟩ := info_parts infoU8
  have h1 : (0 : Int) ≤ i ∧ (i : Int) < (8 : Nat) := by omega
  simp [Instr.index, asIntOf, run_underlying Try.underlying130, sizeOf, typeInfo, hi0, hz1, part, isAgg, run_underlying Try.underlying5, h1, hi, eight_at f hi]
theorem or_u64 (a b : Int) (h0 : 0 ≤ a) (h1 : a < 18446744073709551616) (h2 : 0 ≤ b) (h3 : b < 18446744073709551616) : bits .or .u64 a b = ((a.toNat ||| b.toNat : Nat) : Int) := by
  show IntKind.u64.wrap ((BitVec.ofInt 64 a ||| BitVec.ofInt 64 b).toNat : Int) = _
  rw [BitVec.toNat_or, BitVec.toNat_ofInt, BitVec.toNat_ofInt]
  have e1 : (a % ((2 ^ 64 : Nat) : Int)).toNat = a.toNat := by omega
  have e2 : (b % ((2 ^ 64 : Nat) : Int)).toNat = b.toNat := by omega
  rw [e1, e2]
  have h4 : a.toNat ||| b.toNat < 2 ^ 64 := Nat.or_lt_two_pow (by omega) (by omega)
  simp [IntKind.wrap, IntKind.bits, IntKind.signed]
  omega
theorem pow_pos8 (k : Nat) : (0 : Int) < 2 ^ (8 * k) := Int.pow_pos (by decide)
theorem pow_next8 (k : Nat) : (2 : Int) ^ (8 * (k + 1)) = 256 * 2 ^ (8 * k) := by
  rw [Nat.mul_add, Int.pow_add, Int.mul_comm]
  rfl
theorem byte_part (c : UInt8) (k : Nat) : 0 ≤ (c.toNat : Int) * 2 ^ (8 * k) ∧ (c.toNat : Int) * 2 ^ (8 * k) ≤ 255 * 2 ^ (8 * k) := by
  have h2 := u8_lt c
  have h3 := pow_pos8 k
  exact ⟨Int.mul_nonneg (by omega) (by omega), Int.mul_le_mul_of_nonneg_right (by omega) (by omega)⟩
theorem wordK_rng (f : Nat → UInt8) : ∀ k, 0 ≤ wordK f k ∧ wordK f k < 2 ^ (8 * k)
  | 0 => ⟨Int.le_refl _, by show (0 : Int) < 1; decide⟩
  | k + 1 => by
    obtain ⟨h0, h1⟩ := wordK_rng f k
    obtain ⟨h2, h3⟩ := byte_part (f k) k
    rw [pow_next8]
    show 0 ≤ wordK f k + ((f k).toNat : Int) * 2 ^ (8 * k) ∧ wordK f k + ((f k).toNat : Int) * 2 ^ (8 * k) < _
    omega
theorem pow_le56 {k : Nat} (hk : k < 8) : (2 : Int) ^ (8 * k) ≤ 72057594037927936 := by
  match k, hk with
  | 0, _ | 1, _ | 2, _ | 3, _ | 4, _ | 5, _ | 6, _ | 7, _ => decide
theorem wrapId_u64 (x : Int) (h0 : 0 ≤ x) (h1 : x < 18446744073709551616) : IntKind.u64.wrap x = x := by
  simp [IntKind.wrap, IntKind.bits, IntKind.signed]
  omega
theorem or_step (f : Nat → UInt8) {k : Nat} (hk : k < 8) : bits .or .u64 (wordK f k) (IntKind.u64.wrap (IntKind.u64.wrap ((f k).toNat : Int) * 2 ^ (8 * k))) = wordK f (k + 1) := by
  obtain ⟨h0, h1⟩ := wordK_rng f k
  obtain ⟨h2, h3⟩ := byte_part (f k) k
  have h4 := pow_le56 hk
  have h5 := u8_lt (f k)
  rw [wrapId_u64 ((f k).toNat : Int) (by omega) (by omega), wrapId_u64 _ h2 (by omega), or_u64 _ _ h0 (by omega) h2 (by omega)]
  show _ = wordK f k + ((f k).toNat : Int) * 2 ^ (8 * k)
  have e : (((f k).toNat : Int) * 2 ^ (8 * k)).toNat = 2 ^ (8 * k) * (f k).toNat := by
    rw [Int.mul_comm]
    have : ((2 : Int) ^ (8 * k) * ((f k).toNat : Int)) = ((2 ^ (8 * k) * (f k).toNat : Nat) : Int) := by simp
    rw [this]; rfl
  have hl : (wordK f k).toNat < 2 ^ (8 * k) := by
    have : ((2 ^ (8 * k) : Nat) : Int) = (2 : Int) ^ (8 * k) := by simp
    omega
  rw [e, Nat.or_comm, ← Nat.two_pow_add_eq_or_of_lt hl]
  have : ((2 ^ (8 * k) * (f k).toNat + (wordK f k).toNat : Nat) : Int) = (2 : Int) ^ (8 * k) * ((f k).toNat : Int) + wordK f k := by
    simp; omega
  rw [this, Int.mul_comm]
  omega
end Go.Proofs.Ytcbgjkedmboifab
