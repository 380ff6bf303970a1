/-
  Layer 6, plain: texts are in their own order: byte by byte, a beginning being less. No program is named.
-/
import Derived.Test.YtcbgjkedmboifabO6Texts
namespace Go.Proofs.Ytcbgjkedmboifab
open Go.ChangeShapes Go.WideShapes Go.ChangeAt Go.RowKit Go.Deep
set_option linter.unusedVariables false
set_option maxHeartbeats 1000000

theorem less_sgn : ∀ l m : List UInt8, Go.Op.bytesLess l m = decide (sgnL (bytesI l) (bytesI m) = -1)
  | [], [] => rfl
  | _ :: _, [] => rfl
  | [], _ :: _ => rfl
  | a :: l, b :: m => by
    have ih := less_sgn l m
    show (decide (a < b) || (a == b && Go.Op.bytesLess l m)) = decide ((if (a.toNat : Int) < (b.toNat : Int) then (-1 : Int) else if (b.toNat : Int) < (a.toNat : Int) then 1 else sgnL (bytesI l) (bytesI m)) = -1)
    rw [ih]
    by_cases h1 : a < b
    · have h2 : (a.toNat : Int) < (b.toNat : Int) := by have := UInt8.lt_iff_toNat_lt.1 h1; omega
      rw [if_pos h2]; simp [h1]
    · have h2 : ¬ (a.toNat : Int) < (b.toNat : Int) := fun c => h1 (UInt8.lt_iff_toNat_lt.2 (by omega))
      rw [if_neg h2]
      by_cases h3 : a = b
      · subst h3
        rw [if_neg (by omega)]; simp
      · have h4 : (b.toNat : Int) < (a.toNat : Int) := by
          have : a.toNat ≠ b.toNat := fun c => h3 (UInt8.toNat_inj.1 c)
          omega
        rw [if_pos h4]
        simp [h1, h3]
theorem same_sgn (l m : List UInt8) : (l == m) = decide (sgnL (bytesI l) (bytesI m) = 0) := by
  by_cases h : l = m
  · subst h; rw [sgnL_self]; simp
  · have : sgnL (bytesI l) (bytesI m) ≠ 0 := fun c => h (by
      have e := sgnL_eq c
      have hinj : Function.Injective (fun c : UInt8 => (c.toNat : Int)) := fun x y e => UInt8.toNat_inj.1 (Int.ofNat_inj.1 e)
      exact List.map_inj_right (f := fun c : UInt8 => (c.toNat : Int)) (fun x y e => hinj e) |>.1 e)
    simp [h, this]
end Go.Proofs.Ytcbgjkedmboifab
