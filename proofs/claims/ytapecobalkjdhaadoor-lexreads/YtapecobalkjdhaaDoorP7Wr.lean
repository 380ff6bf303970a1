/-
  Layer 7, the program's Text: how a byte of a text is written. No condition.
-/
import Derived.Test.YtapecobalkjdhaaDoorP7Txt
namespace Go.Proofs.YtapecobalkjdhaaDoor
open Go.ChangeShapes Go.WideShapes Go.ChangeAt Go.RowKit Go.Deep
set_option linter.unusedVariables false
set_option maxHeartbeats 1000000

theorem str_of {w : World} {g c : Nat} {t : TypeId} {vs : Array Value} (l : List UInt8) (h : w.heap[g]? = some (.cells vs t (0, 0))) (hv : vs.toList = l.map u8v) : Sem.run Tryd.prog (convert 59 9 (.slice (some ⟨g, 0, none⟩) l.length c)) w = .ok (.string ⟨l.toArray⟩) w := by
  refine run_string l (fun i hi => ?_)
  have : vs[i]? = some (u8v l[i]) := by
    rw [← Array.getElem?_toList, hv]
    simp [hi]
  simp [World.cell?, h, this]
def hexA : ByteArray := ⟨#[48, 49, 50, 51, 52, 53, 54, 55, 56, 57, 97, 98, 99, 100, 101, 102]⟩
theorem hexA_at (n : Nat) (h : n < 16) : (hexA[n]'h) = hexD (UInt8.ofNat n) := by
  have : ∀ k : Fin 16, (hexA[k.val]'k.isLt) = hexD (UInt8.ofNat k.val) := by decide
  exact this ⟨n, h⟩
theorem idx_any (A : ByteArray) (n : Nat) (h : n < A.size) (w : World) : Sem.run Tryd.prog (Instr.index 9 (.string A) (.int .u8 (n : Int))) w = .ok (.int .u8 (A[n].toNat : Int)) w := by
  simp [go_sem, h]
theorem idx_hex (n : Nat) (h : n < 16) (w : World) : Sem.run Tryd.prog (Instr.index 9 (.string hexA) (.int .u8 (n : Int))) w = .ok (.int .u8 ((hexD (UInt8.ofNat n)).toNat : Int)) w := by
  rw [idx_any hexA n h w, hexA_at n h]
theorem div_hex (c : UInt8) : UInt8.ofNat (c.toNat / 16) = c / 16 ∧ UInt8.ofNat (c.toNat % 16) = c % 16 := by
  constructor
  · rw [← UInt8.toNat_inj, UInt8.toNat_div]
    have := c.toNat_lt
    simp
    omega
  · rw [← UInt8.toNat_inj, UInt8.toNat_mod]
    have := c.toNat_lt
    simp
    omega
theorem written_hex (c : UInt8) (w : World) (e1 : ((c.toNat : Int) == 34) = false) (e2 : ((c.toNat : Int) == 92) = false) (e3 : ((c.toNat : Int) == 10) = false) (e4 : ((c.toNat : Int) == 9) = false) (e5 : ¬ (32 ≤ (c.toNat : Int) ∧ (c.toNat : Int) ≤ 126)) : Calls Tryd.prog 32 #[.int .u8 (c.toNat : Int)] w fun e w' => e = .returned (.string ⟨#[92, 120, hexD (c / 16), hexD (c % 16)]⟩) ∧ Below w.heap.size w w' := by
  have h0 : (0 : Int) ≤ (c.toNat : Int) := by omega
  have hlt := c.toNat_lt
  have h1 : (c.toNat : Int) ≤ 255 := by omega
  obtain ⟨d1, d2⟩ := div_hex c
  have i1 : ∀ w', Sem.run Tryd.prog (Instr.index 9 (.string ⟨#[48, 49, 50, 51, 52, 53, 54, 55, 56, 57, 97, 98, 99, 100, 101, 102]⟩) (.int .u8 ((c.toNat : Int) / 16))) w' = .ok (.int .u8 ((hexD (c / 16)).toNat : Int)) w' := fun w' => by
    have := idx_hex (c.toNat / 16) (by omega) w'
    rw [d1] at this
    exact this
  have i2 : ∀ w', Sem.run Tryd.prog (Instr.index 9 (.string ⟨#[48, 49, 50, 51, 52, 53, 54, 55, 56, 57, 97, 98, 99, 100, 101, 102]⟩) (.int .u8 ((c.toNat : Int) % 16))) w' = .ok (.int .u8 ((hexD (c % 16)).toNat : Int)) w' := fun w' => by
    have := idx_hex (c.toNat % 16) (by omega) w'
    rw [d2] at this
    exact this
  have hcv : Sem.run Tryd.prog (convert 59 9 (.slice (some ⟨w.heap.size, 0, none⟩) 4 4)) (w.alloc (.cells #[.int .u8 92, .int .u8 120, .int .u8 ((hexD (c / 16)).toNat : Int), .int .u8 ((hexD (c % 16)).toNat : Int)] 5)).drew = .ok (.string ⟨#[92, 120, hexD (c / 16), hexD (c % 16)]⟩) (w.alloc (.cells #[.int .u8 92, .int .u8 120, .int .u8 ((hexD (c / 16)).toNat : Int), .int .u8 ((hexD (c % 16)).toNat : Int)] 5)).drew := str_of (w := (w.alloc (.cells #[.int .u8 92, .int .u8 120, .int .u8 ((hexD (c / 16)).toNat : Int), .int .u8 ((hexD (c % 16)).toNat : Int)] 5)).drew) [92, 120, hexD (c / 16), hexD (c % 16)] (blk_alloc_new _ _) rfl
  clear d1 d2
  generalize hexD (c / 16) = x at *
  generalize hexD (c % 16) = y at *
  by_cases h32 : (32 : Int) ≤ (c.toNat : Int)
  · have h126 : ¬ (c.toNat : Int) ≤ 126 := fun h => e5 ⟨h32, h⟩
    clear e5
    go_enter Tryd.func32, Tryd.ntmps32
    go_wp2_with fail
    go_region
    go_wp2_with fail
    go_ret
    exact ⟨rfl, (below_drewN ((Below.refl _ _).alloc (Nat.le_refl _) _) 1)⟩
  · clear e5
    go_enter Tryd.func32, Tryd.ntmps32
    go_wp2_with fail
    go_region
    go_wp2_with fail
    go_ret
    exact ⟨rfl, (below_drewN ((Below.refl _ _).alloc (Nat.le_refl _) _) 1)⟩
theorem written_any (c : UInt8) (w : World) : Calls Tryd.prog 32 #[.int .u8 (c.toNat : Int)] w fun e w' => e = .returned (.string ⟨(escB c).toArray⟩) ∧ Below w.heap.size w w' := by
  unfold escB
  by_cases c1 : c = 34
  · subst c1
    have hcv : Sem.run Tryd.prog (convert 59 9 (.slice (some ⟨w.heap.size, 0, none⟩) 2 2)) (w.alloc (.cells #[.int .u8 92, .int .u8 34] 5)) = .ok (.string ⟨#[92, 34]⟩) (w.alloc (.cells #[.int .u8 92, .int .u8 34] 5)) := str_of (w := (w.alloc (.cells #[.int .u8 92, .int .u8 34] 5))) [92, 34] (blk_alloc_new _ _) rfl
    go_enter Tryd.func32, Tryd.ntmps32
    go_wp2_with fail
    go_ret
    exact ⟨rfl, (Below.refl _ _).alloc (Nat.le_refl _) _⟩
  rw [if_neg c1]
  by_cases c2 : c = 92
  · subst c2
    have hcv : Sem.run Tryd.prog (convert 59 9 (.slice (some ⟨w.heap.size, 0, none⟩) 2 2)) (w.alloc (.cells #[.int .u8 92, .int .u8 92] 5)) = .ok (.string ⟨#[92, 92]⟩) (w.alloc (.cells #[.int .u8 92, .int .u8 92] 5)) := str_of (w := (w.alloc (.cells #[.int .u8 92, .int .u8 92] 5))) [92, 92] (blk_alloc_new _ _) rfl
    clear c1
    go_enter Tryd.func32, Tryd.ntmps32
    go_wp2_with fail
    go_ret
    exact ⟨rfl, (Below.refl _ _).alloc (Nat.le_refl _) _⟩
  rw [if_neg c2]
  by_cases c3 : c = 10
  · subst c3
    clear c1 c2
    go_enter Tryd.func32, Tryd.ntmps32
    go_wp2_with fail
    go_ret
    exact ⟨rfl, Below.refl _ _⟩
  rw [if_neg c3]
  by_cases c4 : c = 9
  · subst c4
    clear c1 c2 c3
    go_enter Tryd.func32, Tryd.ntmps32
    go_wp2_with fail
    go_ret
    exact ⟨rfl, Below.refl _ _⟩
  rw [if_neg c4]
  have e1 : ((c.toNat : Int) == 34) = false := u8_ne (n := 34) (by decide) c1
  have e2 : ((c.toNat : Int) == 92) = false := u8_ne (n := 92) (by decide) c2
  have e3 : ((c.toNat : Int) == 10) = false := u8_ne (n := 10) (by decide) c3
  have e4 : ((c.toNat : Int) == 9) = false := u8_ne (n := 9) (by decide) c4
  have q : (32 ≤ c ∧ c ≤ 126) ↔ (32 ≤ (c.toNat : Int) ∧ (c.toNat : Int) ≤ 126) := by
    rw [UInt8.le_iff_toNat_le, UInt8.le_iff_toNat_le]
    show (32 ≤ c.toNat ∧ c.toNat ≤ 126) ↔ _
    omega
  by_cases c5 : 32 ≤ c ∧ c ≤ 126
  · rw [if_pos c5]
    obtain ⟨g1, g2⟩ := q.1 c5
    have hcv : Sem.run Tryd.prog (convert 59 9 (.slice (some ⟨w.heap.size, 0, none⟩) 1 1)) (w.alloc (.cells #[.int .u8 (c.toNat : Int)] 5)) = .ok (.string ⟨#[c]⟩) (w.alloc (.cells #[.int .u8 (c.toNat : Int)] 5)) := str_of (w := (w.alloc (.cells #[.int .u8 (c.toNat : Int)] 5))) [c] (blk_alloc_new _ _) rfl
    clear c1 c2 c3 c4 c5 q
    go_enter Tryd.func32, Tryd.ntmps32
    go_wp2_with fail
    go_ret
    exact ⟨rfl, (Below.refl _ _).alloc (Nat.le_refl _) _⟩
  · rw [if_neg c5]
    exact written_hex c w e1 e2 e3 e4 (fun h => c5 (q.2 h))
end Go.Proofs.YtapecobalkjdhaaDoor
