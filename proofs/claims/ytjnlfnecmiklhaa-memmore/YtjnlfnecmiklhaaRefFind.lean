/-
  Which block of the document's own arena a word leads to. Condition: it lies in memory (Rf), its addresses are those of cells.
-/
import Derived.Test.YtjnlfnecmiklhaaRefReads
namespace Go.Proofs.Ytjnlfnecmiklhaa
open Go.ChangeShapes Go.WideShapes Go.ChangeAt Go.RowKit Go.Deep
set_option linter.unusedVariables false
set_option maxHeartbeats 1000000

theorem isInt_addr {x : Int} (h : isIntW x = true) : addrW x = 0 := by
  unfold isIntW at h
  unfold addrW
  rw [if_pos (Or.inl (by simpa using h))]
theorem rfind_zero {rb : Nat} {r : RS} {a : Option Addr} {cap : Nat} {V : Nat → Value} (x : Int) (w : World) (h : Rf w rb r a cap V) (h0 : 0 ≤ x) (h1 : x ≤ 18446744073709551615) (g : addrW x = 0) :
    Calls Try.prog 62 #[.pointer (some ⟨rb, 0, none⟩), .int .u64 x] w fun e w' => e = .returned (.tuple #[.int .i64 (-1), .int .i64 0]) ∧ w' = w := by
  have G : (addrW x == 0) = true := by rw [beq_iff_eq]; exact g
  clear g
  cases g1 : isIntW x
  all_goals
    go_enter Try.func62, Try.ntmps62
    go_wp2_with (first | (go_at_call 81; refine (risInt_any _ _ (by omega) (by omega)).mono ?_; rintro e w' ⟨rfl, rfl⟩) | (go_at_call 82; refine (raddr_any _ _ (by omega) (by omega)).mono ?_; rintro e w' ⟨rfl, rfl⟩))
    all_goals go_ret2
    all_goals exact ⟨rfl, rfl⟩
theorem rfind_blk {rb : Nat} {r : RS} {a : Option Addr} {cap : Nat} {V : Nat → Value} (x : Int) (k : Nat) (b : Blk) (w : World) (h : Rf w rb r a cap V) (hLl : r.L.length ≤ 100000) (h0 : 0 ≤ x) (h1 : x ≤ 18446744073709551615) (g : addrW x ≠ 0)
    (hk : r.L[k]? = some b) (hb : (b.ad : Int) = addrW x) (hn : ∀ i c, i < k → r.L[i]? = some c → (c.ad : Int) ≠ addrW x) :
    Calls Try.prog 62 #[.pointer (some ⟨rb, 0, none⟩), .int .u64 x] w fun e w' => e = .returned (.tuple #[.int .i64 k, .int .i64 0]) ∧ w' = w := by
  have G : (addrW x == 0) = false := beq_eq_false_iff_ne.2 g
  have g1 : isIntW x = false := by
    cases c : isIntW x
    · rfl
    · exact absurd (isInt_addr c) g
  have hl := (List.getElem?_eq_some_iff.1 hk).1
  obtain ⟨ga, rfl, hg1, hg2, hg3, hg4⟩ := h.row (by omega)
  obtain ⟨c0, c1, c2, c3⟩ := h.cells
  have HN : Hid _ := hn
  have HK : Hid _ := hk
  have HG : Hid _ := hg4
  have HB : Hid _ := hb
  clear g hn hk hg4 hb
  go_enter Try.func62, Try.ntmps62
  go_wp2_with (first | (go_at_call 81; refine (risInt_any _ _ (by omega) (by omega)).mono ?_; rintro e w' ⟨rfl, rfl⟩) | (go_at_call 82; refine (raddr_any _ _ (by omega) (by omega)).mono ?_; rintro e w' ⟨rfl, rfl⟩))
  go_loop [7] (fun i => ∃ j : Nat, j ≤ k ∧ i = .int .i64 j) (fun i => k - (intOf i).toNat)
  case atStart => exact ⟨0, Nat.zero_le _, rfl⟩
  case round =>
    obtain ⟨j, hj, rfl⟩ := hrel
    by_cases e : j < k
    · have hjl : j < r.L.length := by omega
      obtain ⟨d0, d1, d2, d3⟩ := HG.out j r.L[j] (List.getElem?_eq_getElem hjl)
      have ne : ((r.L[j].ad : Int) == addrW x) = false := beq_eq_false_iff_ne.2 (HN.out j r.L[j] e (List.getElem?_eq_getElem hjl))
      clear d3
      go_wp2
      go_round
      case rel => exact ⟨j + 1, by omega, by go_num⟩
      case measure => simp [intOf]; omega
    · have : j = k := by omega
      subst this
      obtain ⟨d0, d1, d2, d3⟩ := HG.out j b HK.out
      have ne : ((b.ad : Int) == addrW x) = true := by rw [beq_iff_eq]; exact HB.out
      clear d3
      go_wp2
      go_ret2
      exact ⟨rfl, rfl⟩
end Go.Proofs.Ytjnlfnecmiklhaa
