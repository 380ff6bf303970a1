/-
  What the document's own arena tells, where it only reads. Condition: it lies in memory (Rf).
-/
import Derived.Test.YtjnlfnecmiklhaaRefMem
import Derived.Test.YtjnlfnecmiklhaaRefWords
import Derived.Deep.QuietTactic
import Derived.BigQuiet
namespace Go.Proofs.Ytjnlfnecmiklhaa
open Go.ChangeShapes Go.WideShapes Go.ChangeAt Go.RowKit Go.Deep
set_option linter.unusedVariables false
set_option maxHeartbeats 400000

theorem rbase_any {rb : Nat} {r : RS} {a : Option Addr} {cap : Nat} {V : Nat → Value} (B : Nat) (w : World) (h : Rf w rb r a cap V) (hB : B = r.n * r.which) (hn : r.n ≤ 32768) (hw : r.which ≤ 1) :
    Calls Try.prog 42 #[.pointer (some ⟨rb, 0, none⟩)] w fun e w' => e = .returned (.int .i64 B) ∧ ∃ m, w' = w.drewN m := by
  obtain ⟨c0, c1, c2, c3⟩ := h.cells
  have e0 : (r.n : Int) * (r.which : Int) = ((r.n * r.which : Nat) : Int) := by simp
  have e2 : B ≤ r.n := by
    have : r.which = 0 ∨ r.which = 1 := by omega
    rcases this with e | e <;> rw [hB, e] <;> omega
  have e1 : IntKind.i64.wrap ((r.n : Int) * (r.which : Int)) = (B : Int) := by rw [e0, ← hB]; exact wrapId _ (by omega) (by omega)
  clear e0 hB
  go_enter Try.func42, Try.ntmps42
  go_wp2
  go_quiet (fail)
  go_wp2
  go_ret
  exact ⟨rfl, _, rfl⟩
theorem rtop_any {rb : Nat} {r : RS} {a : Option Addr} {cap : Nat} {V : Nat → Value} (B : Nat) (w : World) (h : Rf w rb r a cap V) (hB : B = r.n * r.which) (hn : r.n ≤ 32768) (hw : r.which ≤ 1) (hB2 : B ≤ 32768) (hL : lenB r.L ≤ 100000) (hLl : r.L.length ≤ 100000) :
    Calls Try.prog 18 #[.pointer (some ⟨rb, 0, none⟩)] w fun e w' => e = .returned (.int .i64 (B + lenB r.L : Nat)) ∧ ∃ m, w' = w.drewN m := by
  go_enter Try.func18, Try.ntmps18
  go_wp2_with fail
  refine (rbase_any B _ h hB hn hw).mono ?_
  clear hB
  rintro e w' ⟨rfl, m, rfl⟩
  have h1 := h.drewN m
  obtain ⟨w1, hw1⟩ : ∃ w1, w1 = w.drewN m := ⟨_, rfl⟩
  rw [← hw1] at h1 ⊢
  have HW : Hid (w1 = w.drewN m) := hw1
  clear hw1
  obtain ⟨c0, c1, c2, c3⟩ := h1.cells
  go_wp2_with fail
  go_loop [3, 4] (fun t i => ∃ k : Nat, k ≤ r.L.length ∧ i = .int .i64 k ∧ t = .int .i64 ((B + lenB (r.L.take k) : Nat) : Int)) (fun _ i => r.L.length - (intOf i).toNat)
  case atStart => exact ⟨0, Nat.zero_le _, rfl, rfl⟩
  case round =>
    obtain ⟨k, hk, rfl, rfl⟩ := hrel
    by_cases hlt : k < r.L.length
    · obtain ⟨g, rfl, hg1, hg2, hg3, hg4⟩ := h1.row (by omega)
      obtain ⟨d0, d1, d2, d3⟩ := hg4 k r.L[k] (List.getElem?_eq_getElem hlt)
      have HS : Hid _ := lenB_succ r.L k r.L[k] (List.getElem?_eq_getElem hlt)
      have hle := lenB_take_all r.L (k + 1)
      rw [HS.out] at hle
      obtain ⟨a', cap', hv, hv2, hv3⟩ := d3
      rw [hv] at d2
      clear hg4 hv hv2 hv3
      go_wp2
      go_round
      case rel => exact ⟨k + 1, by omega, by go_num, by rw [HS.out]; go_num⟩
      case measure => simp [intOf]; omega
    · go_wp2
      go_ret
      exact ⟨ret_int (by rw [List.take_of_length_le (by omega)]), m, HW.out⟩
end Go.Proofs.Ytjnlfnecmiklhaa
