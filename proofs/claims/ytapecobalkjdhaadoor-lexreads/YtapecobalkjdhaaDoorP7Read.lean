/-
  Layer 7, the program's reader: names, comments. Condition: the reader lies in memory.
-/
import Derived.Test.YtapecobalkjdhaaDoorP7Mem
namespace Go.Proofs.YtapecobalkjdhaaDoor
open Go.ChangeShapes Go.WideShapes Go.ChangeAt Go.RowKit Go.Deep
set_option linter.unusedVariables false
set_option maxHeartbeats 1000000

theorem ext_suf {s : ByteArray} {i k : Nat} (hik : i ≤ k) (hk : k ≤ s.size) : s.extract i k = ⟨((suf s i).take (k - i)).toArray⟩ := by
  apply ByteArray.ext
  apply Array.toList_inj.1
  rw [ByteArray.data_extract]
  unfold suf
  simp
theorem suf_end {s : ByteArray} {k : Nat} (h : ¬ k < s.size) : suf s k = [] := List.length_eq_zero_iff.1 (by rw [suf_len]; omega)
theorem take_next {s : ByteArray} {i k : Nat} (hik : i ≤ k) (hk : k < s.size) : (suf s i).take (k + 1 - i) = (suf s i).take (k - i) ++ [s[k]] := by
  rw [show k + 1 - i = (k - i) + 1 by omega, List.take_add_one]
  congr 1
  unfold suf
  rw [List.getElem?_drop, show i + (k - i) = k by omega, List.getElem?_eq_getElem (by rw [Array.length_toList]; exact hk)]
  rfl
/-- How far names' bytes go. -/
theorem name_any {w : World} {b : Nat} {s : ByteArray} {i : Nat} (h : RD w b s i i) (hi : i ≤ s.size) (hs : s.size ≤ 1000000) : Calls Tryd.prog 38 #[.pointer (some ⟨b, 0, none⟩)] w fun r w' => r = .returned (.string ⟨((suf s i).takeWhile nameB).toArray⟩) ∧ RD w' b s (s.size - ((suf s i).dropWhile nameB).length) i ∧ OnlyB b w w' := by
  obtain ⟨T, hT⟩ : ∃ T, (suf s i).takeWhile nameB = T := ⟨_, rfl⟩
  obtain ⟨D, hD⟩ : ∃ D, (suf s i).dropWhile nameB = D := ⟨_, rfl⟩
  rw [hT, hD]
  have HT := hidden hT
  have HD := hidden hD
  have H := hidden h
  clear hT hD h
  go_enter Tryd.func38, Tryd.ntmps38
  go_wp2_with fail
  go_loopg [] (s.size + 1 - i) (fun gk wr => ∃ k : Nat, i ≤ k ∧ k ≤ s.size ∧ gk = s.size + 1 - k ∧ (suf s i).take (k - i) ++ (suf s k).takeWhile nameB = T ∧ (suf s k).dropWhile nameB = D ∧ RD wr b s k i ∧ OnlyB b w wr)
  case atStart => exact ⟨i, Nat.le_refl _, hi, rfl, by rw [Nat.sub_self]; exact HT.out, HD.out, H.out, Only.refl _ _⟩
  case round =>
    clear HT HD H
    obtain ⟨k, k1, k2, k3, k4, k5, k6, k7⟩ := hrel
    obtain ⟨c0, c1, c2, hf⟩ := k6.cells
    have HT := hidden k4
    have HD := hidden k5
    have HR := hidden k6
    have HO := hidden k7
    have HG := hidden k3
    clear k3 k4 k5 k6 k7
    by_cases hlt : k < s.size
    · have z1 : decide ((k : Int) < (s.size : Int)) = true := by simp; omega
      have zz : (k : Int) < (s.size : Int) := by omega
      have e0 := suf_cons s hlt
      cases hn : nameB s[k] with
      | true =>
        have HN := hidden hn
        have HT2 : Hid ((suf s i).take (k + 1 - i) ++ (suf s (k + 1)).takeWhile nameB = T) := by
          show _ = _
          rw [← HT.out, e0, List.takeWhile_cons, hn, take_next k1 hlt]
          simp
        have HD2 : Hid ((suf s (k + 1)).dropWhile nameB = D) := by
          show _ = _
          rw [← HD.out, e0, List.dropWhile_cons, hn]
          simp
        clear hn e0 HT HD
        go_wp2_with fail
        go_quiet ((go_at_call 54; exact Calls.quiet_of_same (isOfName_any _ _ HN.out)))
        go_wp2_with fail
        go_roundg (s.size + 1 - (k + 1))
        case rel => exact ⟨k + 1, by omega, by omega, rfl, HT2.out, HD2.out, (HR.out.drewN _).to1 (by omega), (HO.out.drewN _).setCell (a := ⟨b, 1, none⟩) (Or.inr rfl) _⟩
        case measure => rw [HG.out]; omega
      | false =>
        have HN := hidden hn
        have HT2 : Hid ((suf s i).take (k - i) = T) := by
          show _ = _
          rw [← HT.out, e0, List.takeWhile_cons, hn]
          simp
        have HD2 : Hid (suf s k = D) := by
          show _ = _
          rw [← HD.out, e0, List.dropWhile_cons, hn]
          simp
        have hsl : ∀ w', Sem.run Tryd.prog (Instr.slice 9 (.string s) (some (.int .i64 (i : Int))) (some (.int .i64 (k : Int))) none) w' = .ok (.string ⟨T.toArray⟩) w' := fun w' => by
          rw [run_slice_string w' 9 s .i64 .i64 (i : Int) (k : Int) Tryd.underlying9 (by omega) (by omega) (by omega), ← HT2.out, ← ext_suf k1 k2]
          rfl
        clear hn e0 HT HD
        go_wp2_with fail
        go_quiet ((go_at_call 54; exact Calls.quiet_of_same (isOfName_any _ _ HN.out)))
        go_wp2_with fail
        go_quiet (fail)
        go_wp2_with fail
        go_ret
        refine ⟨rfl, ?_, (HO.out.drewN _).drewN _⟩
        rw [← HD2.out, suf_len, show s.size - (s.size - k) = k by omega]
        exact (HR.out.drewN _).drewN _
    · have z1 : decide ((k : Int) < (s.size : Int)) = false := by simp; omega
      have zz : ¬ (k : Int) < (s.size : Int) := by omega
      have e0 := suf_end hlt
      have HT2 : Hid ((suf s i).take (k - i) = T) := by
        show _ = _
        rw [← HT.out, e0]
        simp
      have HD2 : Hid (suf s k = D) := by
        show _ = _
        rw [← HD.out, e0]
        simp
      have hsl : ∀ w', Sem.run Tryd.prog (Instr.slice 9 (.string s) (some (.int .i64 (i : Int))) (some (.int .i64 (k : Int))) none) w' = .ok (.string ⟨T.toArray⟩) w' := fun w' => by
        rw [run_slice_string w' 9 s .i64 .i64 (i : Int) (k : Int) Tryd.underlying9 (by omega) (by omega) (by omega), ← HT2.out, ← ext_suf k1 k2]
        rfl
      clear e0 HT HD
      go_wp2_with fail
      go_quiet (fail)
      go_wp2_with fail
      go_quiet (fail)
      go_wp2_with fail
      go_ret
      refine ⟨rfl, ?_, (HO.out.drewN _).drewN _⟩
      rw [← HD2.out, suf_len, show s.size - (s.size - k) = k by omega]
      exact (HR.out.drewN _).drewN _
end Go.Proofs.YtapecobalkjdhaaDoor
