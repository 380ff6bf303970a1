/-
  Layer 7, the program's reader: blanks and comments are passed over. Condition: the reader lies in memory.
-/
import Derived.Test.YtapecobalkjdhaaDoorP7Pass
namespace Go.Proofs.YtapecobalkjdhaaDoor
open Go.ChangeShapes Go.WideShapes Go.ChangeAt Go.RowKit Go.Deep
set_option linter.unusedVariables false
set_option maxHeartbeats 1000000

/-- What is so behind blanks and comments. -/
def PassAs (b : Nat) (s : ByteArray) (i : Nat) (w : World) (e : Ending) (w' : World) : Prop :=
  (∃ j f', e = .returned (.tuple #[]) ∧ i ≤ j ∧ j ≤ s.size ∧ lexC docW (suf s i) = lexC docW (suf s j) ∧ (∀ hj : j < s.size, blankB s[j] = false ∧ atB s j begC = false) ∧ RD w' b s j f' ∧ OnlyB b w w') ∨
  (∃ k, k ≤ s.size ∧ e = .panicked [faultP 20 (k : Nat)] ∧ lexC docW (suf s i) = .error (20, s.size - k) ∧ OnlyB b w w')
theorem at_opens {s : ByteArray} {k : Nat} (hk : k ≤ s.size) (h : atB s k begC = false) : opensC (suf s k) = false := by
  cases c : opensC (suf s k) with
  | false => rfl
  | true =>
    obtain ⟨x, hx⟩ := opens_is c
    unfold atB at h
    rw [hx] at h
    cases h
set_option maxRecDepth 20000 in
theorem pass_any {w : World} {b : Nat} {s : ByteArray} {i f : Nat} (h : RD w b s i f) (hi : i ≤ s.size) (hs : s.size ≤ 1000000) : Calls Tryd.prog 21 #[.pointer (some ⟨b, 0, none⟩)] w fun e w' => PassAs b s i w e w' := by
  have H := hidden h
  clear h
  go_enter Tryd.func21, Tryd.ntmps21
  go_wp2_with fail
  go_loopg [] (s.size + 1 - i) (fun gk wr => ∃ k f' : Nat, i ≤ k ∧ k ≤ s.size ∧ gk = s.size + 1 - k ∧ lexC docW (suf s i) = lexC docW (suf s k) ∧ RD wr b s k f' ∧ OnlyB b w wr)
  case atStart => exact ⟨i, f, Nat.le_refl _, hi, rfl, rfl, H.out, Only.refl _ _⟩
  case round =>
    clear H
    obtain ⟨k, f', k1, k2, k3, k4, k5, k6⟩ := hrel
    obtain ⟨c0, c1, c2, hf⟩ := k5.cells
    have HL := hidden k4
    have HR := hidden k5
    have HO := hidden k6
    have HG := hidden k3
    clear k3 k4 k5 k6
    by_cases hlt : k < s.size
    · have zz : (k : Int) < (s.size : Int) := by omega
      have e0 := hidden (suf_cons s hlt)
      cases hb : blankB s[k] with
      | true =>
        have HB := hidden hb
        have HL2 : Hid (lexC docW (suf s i) = lexC docW (suf s (k + 1))) := by
          show _ = _
          rw [HL.out, e0.out]
          exact lexC_blank docSigns hb
        clear hb HL
        go_wp2_with fail
        go_quiet (fail)
        have HR1 := hidden (HR.out.drewN nq)
        have HO1 := hidden (HO.out.drewN nq)
        obtain ⟨d0, d1, d2, df⟩ := HR1.out.cells
        clear c0 c1 c2 hf HR HO
        generalize wr.drewN nq = w1 at *
        go_wp2_with fail
        go_quiet ((go_at_call 33; exact Calls.quiet_of_same (isBlank_any _ _ HB.out)))
        go_wp2_with fail
        go_roundg (s.size + 1 - (k + 1))
        case rel => exact ⟨k + 1, f', by omega, by omega, rfl, HL2.out, (HR1.out.drewN _).to1 (by omega), (HO1.out.drewN _).setCell (a := ⟨b, 1, none⟩) (Or.inr rfl) _⟩
        case measure => rw [HG.out]; omega
      | false =>
        have HB := hidden hb
        cases ho : atB s k begC with
        | true =>
          obtain ⟨q1, q2⟩ := at_two k2 ho
          have HA := hidden ho
          have HA2 : Hid (atB s k ⟨#[40, 42]⟩ = true) := ho
          cases hk : skipC 0 (suf s (k + 2)) with
          | some r =>
            obtain ⟨r1, r2, r3⟩ := skip_suf hk q1
            have HK := hidden hk
            have HL2 : Hid (lexC docW (suf s i) = lexC docW (suf s (s.size - r.length))) := by
              show _ = _
              rw [HL.out, q2, lexC_comment docSigns, hk, ← r1]
            clear hb HL ho q2 hk r1
            go_wp2_with fail
            go_quiet (fail)
            have HR1 := hidden (HR.out.drewN nq)
            have HO1 := hidden (HO.out.drewN nq)
            obtain ⟨d0, d1, d2, df⟩ := HR1.out.cells
            clear c0 c1 c2 hf HR HO
            generalize wr.drewN nq = w1 at *
            go_wp2_with fail
            go_quiet ((go_at_call 33; exact Calls.quiet_of_same (isBlank_any _ _ HB.out)))
            go_wp2_with (first
              | (go_at_call 34; refine (ahead_rd _ (HR1.out.drewN _) k2 hs HA2.out).mono ?_; rintro e w6 ⟨rfl, hr, ho⟩; have R6 := hidden hr; have O6 := hidden ((HO1.out.drewN _).trans ho); clear hr ho)
              | (go_at_call 35; refine (comment_yes R6.out k2 hs HA.out HK.out).mono ?_; rintro e w7 ⟨rfl, hr, ho⟩; have R7 := hidden hr; have O7 := hidden (O6.out.trans ho); clear hr ho))
            go_roundg (s.size + 1 - (s.size - r.length))
            case rel => exact ⟨s.size - r.length, k, by omega, by omega, rfl, HL2.out, R7.out, O7.out⟩
            case measure => rw [HG.out]; omega
          | none =>
            have HK := hidden hk
            have HL2 : Hid (lexC docW (suf s i) = .error (20, s.size - k)) := by
              show _ = _
              rw [HL.out, q2, lexC_comment docSigns, hk, suf_len]
              simp only
              rw [show s.size - (k + 2) + 2 = s.size - k by omega]
            clear hb HL ho q2 hk
            go_wp2_with fail
            go_quiet (fail)
            have HR1 := hidden (HR.out.drewN nq)
            have HO1 := hidden (HO.out.drewN nq)
            obtain ⟨d0, d1, d2, df⟩ := HR1.out.cells
            clear c0 c1 c2 hf HR HO
            generalize wr.drewN nq = w1 at *
            go_wp2_with fail
            go_quiet ((go_at_call 33; exact Calls.quiet_of_same (isBlank_any _ _ HB.out)))
            go_wp2_with (first
              | (go_at_call 34; refine (ahead_rd _ (HR1.out.drewN _) k2 hs HA2.out).mono ?_; rintro e w6 ⟨rfl, hr, ho⟩; have R6 := hidden hr; have O6 := hidden ((HO1.out.drewN _).trans ho); clear hr ho)
              | (go_at_call 35; refine (comment_no R6.out k2 hs HA.out HK.out).mono ?_; rintro e w7 ⟨rfl, ho⟩; have O7 := hidden (O6.out.trans ho); clear ho))
            refine And.intro rfl ?_
            exact Or.inr ⟨k, k2, rfl, HL2.out, O7.out⟩
        | false =>
          have HA := hidden ho
          have HA2 : Hid (atB s k ⟨#[40, 42]⟩ = false) := ho
          clear hb ho
          go_wp2_with fail
          go_quiet (fail)
          have HR1 := hidden (HR.out.drewN nq)
          have HO1 := hidden (HO.out.drewN nq)
          obtain ⟨d0, d1, d2, df⟩ := HR1.out.cells
          clear c0 c1 c2 hf HR HO
          generalize wr.drewN nq = w1 at *
          go_wp2_with fail
          go_quiet ((go_at_call 33; exact Calls.quiet_of_same (isBlank_any _ _ HB.out)))
          go_wp2_with (go_at_call 34; refine (ahead_rd _ (HR1.out.drewN _) k2 hs HA2.out).mono ?_; rintro e w6 ⟨rfl, hr, ho⟩; have R6 := hidden hr; have O6 := hidden ((HO1.out.drewN _).trans ho); clear hr ho)
          all_goals first | go_end0 | refine bodyPost_ret (results_none rfl _ _ _) rfl ?_
          exact Or.inl ⟨k, f', rfl, k1, k2, HL.out, fun hj => ⟨HB.out, HA.out⟩, R6.out, O6.out⟩
    · have zz : ¬ (k : Int) < (s.size : Int) := by omega
      go_wp2_with fail
      go_quiet (fail)
      go_wp2_with fail
      all_goals first | go_end0 | refine bodyPost_ret (results_none rfl _ _ _) rfl ?_
      exact Or.inl ⟨k, f', rfl, k1, k2, HL.out, fun hj => absurd hj hlt, HR.out.drewN _, HO.out.drewN _⟩
end Go.Proofs.YtapecobalkjdhaaDoor
