/-
  Layer 7, the program's reader: numbers, and which kind a name is. Condition: the reader lies in memory.
-/
import Derived.Test.YtapecobalkjdhaaDoorP7Read
import Derived.Test.YtapecobalkjdhaaDoorP7Words
import Derived.Test.YtapecobalkjdhaaDoorParses
namespace Go.Proofs.YtapecobalkjdhaaDoor
open Go.ChangeShapes Go.WideShapes Go.ChangeAt Go.RowKit Go.Deep
set_option linter.unusedVariables false
set_option maxHeartbeats 1000000

theorem parV_rng (s : ByteArray) : 0 ≤ parV s ∧ parV s ≤ 18446744073709551615 := by
  unfold parV parVAt
  split <;> split <;> first | exact ⟨intW_lo _, intW_hi _⟩ | decide
theorem parE_cases (s : ByteArray) : parE s = 0 ∨ parE s = 2 ∨ parE s = 5 := by
  unfold parE parEAt
  split <;> split <;> (try split) <;> simp
/-- What is so behind a number. -/
def NumAs (l : List UInt8) (j : Nat) (b : Nat) (s : ByteArray) (i : Nat) (w : World) (e : Ending) (w' : World) : Prop :=
  (parE ⟨l.toArray⟩ = 0 → e = .returned (.int .i64 (numW (parV ⟨l.toArray⟩))) ∧ RD w' b s j i ∧ OnlyB b w w') ∧
  (parE ⟨l.toArray⟩ = 2 → e = .panicked [faultP 2 i] ∧ OnlyB b w w') ∧
  (parE ⟨l.toArray⟩ = 5 → e = .panicked [faultP 20 i] ∧ OnlyB b w w')
theorem number_as {w : World} {b : Nat} {s : ByteArray} {i : Nat} (h : RD w b s i i) (hi : i ≤ s.size) (hs : s.size ≤ 1000000) : Calls Tryd.prog 41 #[.pointer (some ⟨b, 0, none⟩)] w fun e w' => NumAs ((suf s i).takeWhile nameB) (s.size - ((suf s i).dropWhile nameB).length) b s i w e w' := by
  have H := hidden h
  have HN := hidden (name_any h hi hs)
  obtain ⟨l, hl⟩ : ∃ l, (suf s i).takeWhile nameB = l := ⟨_, rfl⟩
  have hlen : l.length ≤ s.size := by
    rw [← hl]
    have := (List.takeWhile_prefix nameB (l := suf s i)).length_le
    rw [suf_len] at this
    omega
  rw [hl] at HN ⊢
  generalize s.size - ((suf s i).dropWhile nameB).length = j at *
  clear hl h
  have HP := hidden (fun w => parse_any ⟨l.toArray⟩ w (by show l.length ≤ _; unfold maxLen; omega))
  obtain ⟨p1, p2⟩ := parV_rng ⟨l.toArray⟩
  have hc := parE_cases ⟨l.toArray⟩
  obtain ⟨q, hq⟩ : ∃ q, parE ⟨l.toArray⟩ = q := ⟨_, rfl⟩
  unfold NumAs
  rw [hq] at HP hc ⊢
  generalize parV ⟨l.toArray⟩ = v at *
  clear hq
  rcases hc with rfl | rfl | rfl
  · go_enter Tryd.func41, Tryd.ntmps41
    go_wp2_with (first
      | (go_at_call 38; refine HN.out.mono ?_; rintro e w5 ⟨rfl, hr, ho⟩; have R5 := hidden hr; have O5 := hidden ho; clear hr ho)
      | (go_at_call 55; refine (HP.out _).mono ?_; rintro e w6 ⟨rfl, hw'⟩; rw [hw']; clear hw' w6)
      | (go_at_call 57; refine (num_any v _ p1 p2).mono ?_; rintro e w6 ⟨rfl, hw'⟩; rw [hw']; clear hw' w6))
    go_ret
    exact ⟨fun _ => ⟨rfl, R5.out, O5.out⟩, fun c => absurd c (by decide), fun c => absurd c (by decide)⟩
  · go_enter Tryd.func41, Tryd.ntmps41
    go_wp2_with (first
      | (go_at_call 56; refine (giveUp_any 2 R5.out).mono ?_; rintro e w6 ⟨rfl, hw'⟩; rw [hw']; clear hw' w6)
      | (go_at_call 38; refine HN.out.mono ?_; rintro e w5 ⟨rfl, hr, ho⟩; have R5 := hidden hr; have O5 := hidden ho; clear hr ho)
      | (go_at_call 55; refine (HP.out _).mono ?_; rintro e w6 ⟨rfl, hw'⟩; rw [hw']; clear hw' w6))
    exact And.intro rfl ⟨fun c => absurd c (by decide), fun _ => ⟨rfl, O5.out⟩, fun c => absurd c (by decide)⟩
  · go_enter Tryd.func41, Tryd.ntmps41
    go_wp2_with (first
      | (go_at_call 56; refine (giveUp_any 20 R5.out).mono ?_; rintro e w6 ⟨rfl, hw'⟩; rw [hw']; clear hw' w6)
      | (go_at_call 38; refine HN.out.mono ?_; rintro e w5 ⟨rfl, hr, ho⟩; have R5 := hidden hr; have O5 := hidden ho; clear hr ho)
      | (go_at_call 55; refine (HP.out _).mono ?_; rintro e w6 ⟨rfl, hw'⟩; rw [hw']; clear hw' w6))
    exact And.intro rfl ⟨fun c => absurd c (by decide), fun c => absurd c (by decide), fun _ => ⟨rfl, O5.out⟩⟩
/-- Which kind a name is. -/
def kindL (l : List UInt8) : Int := if greatB (l.headD 0) then 4 else if docW.word l || l == [95] then 5 else 3
theorem kindOf_any (l : List UInt8) (w : World) (hl : l ≠ []) (hz : l.length ≤ 1000000) : Calls Tryd.prog 39 #[.string ⟨l.toArray⟩] w fun e w' => e = .returned (.int .i64 (kindL l)) ∧ w' = w := by
  obtain ⟨c, t, rfl⟩ : ∃ c t, l = c :: t := by
    cases l with
    | nil => exact absurd rfl hl
    | cons c t => exact ⟨c, t, rfl⟩
  unfold kindL
  have hsz : (⟨(c :: t).toArray⟩ : ByteArray).size = t.length + 1 := rfl
  have hg : (⟨(c :: t).toArray⟩ : ByteArray)[0] = c := rfl
  have hd : (c :: t).headD 0 = c := rfl
  rw [hd]
  obtain ⟨s, hs⟩ : ∃ s : ByteArray, s = ⟨(c :: t).toArray⟩ := ⟨_, rfl⟩
  have hdata : s.data.toList = c :: t := by rw [hs]
  have h0 : 0 < s.size := by rw [hs]; exact Nat.succ_pos _
  have hidx : s[0] = c := by subst hs; rfl
  rw [← hs]
  have e95 : ((c :: t) == [95]) = (s.toList == [95]) := by rw [Go.ByteArray.toList_eq, hdata]
  rw [e95]
  have hw : docW.word (c :: t) = wordsL.contains s.data.toList := by rw [hdata]; rfl
  rw [hw]
  clear e95 hw hdata hd hg hsz hl hz
  have z0 : (0 : Int) < (s.size : Int) := by omega
  cases g : greatB c with
  | true =>
    have HG : Hid (greatB s[0] = true) := by show _ = _; rw [hidx]; exact g
    clear hs hidx
    go_enter Tryd.func39, Tryd.ntmps39
    go_wp2_with (go_at_call 37; refine (isGreat_any _ _ HG.out).mono ?_; rintro e w6 ⟨rfl, hw'⟩; rw [hw']; clear hw' w6)
    go_ret
    exact ⟨rfl, rfl⟩
  | false =>
    have HG : Hid (greatB s[0] = false) := by show _ = _; rw [hidx]; exact g
    clear hs hidx
    cases hv : wordsL.contains s.data.toList with
    | true =>
      have HV := hidden hv
      clear hv
      go_enter Tryd.func39, Tryd.ntmps39
      go_wp2_with (first
        | (go_at_call 37; refine (isGreat_any _ _ HG.out).mono ?_; rintro e w6 ⟨rfl, hw'⟩; rw [hw']; clear hw' w6)
        | (go_at_call 13; refine (isWordP_any _ _ HV.out).mono ?_; rintro e w6 ⟨rfl, hw'⟩; rw [hw']; clear hw' w6))
      go_ret
      exact ⟨rfl, rfl⟩
    | false =>
      have HV := hidden hv
      clear hv
      cases h9 : (s.toList == [95]) with
      | true =>
        go_enter Tryd.func39, Tryd.ntmps39
        go_wp2_with (first
          | (go_at_call 37; refine (isGreat_any _ _ HG.out).mono ?_; rintro e w6 ⟨rfl, hw'⟩; rw [hw']; clear hw' w6)
          | (go_at_call 13; refine (isWordP_any _ _ HV.out).mono ?_; rintro e w6 ⟨rfl, hw'⟩; rw [hw']; clear hw' w6))
        go_ret
        exact ⟨rfl, rfl⟩
      | false =>
        go_enter Tryd.func39, Tryd.ntmps39
        go_wp2_with (first
          | (go_at_call 37; refine (isGreat_any _ _ HG.out).mono ?_; rintro e w6 ⟨rfl, hw'⟩; rw [hw']; clear hw' w6)
          | (go_at_call 13; refine (isWordP_any _ _ HV.out).mono ?_; rintro e w6 ⟨rfl, hw'⟩; rw [hw']; clear hw' w6))
        go_ret
        exact ⟨rfl, rfl⟩
end Go.Proofs.YtapecobalkjdhaaDoor
