/-
  Layer 7, the document's own lex: comments. Condition: the place is within the source.
-/
import Derived.Test.YtapecobalkjdhaaDoorR7Base
namespace Go.Proofs.YtapecobalkjdhaaDoor
open Go.ChangeShapes Go.WideShapes Go.ChangeAt Go.RowKit Go.Deep
set_option linter.unusedVariables false
set_option maxHeartbeats 1000000

theorem skipC_nest : ∀ (l : List UInt8) (d e : Nat), skipC (d + e + 1) l = (skipC e l).bind (skipC d)
  | [], d, e => by simp [skipC]
  | [c], d, e => by simp [skipC]
  | a :: b :: l, d, e => by
    unfold skipC
    by_cases c1 : a = 42 ∧ b = 41
    · rw [if_pos c1, if_pos c1]
      cases e with
      | zero => rfl
      | succ e => exact skipC_nest l d e
    · rw [if_neg c1, if_neg c1]
      by_cases c2 : a = 40 ∧ b = 42
      · rw [if_pos c2, if_pos c2]; exact skipC_nest l d (e + 1)
      · rw [if_neg c2, if_neg c2]; exact skipC_nest (b :: l) d e
theorem suf_two (s : ByteArray) {i : Nat} (h : i + 1 < s.size) : suf s i = s[i] :: s[i + 1] :: suf s (i + 2) := by rw [suf_cons s (show i < s.size by omega), suf_cons s (show i + 1 < s.size by omega)]
def endC : ByteArray := ⟨#[42, 41]⟩
def begC : ByteArray := ⟨#[40, 42]⟩
/-- What a step does to what stands behind a comment. -/
theorem skip_close {s : ByteArray} {i : Nat} (h : atB s i endC = true) : i + 2 ≤ s.size ∧ skipC 0 (suf s i) = some (suf s (i + 2)) := by
  have hp := List.isPrefixOf_iff_prefix.1 h
  have hl := hp.length_le
  rw [suf_len] at hl
  have h2 : (2 : Nat) ≤ s.size - i := hl
  refine ⟨by omega, ?_⟩
  obtain ⟨t, ht⟩ := hp
  rw [suf_two s (by omega)] at ht ⊢
  have ht' : 42 :: 41 :: t = s[i] :: s[i + 1] :: suf s (i + 2) := ht
  simp only [List.cons.injEq] at ht'
  unfold skipC
  rw [if_pos ⟨ht'.1.symm, ht'.2.1.symm⟩]
theorem skip_open {s : ByteArray} {i : Nat} (h : atB s i begC = true) : i + 2 ≤ s.size ∧ skipC 0 (suf s i) = (skipC 0 (suf s (i + 2))).bind (skipC 0) := by
  have hp := List.isPrefixOf_iff_prefix.1 h
  have hl := hp.length_le
  rw [suf_len] at hl
  have h2 : (2 : Nat) ≤ s.size - i := hl
  refine ⟨by omega, ?_⟩
  obtain ⟨t, ht⟩ := hp
  rw [suf_two s (by omega)] at ht ⊢
  have ht' : 40 :: 42 :: t = s[i] :: s[i + 1] :: suf s (i + 2) := ht
  simp only [List.cons.injEq] at ht'
  rw [skipC, if_neg (by rw [← ht'.1]; exact fun c => absurd c.1 (by decide)), if_pos ⟨ht'.1.symm, ht'.2.1.symm⟩]
  exact skipC_nest _ 0 0
theorem skip_one {s : ByteArray} {i : Nat} (hi : i < s.size) (h1 : atB s i endC = false) (h2 : atB s i begC = false) : skipC 0 (suf s i) = skipC 0 (suf s (i + 1)) := by
  by_cases hl : i + 1 < s.size
  · have e := suf_two s hl
    have e1 := suf_cons s hl
    unfold atB endC at h1
    unfold atB begC at h2
    rw [e] at h1 h2 ⊢
    have g1 : ¬ (s[i] = 42 ∧ s[i + 1] = 41) := fun c => by rw [c.1, c.2] at h1; simp [List.isPrefixOf] at h1
    have g2 : ¬ (s[i] = 40 ∧ s[i + 1] = 42) := fun c => by rw [c.1, c.2] at h2; simp [List.isPrefixOf] at h2
    rw [skipC, if_neg g1, if_neg g2, e1]
  · have e0 : suf s (i + 1) = [] := List.length_eq_zero_iff.1 (by rw [suf_len]; omega)
    rw [suf_cons s hi, e0]
    rfl
/-- What comment tells. -/
def commentR (s : ByteArray) (o : Option (List UInt8)) : Int × Bool := match o with | some r => ((s.size : Int) - r.length, true) | none => (0, false)
theorem skip_suf {s : ByteArray} {i : Nat} {r : List UInt8} (h : skipC 0 (suf s i) = some r) (hi : i ≤ s.size) : r = suf s (s.size - r.length) ∧ i < s.size - r.length ∧ r.length ≤ s.size := by
  obtain ⟨t, ht⟩ := skipC_suf _ _ h
  have hl := skipC_len _ _ h
  rw [suf_len] at hl
  have e : suf s i = s.data.toList.drop i := rfl
  refine ⟨?_, by omega, by omega⟩
  have h1 : t.length + r.length = s.size - i := by rw [← suf_len, ← ht, List.length_append]
  have : suf s (s.size - r.length) = (suf s i).drop (s.size - r.length - i) := by
    unfold suf
    rw [List.drop_drop]
    congr 1
    omega
  rw [this, ← ht, show s.size - r.length - i = t.length from by omega, List.drop_left]
set_option maxRecDepth 20000 in
theorem comment_any (s : ByteArray) (hs : s.size ≤ 1000000) : ∀ (n i : Nat) (w : World), s.size - i ≤ n → i + 2 ≤ s.size → Calls Tryd.prog 17 #[.string s, .int .i64 (i : Int)] w fun e w' => e = .returned (.tuple #[.int .i64 (commentR s (skipC 0 (suf s (i + 2)))).1, .bool (commentR s (skipC 0 (suf s (i + 2)))).2]) ∧ w' = w := by
  intro n
  induction n with
  | zero => intro i w h1 h2; omega
  | succ n ih =>
    intro i w h1 h2
    have HIH := hidden ih
    obtain ⟨R, hR⟩ : ∃ R, skipC 0 (suf s (i + 2)) = R := ⟨_, rfl⟩
    rw [hR]
    have HR := hidden hR
    clear ih hR
    go_enter Tryd.func17, Tryd.ntmps17
    go_wp2
    go_loop [1] (fun jv => ∃ j : Nat, i + 2 ≤ j ∧ j ≤ s.size ∧ jv = .int .i64 j ∧ skipC 0 (suf s j) = R) (fun jv => (s.size - intOf jv).toNat)
    case atStart => exact ⟨i + 2, Nat.le_refl _, h2, by go_num, HR.out⟩
    case round =>
      clear HR
      obtain ⟨j, hj1, hj2, rfl, hj⟩ := hrel
      have HJ := hidden hj
      clear hj
      by_cases hlt : j < s.size
      · have z1 : (j : Int) < (s.size : Int) := by omega
        cases he : atB s j endC with
        | true =>
          obtain ⟨q1, q2⟩ := skip_close he
          have HE : Hid (atB s j ⟨#[42, 41]⟩ = _) := he
          have HO : Hid (commentR s R = ((j : Int) + 2, true)) := by
            show _ = _
            rw [← HJ.out, q2]
            unfold commentR
            simp only [suf_len]
            rw [Prod.mk.injEq]
            exact ⟨by omega, rfl⟩
          clear he q2
          go_wp2_with (go_at_call 16; refine (at_any s _ j _ hj2 hs (by decide) HE.out).mono ?_; rintro e w' ⟨rfl, hw'⟩; rw [hw']; clear hw' w')
          all_goals go_ret2
          all_goals exact ⟨by rw [HO.out]; rfl, rfl⟩
        | false =>
          have HE : Hid (atB s j ⟨#[42, 41]⟩ = _) := he
          cases hb : atB s j begC with
          | true =>
            obtain ⟨q1, q2⟩ := skip_open hb
            have HB : Hid (atB s j ⟨#[40, 42]⟩ = _) := hb
            have HC := hidden (fun w => HIH.out j w (by omega) q1)
            rw [HJ.out] at q2
            cases hk : skipC 0 (suf s (j + 2)) with
            | none =>
              have HO : Hid (commentR s R = (0, false)) := by show _ = _; rw [q2, hk]; rfl
              rw [hk] at HC
              clear he hb q2 hk
              go_wp2_with (first
                | (go_at_call 16; refine (at_any s _ j _ hj2 hs (by decide) (by first | with_reducible exact HE.out | with_reducible exact HB.out)).mono ?_; rintro e w' ⟨rfl, hw'⟩; rw [hw']; clear hw' w')
                | (go_at_call 17; refine (HC.out _).mono ?_; rintro e w' ⟨rfl, hw'⟩; rw [hw']; clear hw' w'; unfold commentR; simp only))
              all_goals go_ret2
              all_goals exact ⟨by rw [HO.out]; rfl, rfl⟩
            | some r =>
              obtain ⟨k1, k2, k3⟩ := skip_suf hk q1
              rw [hk] at HC
              have HJ2 : Hid (skipC 0 (suf s (s.size - r.length)) = R) := by show _ = _; rw [q2, hk, ← k1]; rfl
              have HKE : Hid ((s.size : Int) - (r.length : Int) = ((s.size - r.length : Nat) : Int)) := by show _ = _; omega
              clear he hb q2 hk k1
              go_wp2_with (first
                | (go_at_call 16; refine (at_any s _ j _ hj2 hs (by decide) (by first | with_reducible exact HE.out | with_reducible exact HB.out)).mono ?_; rintro e w' ⟨rfl, hw'⟩; rw [hw']; clear hw' w')
                | (go_at_call 17; refine (HC.out _).mono ?_; rintro e w' ⟨rfl, hw'⟩; rw [hw']; clear hw' w'; unfold commentR; simp only; rw [HKE.out]))
              all_goals go_roundw
              case rel => exact ⟨s.size - r.length, by omega, by omega, rfl, HJ2.out⟩
              case measure => simp [intOf]; omega
          | false =>
            have HB : Hid (atB s j ⟨#[40, 42]⟩ = _) := hb
            have HJ2 : Hid (skipC 0 (suf s (j + 1)) = R) := by show _ = _; rw [← skip_one hlt he hb]; exact HJ.out
            clear he hb
            go_wp2_with (first
              | (go_at_call 16; refine (at_any s _ j _ hj2 hs (by decide) (by first | with_reducible exact HE.out | with_reducible exact HB.out)).mono ?_; rintro e w' ⟨rfl, hw'⟩; rw [hw']; clear hw' w'))
            all_goals go_roundw
            case rel => exact ⟨j + 1, by omega, by omega, by go_num, HJ2.out⟩
            case measure => simp [intOf]; omega
      · have z1 : ¬ (j : Int) < (s.size : Int) := by omega
        have HO : Hid (commentR s R = (0, false)) := by
          show _ = _
          have e0 : suf s j = [] := List.length_eq_zero_iff.1 (by rw [suf_len]; omega)
          rw [← HJ.out, e0]; rfl
        go_wp2
        all_goals go_ret2
        all_goals exact ⟨by rw [HO.out]; rfl, rfl⟩
end Go.Proofs.YtapecobalkjdhaaDoor
