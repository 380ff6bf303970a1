/-
  Layer 7, the document's own lex: forms behind a backslash. Condition: the place is within the source, or at its end.
-/
import Derived.Test.YtapecobalkjdhaaDoorR7Base
namespace Go.Proofs.YtapecobalkjdhaaDoor
open Go.ChangeShapes Go.WideShapes Go.ChangeAt Go.RowKit Go.Deep
set_option linter.unusedVariables false
set_option maxHeartbeats 1000000

theorem wrapI (x : Int) (h : -9223372036854775808 ≤ x) (h' : x ≤ 9223372036854775807) : IntKind.i64.wrap x = x := by
  rw [IntKind.wrap_i64]; omega
/-- What hex tells. -/
def hexR (c : UInt8) : Int := match hexB c with | some a => (a.toNat : Int) | none => -1
theorem hexR_digit {c : UInt8} (h : digitB c = true) : hexR c = (c.toNat : Int) - 48 ∧ 48 ≤ c.toNat ∧ c.toNat ≤ 57 := by
  have h2 := h
  rw [digit_is] at h2
  simp at h2
  unfold hexR hexB
  rw [if_pos h]
  simp only
  refine ⟨?_, by omega, by omega⟩
  rw [UInt8.toNat_sub_of_le _ _ (by rw [UInt8.le_iff_toNat_le]; show 48 ≤ c.toNat; omega)]
  show ((c.toNat - 48 : Nat) : Int) = _
  omega
theorem hexR_small {c : UInt8} (h : digitB c = false) (h1 : 97 ≤ c.toNat) (h2 : c.toNat ≤ 102) : hexR c = (c.toNat : Int) - 97 + 10 := by
  unfold hexR hexB
  rw [if_neg (by rw [h]; decide), if_pos ⟨by rw [UInt8.le_iff_toNat_le]; exact h1, by rw [UInt8.le_iff_toNat_le]; exact h2⟩]
  simp only
  have e : (c - 97).toNat = c.toNat - 97 := UInt8.toNat_sub_of_le _ _ (by rw [UInt8.le_iff_toNat_le]; exact h1)
  rw [UInt8.toNat_add, e]
  show (((c.toNat - 97 + 10) % 256 : Nat) : Int) = _
  omega
theorem hexR_none {c : UInt8} (h : digitB c = false) (h1 : ¬ (97 ≤ c.toNat ∧ c.toNat ≤ 102)) : hexR c = -1 := by
  unfold hexR hexB
  rw [if_neg (by rw [h]; decide), if_neg]
  rw [UInt8.le_iff_toNat_le, UInt8.le_iff_toNat_le]; exact h1
theorem hex_any (c : UInt8) (w : World) : Calls Tryd.prog 61 #[.int .u8 (c.toNat : Int)] w fun e w' => e = .returned (.int .i64 (hexR c)) ∧ w' = w := by
  cases hd : digitB c with
  | true =>
    obtain ⟨e1, e2, e3⟩ := hexR_digit hd
    rw [e1]
    have HD := hidden hd
    clear e1 hd
    go_enter Tryd.func61, Tryd.ntmps61
    go_wp2_with (go_at_call 25; refine (digit_any c _ HD.out).mono ?_; rintro e w' ⟨rfl, hw'⟩; rw [hw']; clear hw' w')
    all_goals go_ret
    all_goals exact ⟨rfl, rfl⟩
  | false =>
    have HD := hidden hd
    by_cases h1 : 97 ≤ c.toNat ∧ c.toNat ≤ 102
    · rw [hexR_small hd h1.1 h1.2]
      obtain ⟨e2, e3⟩ := h1
      clear hd
      go_enter Tryd.func61, Tryd.ntmps61
      go_wp2_with (go_at_call 25; refine (digit_any c _ HD.out).mono ?_; rintro e w' ⟨rfl, hw'⟩; rw [hw']; clear hw' w')
      all_goals go_ret
      all_goals exact ⟨rfl, rfl⟩
    · rw [hexR_none hd h1]
      clear hd
      go_enter Tryd.func61, Tryd.ntmps61
      go_wp2_with (go_at_call 25; refine (digit_any c _ HD.out).mono ?_; rintro e w' ⟨rfl, hw'⟩; rw [hw']; clear hw' w')
      all_goals go_ret
      all_goals first | exact ⟨rfl, rfl⟩ | (exfalso; omega)
theorem hex_is (c : UInt8) (n : Int) (w : World) (h : hexR c = n) : Calls Tryd.prog 61 #[.int .u8 (c.toNat : Int)] w fun e w' => e = .returned (.int .i64 n) ∧ w' = w := by
  subst h; exact hex_any c w
/-- What form tells. -/
def formR (s : ByteArray) (i : Nat) : Int × Int := match formB (suf s i) with | some (c, r) => ((c.toNat : Int), (s.size : Int) - i - r.length) | none => (0, 0)
theorem hexR_some {c a : UInt8} (h : hexB c = some a) : hexR c = (a.toNat : Int) := by unfold hexR; rw [h]
theorem hexR_no {c : UInt8} (h : hexB c = none) : hexR c = -1 := by unfold hexR; rw [h]
theorem hexR_le (c : UInt8) : hexR c ≤ 15 := by
  cases hd : digitB c with
  | true => have := hexR_digit hd; omega
  | false =>
    by_cases h1 : 97 ≤ c.toNat ∧ c.toNat ≤ 102
    · rw [hexR_small hd h1.1 h1.2]; omega
    · rw [hexR_none hd h1]; decide
theorem u8_val (c : UInt8) (n : Nat) (hn : n < 256) : c = UInt8.ofNat n ↔ (c.toNat : Int) = (n : Int) := by
  rw [← UInt8.toNat_inj]
  have e : (UInt8.ofNat n).toNat = n := by simp; omega
  rw [e]; omega
theorem form_any (s : ByteArray) (i : Nat) (w : World) (hs : s.size ≤ 1000000) (hi : i ≤ s.size) : Calls Tryd.prog 46 #[.string s, .int .i64 (i : Int)] w fun e w' => e = .returned (.tuple #[.int .u8 (formR s i).1, .int .i64 (formR s i).2]) ∧ ∃ n, w' = w.drewN n := by
  by_cases hlt : i < s.size
  · have z1 : (i : Int) < (s.size : Int) := by omega
    have e0 := suf_cons s hlt
    have l1 := suf_len s (i + 1)
    obtain ⟨c, hc⟩ : ∃ c, s[i] = c := ⟨_, rfl⟩
    rw [hc] at e0
    have u34 := u8_val c 34 (by decide)
    have u92 := u8_val c 92 (by decide)
    have u110 := u8_val c 110 (by decide)
    have u116 := u8_val c 116 (by decide)
    have u120 := u8_val c 120 (by decide)
    by_cases c1 : c = 34 ∨ c = 92
    · have HO : Hid (formR s i = ((c.toNat : Int), 1)) := by
        show _ = _
        unfold formR
        rw [e0, formB_cons, if_pos c1]
        simp only [l1]
        rw [Prod.mk.injEq]; exact ⟨rfl, by omega⟩
      have HC : Hid ((c.toNat : Int) = 34 ∨ (c.toNat : Int) = 92) := by
        rcases c1 with h | h
        · exact Or.inl (u34.1 h)
        · exact Or.inr (u92.1 h)
      clear e0 l1 u34 u92 u110 u116 u120 c1
      go_enter Tryd.func46, Tryd.ntmps46
      go_wp2
      all_goals first
        | (exfalso; have := HC.out; simp_all; done)
        | (go_ret2; exact ⟨by rw [HO.out]; rfl, 0, rfl⟩)
    · by_cases c2 : c = 110
      · have HO : Hid (formR s i = (10, 1)) := by
          show _ = _
          unfold formR
          rw [e0, formB_cons, if_neg c1, if_pos c2]
          simp only [l1]
          rw [Prod.mk.injEq]; exact ⟨rfl, by omega⟩
        subst c2
        clear e0 l1 u34 u92 u110 u116 u120 c1
        go_enter Tryd.func46, Tryd.ntmps46
        go_wp2
        all_goals (go_ret2; exact ⟨by rw [HO.out]; rfl, 0, rfl⟩)
      · by_cases c3 : c = 116
        · have HO : Hid (formR s i = (9, 1)) := by
            show _ = _
            unfold formR
            rw [e0, formB_cons, if_neg c1, if_neg c2, if_pos c3]
            simp only [l1]
            rw [Prod.mk.injEq]; exact ⟨rfl, by omega⟩
          subst c3
          clear e0 l1 u34 u92 u110 u116 u120 c1 c2
          go_enter Tryd.func46, Tryd.ntmps46
          go_wp2
          all_goals (go_ret2; exact ⟨by rw [HO.out]; rfl, 0, rfl⟩)
        · by_cases c4 : c = 120
          · by_cases h2 : i + 2 < s.size
            · have z2 : (i : Int) + 2 < (s.size : Int) := by omega
              have e1 := suf_cons s (show i + 1 < s.size by omega)
              have e2 := suf_cons s h2
              have l3 := suf_len s (i + 2 + 1)
              obtain ⟨x, hx⟩ : ∃ x, s[i + 1] = x := ⟨_, rfl⟩
              obtain ⟨y, hy⟩ : ∃ y, s[i + 2] = y := ⟨_, rfl⟩
              rw [hx] at e1
              rw [hy] at e2
              have e3 : suf s i = c :: x :: y :: suf s (i + 2 + 1) := by rw [e0, e1, e2]
              cases kx : hexB x with
              | none =>
                have HX := hidden (hexR_no kx)
                have HO : Hid (formR s i = (0, 0)) := by
                  show _ = _
                  unfold formR
                  rw [e3, formB_cons, if_neg c1, if_neg c2, if_neg c3, if_pos c4]
                  simp only [kx]
                subst c4
                clear e0 e1 e2 e3 l1 l3 u34 u92 u110 u116 u120 c1 c2 c3 kx
                go_enter Tryd.func46, Tryd.ntmps46
                go_wp2_with (go_at_call 61; refine (hex_any _ _).mono ?_; rintro e w' ⟨rfl, hw'⟩; rw [hw']; clear hw' w'; rw [HX.out])
                all_goals (go_ret2; exact ⟨by rw [HO.out]; rfl, 0, rfl⟩)
              | some a =>
                have HX := hidden (hexR_some kx)
                have bx : a.toNat ≤ 15 := by have := hexR_le x; rw [HX.out] at this; omega
                cases ky : hexB y with
                | none =>
                  have HY := hidden (hexR_no ky)
                  have HO : Hid (formR s i = (0, 0)) := by
                    show _ = _
                    unfold formR
                    rw [e3, formB_cons, if_neg c1, if_neg c2, if_neg c3, if_pos c4]
                    simp only [kx, ky]
                  subst c4
                  clear e0 e1 e2 e3 l1 l3 u34 u92 u110 u116 u120 c1 c2 c3 kx ky
                  go_enter Tryd.func46, Tryd.ntmps46
                  go_wp2_with (go_at_call 61; refine (hex_any _ _).mono ?_; rintro e w' ⟨rfl, hw'⟩; rw [hw']; clear hw' w'; first | rw [HX.out] | rw [HY.out])
                  all_goals (go_ret2; exact ⟨by rw [HO.out]; rfl, 0, rfl⟩)
                | some b =>
                  have HY := hidden (hexR_some ky)
                  have by_ : b.toNat ≤ 15 := by have := hexR_le y; rw [HY.out] at this; omega
                  have HO : Hid (formR s i = ((a.toNat : Int) * 16 + (b.toNat : Int), 3)) := by
                    show _ = _
                    unfold formR
                    rw [e3, formB_cons, if_neg c1, if_neg c2, if_neg c3, if_pos c4]
                    simp only [kx, ky, l3]
                    rw [Prod.mk.injEq]
                    refine ⟨?_, by omega⟩
                    rw [UInt8.toNat_add, UInt8.toNat_mul]
                    show (((a.toNat * 16 % 256 + b.toNat) % 256 : Nat) : Int) = _
                    omega
                  subst c4
                  clear e0 e1 e2 e3 l1 l3 u34 u92 u110 u116 u120 c1 c2 c3 kx ky
                  go_enter Tryd.func46, Tryd.ntmps46
                  go_wp2_with (go_at_call 61; refine (hex_any _ _).mono ?_; rintro e w' ⟨rfl, hw'⟩; rw [hw']; clear hw' w'; first | rw [HX.out] | rw [HY.out])
                  have e1 := wrapI ((i : Int) + 1) (by omega) (by omega)
                  have e2 := wrapI ((i : Int) + 2) (by omega) (by omega)
                  have e3 := wrapI ((a.toNat : Int) * 16) (by omega) (by omega)
                  have e4 := wrapI ((a.toNat : Int) * 16 + (b.toNat : Int)) (by omega) (by omega)
                  go_quiet ((go_at_call 61; exact Calls.quiet_of_same (hex_is _ _ _ (by first | with_reducible exact HX.out | with_reducible exact HY.out))))
                  go_wp2
                  all_goals (go_ret2; exact ⟨by rw [HO.out]; rfl, _, rfl⟩)
            · have z2 : ¬ (i : Int) + 2 < (s.size : Int) := by omega
              have HO : Hid (formR s i = (0, 0)) := by
                show _ = _
                unfold formR
                rw [e0, formB_cons, if_neg c1, if_neg c2, if_neg c3, if_pos c4]
                have : (suf s (i + 1)).length ≤ 1 := by omega
                match hh : suf s (i + 1), this with
                | [], _ => rfl
                | [_], _ => rfl
              subst c4
              clear e0 l1 u34 u92 u110 u116 u120 c1 c2 c3
              go_enter Tryd.func46, Tryd.ntmps46
              go_wp2
              all_goals (go_ret2; exact ⟨by rw [HO.out]; rfl, 0, rfl⟩)
          · have HO : Hid (formR s i = (0, 0)) := by
              show _ = _
              unfold formR
              rw [e0, formB_cons, if_neg c1, if_neg c2, if_neg c3, if_neg c4]
            have g1 : ((c.toNat : Int) == 34) = false := by rw [beq_eq_false_iff_ne]; exact fun h => c1 (Or.inl (u34.2 h))
            have g2 : ((c.toNat : Int) == 92) = false := by rw [beq_eq_false_iff_ne]; exact fun h => c1 (Or.inr (u92.2 h))
            have g3 : ((c.toNat : Int) == 110) = false := by rw [beq_eq_false_iff_ne]; exact fun h => c2 (u110.2 h)
            have g4 : ((c.toNat : Int) == 116) = false := by rw [beq_eq_false_iff_ne]; exact fun h => c3 (u116.2 h)
            have g5 : ((c.toNat : Int) == 120) = false := by rw [beq_eq_false_iff_ne]; exact fun h => c4 (u120.2 h)
            clear e0 l1 u34 u92 u110 u116 u120 c1 c2 c3 c4
            go_enter Tryd.func46, Tryd.ntmps46
            go_wp2
            all_goals (go_ret2; exact ⟨by rw [HO.out]; rfl, 0, rfl⟩)
  · have z1 : ¬ (i : Int) < (s.size : Int) := by omega
    have HO : Hid (formR s i = (0, 0)) := by
      show _ = _
      have e0 : suf s i = [] := List.length_eq_zero_iff.1 (by rw [suf_len]; omega)
      unfold formR
      rw [e0]; rfl
    go_enter Tryd.func46, Tryd.ntmps46
    go_wp2
    all_goals go_ret2
    all_goals exact ⟨by rw [HO.out]; rfl, 0, rfl⟩
end Go.Proofs.YtapecobalkjdhaaDoor
