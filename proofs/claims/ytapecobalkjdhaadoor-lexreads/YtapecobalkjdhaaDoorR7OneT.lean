/-
  Layer 7, the document's own lex: a token at a place: texts. Condition: the place is within the source.
-/
import Derived.Test.YtapecobalkjdhaaDoorR7OneA
import Derived.Test.YtapecobalkjdhaaDoorX7Cut
namespace Go.Proofs.YtapecobalkjdhaaDoor
open Go.ChangeShapes Go.WideShapes Go.ChangeAt Go.RowKit Go.Deep
set_option linter.unusedVariables false
set_option linter.unusedSimpArgs false
set_option maxHeartbeats 4000000
set_option maxRecDepth 20000

theorem one_text {c : UInt8} (s : ByteArray) (i : Nat) (w : World) (hi : i < s.size) (hs : s.size ≤ 900000) (hc0 : s[i] = c) {x r : List UInt8} (h34 : c = 34) (hx : txtB (suf s (i + 1)) = some (x, r)) : Calls Tryd.prog 18 #[.string s, .int .i64 (i : Int)] w fun e w' => OneAs (tokAt docW (suf s i)) s i w e w' := by
  obtain ⟨T, hT⟩ : ∃ T, tokAt docW (suf s i) = T := ⟨_, rfl⟩
  have e0 := suf_cons s hi
  rw [hc0] at e0
  have E0 := hidden e0
  have HC := hidden hc0
  obtain ⟨NM, hNM⟩ : ∃ NM, (suf s i).takeWhile nameB = NM := ⟨_, rfl⟩
  obtain ⟨DR, hDR⟩ : ∃ DR, (suf s i).dropWhile nameB = DR := ⟨_, rfl⟩
  have HNM := hidden hNM
  have HDR := hidden hDR
  have hs1 : smallB c = false := by rw [h34]; decide
  have hg1 : greatB c = false := by rw [h34]; decide
  have hd1 : digitB c = false := by rw [h34]; decide
  have g34 : ((c.toNat : Int) == 34) = true := by rw [h34]; rfl
  have ht : T = (match txtB (suf s (i + 1)) with | some (x, r) => .ok (⟨2, x, 0⟩, r) | none => .error 20) := by
    have hsm2 : ¬ (smallB c || greatB c) = true := by rw [hs1, hg1]; decide
    have hd2 : ¬ digitB c = true := by rw [hd1]; decide
    rw [← hT, e0]
    unfold tokAt
    simp only [if_neg hsm2, if_neg hd2, if_pos h34]
    rfl
  have htx := fun w => text_any s i w hs hi
  rw [hx] at ht htx
  have HT2 := hidden ht
  have hlen := txtB_len _ _ (Nat.le_refl _) hx
  rw [suf_len] at hlen
  obtain ⟨K, hK⟩ : ∃ K : Nat, s.size - i - r.length = K := ⟨_, rfl⟩
  have gk : ((K : Int) == 0) = false := by rw [beq_eq_false_iff_ne]; omega
  have eK : (s.size : Int) - (i : Int) - (r.length : Int) = (K : Int) := by omega
  have HX : Hid (∀ w, Calls Tryd.prog 29 #[.string s, .int .i64 (i : Int)] w fun e w' => e = .returned (.tuple #[.string ⟨x.toArray⟩, .int .i64 (K : Int)]) ∧ Below w.heap.size w w') := by
    intro w
    have := htx w
    rw [show textR s i (some (x, r)) = (x, (s.size : Int) - (i : Int) - (r.length : Int)) from rfl, eK] at this
    exact this
  have hnK := hidden hK
  clear hlen eK hK
  have HS1 := hidden hs1
  have HG1 := hidden hg1
  have HD1 := hidden hd1
  clear ht htx hx hs1 hg1 hd1 h34
  rw [hT]
  clear hT e0 hc0 hNM hDR
  go_enter Tryd.func18, Tryd.ntmps18
  go_wp2_with fail
  go_loop [8] (fun nv => ∃ n : Nat, i + n ≤ s.size ∧ nv = .int .i64 (n : Int) ∧ (suf s i).take n ++ (suf s (i + n)).takeWhile nameB = NM ∧ (suf s (i + n)).dropWhile nameB = DR) (fun nv => ((s.size : Int) - intOf nv).toNat)
  case atStart => exact ⟨0, by omega, rfl, by rw [List.take_zero, List.nil_append]; exact HNM.out, HDR.out⟩
  case round =>
    obtain ⟨n, n1, rfl, n3, n4⟩ := hrel
    by_cases hlt : i + n < s.size
    · have zl : (i : Int) + (n : Int) < (s.size : Int) := by omega
      have zb : (0 : Int) ≤ (i : Int) + (n : Int) := by omega
      obtain ⟨d, hd⟩ : ∃ d, s[i + n] = d := ⟨_, rfl⟩
      have next := one_next hlt hd n3 n4
      have stop := one_stop hlt hd n3 n4
      clear n3 n4
      cases h1 : smallB d with
      | true =>
        have H1 := hidden h1
        obtain ⟨a3, a4⟩ := next (by unfold nameB; rw [h1]; rfl)
        have N3 := hidden a3
        have N4 := hidden a4
        clear next stop a3 a4 h1
        go_wp2_with (go_at_call 23; refine (small_any _ _ H1.out).mono ?_; rintro e w' ⟨rfl, hw'⟩; rw [hw']; clear hw' w')
        go_round
        case rel => exact ⟨n + 1, by omega, by go_num, N3.out, N4.out⟩
        case measure => simp [intOf]; omega
      | false =>
        cases h2 : greatB d with
        | true =>
          have H1 := hidden h1
          have H2 := hidden h2
          obtain ⟨a3, a4⟩ := next (by unfold nameB; rw [h1, h2]; rfl)
          have N3 := hidden a3
          have N4 := hidden a4
          clear next stop a3 a4 h1 h2
          go_wp2_with (first | (go_at_call 23; refine (small_any _ _ H1.out).mono ?_; rintro e w' ⟨rfl, hw'⟩; rw [hw']; clear hw' w') | (go_at_call 24; refine (great_any _ _ H2.out).mono ?_; rintro e w' ⟨rfl, hw'⟩; rw [hw']; clear hw' w'))
          go_round
          case rel => exact ⟨n + 1, by omega, by go_num, N3.out, N4.out⟩
          case measure => simp [intOf]; omega
        | false =>
          cases h3 : digitB d with
          | true =>
            have H1 := hidden h1
            have H2 := hidden h2
            have H3 := hidden h3
            obtain ⟨a3, a4⟩ := next (by unfold nameB; rw [h1, h2, h3]; rfl)
            have N3 := hidden a3
            have N4 := hidden a4
            clear next stop a3 a4 h1 h2 h3
            go_wp2_with (first | (go_at_call 23; refine (small_any _ _ H1.out).mono ?_; rintro e w' ⟨rfl, hw'⟩; rw [hw']; clear hw' w') | (go_at_call 24; refine (great_any _ _ H2.out).mono ?_; rintro e w' ⟨rfl, hw'⟩; rw [hw']; clear hw' w') | (go_at_call 25; refine (digit_any _ _ H3.out).mono ?_; rintro e w' ⟨rfl, hw'⟩; rw [hw']; clear hw' w'))
            go_round
            case rel => exact ⟨n + 1, by omega, by go_num, N3.out, N4.out⟩
            case measure => simp [intOf]; omega
          | false =>
            by_cases h39 : d = 39
            · have H1 := hidden h1
              have H2 := hidden h2
              have H3 := hidden h3
              obtain ⟨a3, a4⟩ := next (by rw [h39]; rfl)
              have N3 := hidden a3
              have N4 := hidden a4
              subst h39
              clear next stop a3 a4 h1 h2 h3
              go_wp2_with (first | (go_at_call 23; refine (small_any _ _ H1.out).mono ?_; rintro e w' ⟨rfl, hw'⟩; rw [hw']; clear hw' w') | (go_at_call 24; refine (great_any _ _ H2.out).mono ?_; rintro e w' ⟨rfl, hw'⟩; rw [hw']; clear hw' w') | (go_at_call 25; refine (digit_any _ _ H3.out).mono ?_; rintro e w' ⟨rfl, hw'⟩; rw [hw']; clear hw' w'))
              go_round
              case rel => exact ⟨n + 1, by omega, by go_num, N3.out, N4.out⟩
              case measure => simp [intOf]; omega
            · have H1 := hidden h1
              have H2 := hidden h2
              have H3 := hidden h3
              have g39 : ((d.toNat : Int) == 39) = false := u8_ne (n := 39) (by decide) h39
              obtain ⟨a3, a4⟩ := stop (by unfold nameB; rw [h1, h2, h3]; simpa using h39)
              have N3 := hidden a3
              have N4 := hidden a4
              clear next stop a3 a4 h1 h2 h3 h39
              go_upto_region 5 with (first | (go_at_call 23; refine (small_any _ _ H1.out).mono ?_; rintro e w' ⟨rfl, hw'⟩; rw [hw']; clear hw' w') | (go_at_call 24; refine (great_any _ _ H2.out).mono ?_; rintro e w' ⟨rfl, hw'⟩; rw [hw']; clear hw' w') | (go_at_call 25; refine (digit_any _ _ H3.out).mono ?_; rintro e w' ⟨rfl, hw'⟩; rw [hw']; clear hw' w'))
              clear g39 H1 H2 H3 hd
              have hc := HC.out
              obtain ⟨K1, Q1⟩ := one_start w i
              have KK := hidden K1
              have QQ := hidden Q1
              clear K1 Q1
              generalize (w.alloc (.cells #[.int .i64 0, .int .i64 0, .int .i64 0, .string ⟨#[]⟩] 31)).alloc (.cells #[.int .i64 0, .int .i64 i, .int .i64 0, .string ⟨#[]⟩] 31) = w1 at *
              obtain ⟨q0, q1, q2, q3, qf⟩ := QQ.out.cells
              obtain ⟨p0, p1, p2, p3, pf⟩ := KK.out.2.cells
              have hnl : Hid (s.size - i - DR.length = n) := by show _ = _; rw [← N4.out, suf_len]; omega
              have hsl : ∀ w', Sem.run Tryd.prog (Instr.slice 9 (.string s) (some (.int .i64 (i : Int))) (some (.int .i64 ((i : Int) + (n : Int)))) none) w' = .ok (.string ⟨NM.toArray⟩) w' := one_slice n1 N3.out
              have zi0 : (0 : Int) ≤ (i : Int) ∧ (i : Int) < (s.size : Int) := ⟨by omega, by omega⟩
              go_wp2_with (first | (go_at_call 23; refine (small_any c _ HS1.out).mono ?_; rintro e w' ⟨rfl, hw'⟩; rw [hw']; clear hw' w') | (go_at_call 24; refine (great_any c _ HG1.out).mono ?_; rintro e w' ⟨rfl, hw'⟩; rw [hw']; clear hw' w') | (go_at_call 25; refine (digit_any c _ HD1.out).mono ?_; rintro e w' ⟨rfl, hw'⟩; rw [hw']; clear hw' w') | (go_at_call 29; refine (HX.out _).mono ?_; rintro e w6 ⟨rfl, hb⟩; have K6 := hidden (KK.out.below hb); have Q6 := hidden (QQ.out.below hb); obtain ⟨y0, y1, y2, y3, yf⟩ := Q6.out.cells; obtain ⟨x0, x1, x2, x3, xf⟩ := K6.out.2.cells; clear hb))
              have HT3 : Hid (T = .ok (⟨2, x, 0⟩, r)) := HT2.out
              obtain ⟨D1, D2⟩ := ((K6.out.set 0 (.int .i64 2)).set 3 (.string ⟨x.toArray⟩)).fin 2 i 0 ⟨x.toArray⟩
              refine bodyPost_ret (one_results D1 _ rfl rfl rfl) rfl ?_
              rw [HT3.out]
              show _ ∧ _
              rw [hnK.out]
              exact ⟨rfl, D2⟩
    · have zl : ¬ (i : Int) + (n : Int) < (s.size : Int) := by omega
      obtain ⟨a3, a4⟩ := one_out hlt n3 n4
      have N3 := hidden a3
      have N4 := hidden a4
      clear a3 a4 n3 n4
      go_upto_region 5 with fail
      have hc := HC.out
      obtain ⟨K1, Q1⟩ := one_start w i
      have KK := hidden K1
      have QQ := hidden Q1
      clear K1 Q1
      generalize (w.alloc (.cells #[.int .i64 0, .int .i64 0, .int .i64 0, .string ⟨#[]⟩] 31)).alloc (.cells #[.int .i64 0, .int .i64 i, .int .i64 0, .string ⟨#[]⟩] 31) = w1 at *
      obtain ⟨q0, q1, q2, q3, qf⟩ := QQ.out.cells
      obtain ⟨p0, p1, p2, p3, pf⟩ := KK.out.2.cells
      have hnl : Hid (s.size - i - DR.length = n) := by show _ = _; rw [← N4.out, suf_len]; omega
      have hsl : ∀ w', Sem.run Tryd.prog (Instr.slice 9 (.string s) (some (.int .i64 (i : Int))) (some (.int .i64 ((i : Int) + (n : Int)))) none) w' = .ok (.string ⟨NM.toArray⟩) w' := one_slice n1 N3.out
      have zi0 : (0 : Int) ≤ (i : Int) ∧ (i : Int) < (s.size : Int) := ⟨by omega, by omega⟩
      go_wp2_with (first | (go_at_call 23; refine (small_any c _ HS1.out).mono ?_; rintro e w' ⟨rfl, hw'⟩; rw [hw']; clear hw' w') | (go_at_call 24; refine (great_any c _ HG1.out).mono ?_; rintro e w' ⟨rfl, hw'⟩; rw [hw']; clear hw' w') | (go_at_call 25; refine (digit_any c _ HD1.out).mono ?_; rintro e w' ⟨rfl, hw'⟩; rw [hw']; clear hw' w') | (go_at_call 29; refine (HX.out _).mono ?_; rintro e w6 ⟨rfl, hb⟩; have K6 := hidden (KK.out.below hb); have Q6 := hidden (QQ.out.below hb); obtain ⟨y0, y1, y2, y3, yf⟩ := Q6.out.cells; obtain ⟨x0, x1, x2, x3, xf⟩ := K6.out.2.cells; clear hb))
      have HT3 : Hid (T = .ok (⟨2, x, 0⟩, r)) := HT2.out
      obtain ⟨D1, D2⟩ := ((K6.out.set 0 (.int .i64 2)).set 3 (.string ⟨x.toArray⟩)).fin 2 i 0 ⟨x.toArray⟩
      refine bodyPost_ret (one_results D1 _ rfl rfl rfl) rfl ?_
      rw [HT3.out]
      show _ ∧ _
      rw [hnK.out]
      exact ⟨rfl, D2⟩
theorem one_notext {c : UInt8} (s : ByteArray) (i : Nat) (w : World) (hi : i < s.size) (hs : s.size ≤ 900000) (hc0 : s[i] = c) (h34 : c = 34) (hx : txtB (suf s (i + 1)) = none) : Calls Tryd.prog 18 #[.string s, .int .i64 (i : Int)] w fun e w' => OneAs (tokAt docW (suf s i)) s i w e w' := by
  obtain ⟨T, hT⟩ : ∃ T, tokAt docW (suf s i) = T := ⟨_, rfl⟩
  have e0 := suf_cons s hi
  rw [hc0] at e0
  have E0 := hidden e0
  have HC := hidden hc0
  obtain ⟨NM, hNM⟩ : ∃ NM, (suf s i).takeWhile nameB = NM := ⟨_, rfl⟩
  obtain ⟨DR, hDR⟩ : ∃ DR, (suf s i).dropWhile nameB = DR := ⟨_, rfl⟩
  have HNM := hidden hNM
  have HDR := hidden hDR
  have hs1 : smallB c = false := by rw [h34]; decide
  have hg1 : greatB c = false := by rw [h34]; decide
  have hd1 : digitB c = false := by rw [h34]; decide
  have g34 : ((c.toNat : Int) == 34) = true := by rw [h34]; rfl
  have ht : T = (match txtB (suf s (i + 1)) with | some (x, r) => .ok (⟨2, x, 0⟩, r) | none => .error 20) := by
    have hsm2 : ¬ (smallB c || greatB c) = true := by rw [hs1, hg1]; decide
    have hd2 : ¬ digitB c = true := by rw [hd1]; decide
    rw [← hT, e0]
    unfold tokAt
    simp only [if_neg hsm2, if_neg hd2, if_pos h34]
    rfl
  have htx := fun w => text_any s i w hs hi
  rw [hx] at ht htx
  have HT2 := hidden ht
  have HX : Hid (∀ w, Calls Tryd.prog 29 #[.string s, .int .i64 (i : Int)] w fun e w' => e = .returned (.tuple #[.string ⟨#[]⟩, .int .i64 0]) ∧ Below w.heap.size w w') := htx
  have HS1 := hidden hs1
  have HG1 := hidden hg1
  have HD1 := hidden hd1
  clear ht htx hx hs1 hg1 hd1 h34
  rw [hT]
  clear hT e0 hc0 hNM hDR
  go_enter Tryd.func18, Tryd.ntmps18
  go_wp2_with fail
  go_loop [8] (fun nv => ∃ n : Nat, i + n ≤ s.size ∧ nv = .int .i64 (n : Int) ∧ (suf s i).take n ++ (suf s (i + n)).takeWhile nameB = NM ∧ (suf s (i + n)).dropWhile nameB = DR) (fun nv => ((s.size : Int) - intOf nv).toNat)
  case atStart => exact ⟨0, by omega, rfl, by rw [List.take_zero, List.nil_append]; exact HNM.out, HDR.out⟩
  case round =>
    obtain ⟨n, n1, rfl, n3, n4⟩ := hrel
    by_cases hlt : i + n < s.size
    · have zl : (i : Int) + (n : Int) < (s.size : Int) := by omega
      have zb : (0 : Int) ≤ (i : Int) + (n : Int) := by omega
      obtain ⟨d, hd⟩ : ∃ d, s[i + n] = d := ⟨_, rfl⟩
      have next := one_next hlt hd n3 n4
      have stop := one_stop hlt hd n3 n4
      clear n3 n4
      cases h1 : smallB d with
      | true =>
        have H1 := hidden h1
        obtain ⟨a3, a4⟩ := next (by unfold nameB; rw [h1]; rfl)
        have N3 := hidden a3
        have N4 := hidden a4
        clear next stop a3 a4 h1
        go_wp2_with (go_at_call 23; refine (small_any _ _ H1.out).mono ?_; rintro e w' ⟨rfl, hw'⟩; rw [hw']; clear hw' w')
        go_round
        case rel => exact ⟨n + 1, by omega, by go_num, N3.out, N4.out⟩
        case measure => simp [intOf]; omega
      | false =>
        cases h2 : greatB d with
        | true =>
          have H1 := hidden h1
          have H2 := hidden h2
          obtain ⟨a3, a4⟩ := next (by unfold nameB; rw [h1, h2]; rfl)
          have N3 := hidden a3
          have N4 := hidden a4
          clear next stop a3 a4 h1 h2
          go_wp2_with (first | (go_at_call 23; refine (small_any _ _ H1.out).mono ?_; rintro e w' ⟨rfl, hw'⟩; rw [hw']; clear hw' w') | (go_at_call 24; refine (great_any _ _ H2.out).mono ?_; rintro e w' ⟨rfl, hw'⟩; rw [hw']; clear hw' w'))
          go_round
          case rel => exact ⟨n + 1, by omega, by go_num, N3.out, N4.out⟩
          case measure => simp [intOf]; omega
        | false =>
          cases h3 : digitB d with
          | true =>
            have H1 := hidden h1
            have H2 := hidden h2
            have H3 := hidden h3
            obtain ⟨a3, a4⟩ := next (by unfold nameB; rw [h1, h2, h3]; rfl)
            have N3 := hidden a3
            have N4 := hidden a4
            clear next stop a3 a4 h1 h2 h3
            go_wp2_with (first | (go_at_call 23; refine (small_any _ _ H1.out).mono ?_; rintro e w' ⟨rfl, hw'⟩; rw [hw']; clear hw' w') | (go_at_call 24; refine (great_any _ _ H2.out).mono ?_; rintro e w' ⟨rfl, hw'⟩; rw [hw']; clear hw' w') | (go_at_call 25; refine (digit_any _ _ H3.out).mono ?_; rintro e w' ⟨rfl, hw'⟩; rw [hw']; clear hw' w'))
            go_round
            case rel => exact ⟨n + 1, by omega, by go_num, N3.out, N4.out⟩
            case measure => simp [intOf]; omega
          | false =>
            by_cases h39 : d = 39
            · have H1 := hidden h1
              have H2 := hidden h2
              have H3 := hidden h3
              obtain ⟨a3, a4⟩ := next (by rw [h39]; rfl)
              have N3 := hidden a3
              have N4 := hidden a4
              subst h39
              clear next stop a3 a4 h1 h2 h3
              go_wp2_with (first | (go_at_call 23; refine (small_any _ _ H1.out).mono ?_; rintro e w' ⟨rfl, hw'⟩; rw [hw']; clear hw' w') | (go_at_call 24; refine (great_any _ _ H2.out).mono ?_; rintro e w' ⟨rfl, hw'⟩; rw [hw']; clear hw' w') | (go_at_call 25; refine (digit_any _ _ H3.out).mono ?_; rintro e w' ⟨rfl, hw'⟩; rw [hw']; clear hw' w'))
              go_round
              case rel => exact ⟨n + 1, by omega, by go_num, N3.out, N4.out⟩
              case measure => simp [intOf]; omega
            · have H1 := hidden h1
              have H2 := hidden h2
              have H3 := hidden h3
              have g39 : ((d.toNat : Int) == 39) = false := u8_ne (n := 39) (by decide) h39
              obtain ⟨a3, a4⟩ := stop (by unfold nameB; rw [h1, h2, h3]; simpa using h39)
              have N3 := hidden a3
              have N4 := hidden a4
              clear next stop a3 a4 h1 h2 h3 h39
              go_upto_region 5 with (first | (go_at_call 23; refine (small_any _ _ H1.out).mono ?_; rintro e w' ⟨rfl, hw'⟩; rw [hw']; clear hw' w') | (go_at_call 24; refine (great_any _ _ H2.out).mono ?_; rintro e w' ⟨rfl, hw'⟩; rw [hw']; clear hw' w') | (go_at_call 25; refine (digit_any _ _ H3.out).mono ?_; rintro e w' ⟨rfl, hw'⟩; rw [hw']; clear hw' w'))
              clear g39 H1 H2 H3 hd
              have hc := HC.out
              obtain ⟨K1, Q1⟩ := one_start w i
              have KK := hidden K1
              have QQ := hidden Q1
              clear K1 Q1
              generalize (w.alloc (.cells #[.int .i64 0, .int .i64 0, .int .i64 0, .string ⟨#[]⟩] 31)).alloc (.cells #[.int .i64 0, .int .i64 i, .int .i64 0, .string ⟨#[]⟩] 31) = w1 at *
              obtain ⟨q0, q1, q2, q3, qf⟩ := QQ.out.cells
              obtain ⟨p0, p1, p2, p3, pf⟩ := KK.out.2.cells
              have hnl : Hid (s.size - i - DR.length = n) := by show _ = _; rw [← N4.out, suf_len]; omega
              have hsl : ∀ w', Sem.run Tryd.prog (Instr.slice 9 (.string s) (some (.int .i64 (i : Int))) (some (.int .i64 ((i : Int) + (n : Int)))) none) w' = .ok (.string ⟨NM.toArray⟩) w' := one_slice n1 N3.out
              have zi0 : (0 : Int) ≤ (i : Int) ∧ (i : Int) < (s.size : Int) := ⟨by omega, by omega⟩
              go_wp2_with (first | (go_at_call 23; refine (small_any c _ HS1.out).mono ?_; rintro e w' ⟨rfl, hw'⟩; rw [hw']; clear hw' w') | (go_at_call 24; refine (great_any c _ HG1.out).mono ?_; rintro e w' ⟨rfl, hw'⟩; rw [hw']; clear hw' w') | (go_at_call 25; refine (digit_any c _ HD1.out).mono ?_; rintro e w' ⟨rfl, hw'⟩; rw [hw']; clear hw' w') | (go_at_call 29; refine (HX.out _).mono ?_; rintro e w6 ⟨rfl, hb⟩; have K6 := hidden (KK.out.below hb); have Q6 := hidden (QQ.out.below hb); obtain ⟨y0, y1, y2, y3, yf⟩ := Q6.out.cells; obtain ⟨x0, x1, x2, x3, xf⟩ := K6.out.2.cells; clear hb))
              have HT3 : Hid (T = .error 20) := HT2.out
              obtain ⟨D1, D2⟩ := (K6.out).fin 0 i 0 ⟨#[]⟩
              refine bodyPost_ret (one_results D1 _ rfl rfl rfl) rfl ?_
              rw [HT3.out]
              exact ⟨⟨_, _, _, _, rfl⟩, D2⟩
    · have zl : ¬ (i : Int) + (n : Int) < (s.size : Int) := by omega
      obtain ⟨a3, a4⟩ := one_out hlt n3 n4
      have N3 := hidden a3
      have N4 := hidden a4
      clear a3 a4 n3 n4
      go_upto_region 5 with fail
      have hc := HC.out
      obtain ⟨K1, Q1⟩ := one_start w i
      have KK := hidden K1
      have QQ := hidden Q1
      clear K1 Q1
      generalize (w.alloc (.cells #[.int .i64 0, .int .i64 0, .int .i64 0, .string ⟨#[]⟩] 31)).alloc (.cells #[.int .i64 0, .int .i64 i, .int .i64 0, .string ⟨#[]⟩] 31) = w1 at *
      obtain ⟨q0, q1, q2, q3, qf⟩ := QQ.out.cells
      obtain ⟨p0, p1, p2, p3, pf⟩ := KK.out.2.cells
      have hnl : Hid (s.size - i - DR.length = n) := by show _ = _; rw [← N4.out, suf_len]; omega
      have hsl : ∀ w', Sem.run Tryd.prog (Instr.slice 9 (.string s) (some (.int .i64 (i : Int))) (some (.int .i64 ((i : Int) + (n : Int)))) none) w' = .ok (.string ⟨NM.toArray⟩) w' := one_slice n1 N3.out
      have zi0 : (0 : Int) ≤ (i : Int) ∧ (i : Int) < (s.size : Int) := ⟨by omega, by omega⟩
      go_wp2_with (first | (go_at_call 23; refine (small_any c _ HS1.out).mono ?_; rintro e w' ⟨rfl, hw'⟩; rw [hw']; clear hw' w') | (go_at_call 24; refine (great_any c _ HG1.out).mono ?_; rintro e w' ⟨rfl, hw'⟩; rw [hw']; clear hw' w') | (go_at_call 25; refine (digit_any c _ HD1.out).mono ?_; rintro e w' ⟨rfl, hw'⟩; rw [hw']; clear hw' w') | (go_at_call 29; refine (HX.out _).mono ?_; rintro e w6 ⟨rfl, hb⟩; have K6 := hidden (KK.out.below hb); have Q6 := hidden (QQ.out.below hb); obtain ⟨y0, y1, y2, y3, yf⟩ := Q6.out.cells; obtain ⟨x0, x1, x2, x3, xf⟩ := K6.out.2.cells; clear hb))
      have HT3 : Hid (T = .error 20) := HT2.out
      obtain ⟨D1, D2⟩ := (K6.out).fin 0 i 0 ⟨#[]⟩
      refine bodyPost_ret (one_results D1 _ rfl rfl rfl) rfl ?_
      rw [HT3.out]
      exact ⟨⟨_, _, _, _, rfl⟩, D2⟩
end Go.Proofs.YtapecobalkjdhaaDoor
