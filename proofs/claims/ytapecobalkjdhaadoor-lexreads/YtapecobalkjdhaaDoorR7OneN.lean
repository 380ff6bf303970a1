/-
  Layer 7, the document's own lex: a token at a place: names. Condition: the place is within the source.
-/
import Derived.Test.YtapecobalkjdhaaDoorR7OneA
namespace Go.Proofs.YtapecobalkjdhaaDoor
open Go.ChangeShapes Go.WideShapes Go.ChangeAt Go.RowKit Go.Deep
set_option linter.unusedVariables false
set_option linter.unusedSimpArgs false
set_option maxHeartbeats 4000000
set_option maxRecDepth 20000

theorem one_great {c : UInt8} (s : ByteArray) (i : Nat) (w : World) (hi : i < s.size) (hs : s.size ≤ 900000) (hc0 : s[i] = c) (hsm : (smallB c || greatB c) = true) (hgr : greatB c = true) : Calls Tryd.prog 18 #[.string s, .int .i64 (i : Int)] w fun e w' => OneAs (tokAt docW (suf s i)) s i w e w' := by
  obtain ⟨T, hT⟩ : ∃ T, tokAt docW (suf s i) = T := ⟨_, rfl⟩
  have e0 := suf_cons s hi
  rw [hc0] at e0
  have E0 := hidden e0
  have HC := hidden hc0
  obtain ⟨NM, hNM⟩ : ∃ NM, (suf s i).takeWhile nameB = NM := ⟨_, rfl⟩
  obtain ⟨DR, hDR⟩ : ∃ DR, (suf s i).dropWhile nameB = DR := ⟨_, rfl⟩
  have HNM := hidden hNM
  have HDR := hidden hDR
  have hnc : nameB c = true := by unfold nameB; rw [Bool.or_eq_true] at hsm; rcases hsm with e | e <;> simp [e]
  have hNMc : NM = c :: (suf s (i + 1)).takeWhile nameB := by rw [← hNM, e0, List.takeWhile_cons, hnc]; rfl
  have ht : T = .ok (⟨kindL NM, NM, 0⟩, DR) := by
    rw [← hT, ← hNM, ← hDR, e0]
    unfold tokAt kindL
    simp only [if_pos hsm]
    rw [List.takeWhile_cons, hnc]
    rfl
  have HT2 := hidden ht
  have hkl : kindL NM = if greatB c then 4 else if wordsL.contains NM || NM == [95] then 5 else 3 := by
    unfold kindL
    rw [show NM.headD 0 = c by rw [hNMc]; rfl]
    rfl
  have HKL := hidden hkl
  clear ht hkl hNMc hnc
  rw [hgr, if_pos rfl] at HKL
  have HG1 := hidden hgr
  have hs1 : smallB c = false := great_small hgr
  have HS1 := hidden hs1
  clear hgr hsm hs1
  rw [hT]
  clear hT e0 hc0 hNM hDR
  go_enter Tryd.func18, Tryd.ntmps18
  go_wp2_with fail
  go_loop [8] (fun nv => ∃ n : Nat, i + n ≤ s.size ∧ nv = .int .i64 (n : Int) ∧ (suf s i).take n ++ (suf s (i + n)).takeWhile nameB = NM ∧ (suf s (i + n)).dropWhile nameB = DR) (fun nv => ((s.size : Int) - intOf nv).toNat)
  case atStart => exact ⟨0, by omega, rfl, by rw [List.take_zero, List.nil_append]; exact HNM.out, HDR.out⟩
  case round =>
    obtain ⟨n, n1, rfl, n3, n4⟩ := hrel
    by_cases hlt : i + n < s.size
    · have zl : (i : Int) + (n : Int) < (s.size : Int) := by omega
      have zb : (0 : Int) ≤ (i : Int) + (n : Int) := by omega
      obtain ⟨d, hd⟩ : ∃ d, s[i + n] = d := ⟨_, rfl⟩
      have next := one_next hlt hd n3 n4
      have stop := one_stop hlt hd n3 n4
      clear n3 n4
      cases h1 : smallB d with
      | true =>
        have H1 := hidden h1
        obtain ⟨a3, a4⟩ := next (by unfold nameB; rw [h1]; rfl)
        have N3 := hidden a3
        have N4 := hidden a4
        clear next stop a3 a4 h1
        go_wp2_with (go_at_call 23; refine (small_any _ _ H1.out).mono ?_; rintro e w' ⟨rfl, hw'⟩; rw [hw']; clear hw' w')
        go_round
        case rel => exact ⟨n + 1, by omega, by go_num, N3.out, N4.out⟩
        case measure => simp [intOf]; omega
      | false =>
        cases h2 : greatB d with
        | true =>
          have H1 := hidden h1
          have H2 := hidden h2
          obtain ⟨a3, a4⟩ := next (by unfold nameB; rw [h1, h2]; rfl)
          have N3 := hidden a3
          have N4 := hidden a4
          clear next stop a3 a4 h1 h2
          go_wp2_with (first | (go_at_call 23; refine (small_any _ _ H1.out).mono ?_; rintro e w' ⟨rfl, hw'⟩; rw [hw']; clear hw' w') | (go_at_call 24; refine (great_any _ _ H2.out).mono ?_; rintro e w' ⟨rfl, hw'⟩; rw [hw']; clear hw' w'))
          go_round
          case rel => exact ⟨n + 1, by omega, by go_num, N3.out, N4.out⟩
          case measure => simp [intOf]; omega
        | false =>
          cases h3 : digitB d with
          | true =>
            have H1 := hidden h1
            have H2 := hidden h2
            have H3 := hidden h3
            obtain ⟨a3, a4⟩ := next (by unfold nameB; rw [h1, h2, h3]; rfl)
            have N3 := hidden a3
            have N4 := hidden a4
            clear next stop a3 a4 h1 h2 h3
            go_wp2_with (first | (go_at_call 23; refine (small_any _ _ H1.out).mono ?_; rintro e w' ⟨rfl, hw'⟩; rw [hw']; clear hw' w') | (go_at_call 24; refine (great_any _ _ H2.out).mono ?_; rintro e w' ⟨rfl, hw'⟩; rw [hw']; clear hw' w') | (go_at_call 25; refine (digit_any _ _ H3.out).mono ?_; rintro e w' ⟨rfl, hw'⟩; rw [hw']; clear hw' w'))
            go_round
            case rel => exact ⟨n + 1, by omega, by go_num, N3.out, N4.out⟩
            case measure => simp [intOf]; omega
          | false =>
            by_cases h39 : d = 39
            · have H1 := hidden h1
              have H2 := hidden h2
              have H3 := hidden h3
              obtain ⟨a3, a4⟩ := next (by rw [h39]; rfl)
              have N3 := hidden a3
              have N4 := hidden a4
              subst h39
              clear next stop a3 a4 h1 h2 h3
              go_wp2_with (first | (go_at_call 23; refine (small_any _ _ H1.out).mono ?_; rintro e w' ⟨rfl, hw'⟩; rw [hw']; clear hw' w') | (go_at_call 24; refine (great_any _ _ H2.out).mono ?_; rintro e w' ⟨rfl, hw'⟩; rw [hw']; clear hw' w') | (go_at_call 25; refine (digit_any _ _ H3.out).mono ?_; rintro e w' ⟨rfl, hw'⟩; rw [hw']; clear hw' w'))
              go_round
              case rel => exact ⟨n + 1, by omega, by go_num, N3.out, N4.out⟩
              case measure => simp [intOf]; omega
            · have H1 := hidden h1
              have H2 := hidden h2
              have H3 := hidden h3
              have g39 : ((d.toNat : Int) == 39) = false := u8_ne (n := 39) (by decide) h39
              obtain ⟨a3, a4⟩ := stop (by unfold nameB; rw [h1, h2, h3]; simpa using h39)
              have N3 := hidden a3
              have N4 := hidden a4
              clear next stop a3 a4 h1 h2 h3 h39
              go_upto_region 5 with (first | (go_at_call 23; refine (small_any _ _ H1.out).mono ?_; rintro e w' ⟨rfl, hw'⟩; rw [hw']; clear hw' w') | (go_at_call 24; refine (great_any _ _ H2.out).mono ?_; rintro e w' ⟨rfl, hw'⟩; rw [hw']; clear hw' w') | (go_at_call 25; refine (digit_any _ _ H3.out).mono ?_; rintro e w' ⟨rfl, hw'⟩; rw [hw']; clear hw' w'))
              clear g39 H1 H2 H3 hd
              have hc := HC.out
              obtain ⟨K1, Q1⟩ := one_start w i
              have KK := hidden K1
              have QQ := hidden Q1
              clear K1 Q1
              generalize (w.alloc (.cells #[.int .i64 0, .int .i64 0, .int .i64 0, .string ⟨#[]⟩] 31)).alloc (.cells #[.int .i64 0, .int .i64 i, .int .i64 0, .string ⟨#[]⟩] 31) = w1 at *
              obtain ⟨q0, q1, q2, q3, qf⟩ := QQ.out.cells
              obtain ⟨p0, p1, p2, p3, pf⟩ := KK.out.2.cells
              have hnl : Hid (s.size - i - DR.length = n) := by show _ = _; rw [← N4.out, suf_len]; omega
              have hsl : ∀ w', Sem.run Tryd.prog (Instr.slice 9 (.string s) (some (.int .i64 (i : Int))) (some (.int .i64 ((i : Int) + (n : Int)))) none) w' = .ok (.string ⟨NM.toArray⟩) w' := one_slice n1 N3.out
              have zi0 : (0 : Int) ≤ (i : Int) ∧ (i : Int) < (s.size : Int) := ⟨by omega, by omega⟩
              go_upto_region 13 with (first | (go_at_call 23; refine (small_any c _ HS1.out).mono ?_; rintro e w' ⟨rfl, hw'⟩; rw [hw']; clear hw' w') | (go_at_call 24; refine (great_any c _ HG1.out).mono ?_; rintro e w' ⟨rfl, hw'⟩; rw [hw']; clear hw' w'))
              have K7 := hidden (((KK.out.set 3 (.string ⟨NM.toArray⟩)).set 0 (.int .i64 3)).set 0 (.int .i64 4))
              have Q7 := hidden (((QQ.out.set3 ⟨NM.toArray⟩).set0 3).set0 4)
              clear KK QQ
              generalize ((w1.setCell ⟨w.heap.size + 1, 3, none⟩ (.string ⟨NM.toArray⟩)).setCell ⟨w.heap.size + 1, 0, none⟩ (.int .i64 3)).setCell ⟨w.heap.size + 1, 0, none⟩ (.int .i64 4) = w7 at *
              obtain ⟨z0, z1, z2, z3, zf⟩ := Q7.out.cells
              obtain ⟨v0, v1, v2, v3, vf⟩ := K7.out.2.cells
              go_wp2_with fail
              obtain ⟨D1, D2⟩ := (K7.out).fin 4 i 0 ⟨NM.toArray⟩
              refine bodyPost_ret (one_results D1 _ rfl rfl rfl) rfl ?_
              rw [HT2.out]
              show _ ∧ _
              rw [hnl.out, HKL.out]
              exact ⟨rfl, D2⟩
    · have zl : ¬ (i : Int) + (n : Int) < (s.size : Int) := by omega
      obtain ⟨a3, a4⟩ := one_out hlt n3 n4
      have N3 := hidden a3
      have N4 := hidden a4
      clear a3 a4 n3 n4
      go_upto_region 5 with fail
      have hc := HC.out
      obtain ⟨K1, Q1⟩ := one_start w i
      have KK := hidden K1
      have QQ := hidden Q1
      clear K1 Q1
      generalize (w.alloc (.cells #[.int .i64 0, .int .i64 0, .int .i64 0, .string ⟨#[]⟩] 31)).alloc (.cells #[.int .i64 0, .int .i64 i, .int .i64 0, .string ⟨#[]⟩] 31) = w1 at *
      obtain ⟨q0, q1, q2, q3, qf⟩ := QQ.out.cells
      obtain ⟨p0, p1, p2, p3, pf⟩ := KK.out.2.cells
      have hnl : Hid (s.size - i - DR.length = n) := by show _ = _; rw [← N4.out, suf_len]; omega
      have hsl : ∀ w', Sem.run Tryd.prog (Instr.slice 9 (.string s) (some (.int .i64 (i : Int))) (some (.int .i64 ((i : Int) + (n : Int)))) none) w' = .ok (.string ⟨NM.toArray⟩) w' := one_slice n1 N3.out
      have zi0 : (0 : Int) ≤ (i : Int) ∧ (i : Int) < (s.size : Int) := ⟨by omega, by omega⟩
      go_upto_region 13 with (first | (go_at_call 23; refine (small_any c _ HS1.out).mono ?_; rintro e w' ⟨rfl, hw'⟩; rw [hw']; clear hw' w') | (go_at_call 24; refine (great_any c _ HG1.out).mono ?_; rintro e w' ⟨rfl, hw'⟩; rw [hw']; clear hw' w'))
      have K7 := hidden (((KK.out.set 3 (.string ⟨NM.toArray⟩)).set 0 (.int .i64 3)).set 0 (.int .i64 4))
      have Q7 := hidden (((QQ.out.set3 ⟨NM.toArray⟩).set0 3).set0 4)
      clear KK QQ
      generalize ((w1.setCell ⟨w.heap.size + 1, 3, none⟩ (.string ⟨NM.toArray⟩)).setCell ⟨w.heap.size + 1, 0, none⟩ (.int .i64 3)).setCell ⟨w.heap.size + 1, 0, none⟩ (.int .i64 4) = w7 at *
      obtain ⟨z0, z1, z2, z3, zf⟩ := Q7.out.cells
      obtain ⟨v0, v1, v2, v3, vf⟩ := K7.out.2.cells
      go_wp2_with fail
      obtain ⟨D1, D2⟩ := (K7.out).fin 4 i 0 ⟨NM.toArray⟩
      refine bodyPost_ret (one_results D1 _ rfl rfl rfl) rfl ?_
      rw [HT2.out]
      show _ ∧ _
      rw [hnl.out, HKL.out]
      exact ⟨rfl, D2⟩
theorem one_word {c : UInt8} (s : ByteArray) (i : Nat) (w : World) (hi : i < s.size) (hs : s.size ≤ 900000) (hc0 : s[i] = c) (hsm : (smallB c || greatB c) = true) (hgr : greatB c = false) (hwd : wordsL.contains ((suf s i).takeWhile nameB) = true) : Calls Tryd.prog 18 #[.string s, .int .i64 (i : Int)] w fun e w' => OneAs (tokAt docW (suf s i)) s i w e w' := by
  obtain ⟨T, hT⟩ : ∃ T, tokAt docW (suf s i) = T := ⟨_, rfl⟩
  have e0 := suf_cons s hi
  rw [hc0] at e0
  have E0 := hidden e0
  have HC := hidden hc0
  obtain ⟨NM, hNM⟩ : ∃ NM, (suf s i).takeWhile nameB = NM := ⟨_, rfl⟩
  obtain ⟨DR, hDR⟩ : ∃ DR, (suf s i).dropWhile nameB = DR := ⟨_, rfl⟩
  have HNM := hidden hNM
  have HDR := hidden hDR
  rw [hNM] at hwd
  have hnc : nameB c = true := by unfold nameB; rw [Bool.or_eq_true] at hsm; rcases hsm with e | e <;> simp [e]
  have hNMc : NM = c :: (suf s (i + 1)).takeWhile nameB := by rw [← hNM, e0, List.takeWhile_cons, hnc]; rfl
  have ht : T = .ok (⟨kindL NM, NM, 0⟩, DR) := by
    rw [← hT, ← hNM, ← hDR, e0]
    unfold tokAt kindL
    simp only [if_pos hsm]
    rw [List.takeWhile_cons, hnc]
    rfl
  have HT2 := hidden ht
  have hkl : kindL NM = if greatB c then 4 else if wordsL.contains NM || NM == [95] then 5 else 3 := by
    unfold kindL
    rw [show NM.headD 0 = c by rw [hNMc]; rfl]
    rfl
  have HKL := hidden hkl
  clear ht hkl hNMc hnc
  rw [hgr, if_neg (by decide)] at HKL
  have HG1 := hidden hgr
  have hs1 : smallB c = true := by rw [hgr, Bool.or_false] at hsm; exact hsm
  have HS1 := hidden hs1
  clear hgr hsm hs1
  have HW := hidden (fun w => isWord_any ⟨NM.toArray⟩ w)
  rw [show wordsL.contains (⟨NM.toArray⟩ : ByteArray).data.toList = true from hwd] at HW
  rw [hwd, Bool.true_or, if_pos rfl] at HKL
  clear hwd
  rw [hT]
  clear hT e0 hc0 hNM hDR
  go_enter Tryd.func18, Tryd.ntmps18
  go_wp2_with fail
  go_loop [8] (fun nv => ∃ n : Nat, i + n ≤ s.size ∧ nv = .int .i64 (n : Int) ∧ (suf s i).take n ++ (suf s (i + n)).takeWhile nameB = NM ∧ (suf s (i + n)).dropWhile nameB = DR) (fun nv => ((s.size : Int) - intOf nv).toNat)
  case atStart => exact ⟨0, by omega, rfl, by rw [List.take_zero, List.nil_append]; exact HNM.out, HDR.out⟩
  case round =>
    obtain ⟨n, n1, rfl, n3, n4⟩ := hrel
    by_cases hlt : i + n < s.size
    · have zl : (i : Int) + (n : Int) < (s.size : Int) := by omega
      have zb : (0 : Int) ≤ (i : Int) + (n : Int) := by omega
      obtain ⟨d, hd⟩ : ∃ d, s[i + n] = d := ⟨_, rfl⟩
      have next := one_next hlt hd n3 n4
      have stop := one_stop hlt hd n3 n4
      clear n3 n4
      cases h1 : smallB d with
      | true =>
        have H1 := hidden h1
        obtain ⟨a3, a4⟩ := next (by unfold nameB; rw [h1]; rfl)
        have N3 := hidden a3
        have N4 := hidden a4
        clear next stop a3 a4 h1
        go_wp2_with (go_at_call 23; refine (small_any _ _ H1.out).mono ?_; rintro e w' ⟨rfl, hw'⟩; rw [hw']; clear hw' w')
        go_round
        case rel => exact ⟨n + 1, by omega, by go_num, N3.out, N4.out⟩
        case measure => simp [intOf]; omega
      | false =>
        cases h2 : greatB d with
        | true =>
          have H1 := hidden h1
          have H2 := hidden h2
          obtain ⟨a3, a4⟩ := next (by unfold nameB; rw [h1, h2]; rfl)
          have N3 := hidden a3
          have N4 := hidden a4
          clear next stop a3 a4 h1 h2
          go_wp2_with (first | (go_at_call 23; refine (small_any _ _ H1.out).mono ?_; rintro e w' ⟨rfl, hw'⟩; rw [hw']; clear hw' w') | (go_at_call 24; refine (great_any _ _ H2.out).mono ?_; rintro e w' ⟨rfl, hw'⟩; rw [hw']; clear hw' w'))
          go_round
          case rel => exact ⟨n + 1, by omega, by go_num, N3.out, N4.out⟩
          case measure => simp [intOf]; omega
        | false =>
          cases h3 : digitB d with
          | true =>
            have H1 := hidden h1
            have H2 := hidden h2
            have H3 := hidden h3
            obtain ⟨a3, a4⟩ := next (by unfold nameB; rw [h1, h2, h3]; rfl)
            have N3 := hidden a3
            have N4 := hidden a4
            clear next stop a3 a4 h1 h2 h3
            go_wp2_with (first | (go_at_call 23; refine (small_any _ _ H1.out).mono ?_; rintro e w' ⟨rfl, hw'⟩; rw [hw']; clear hw' w') | (go_at_call 24; refine (great_any _ _ H2.out).mono ?_; rintro e w' ⟨rfl, hw'⟩; rw [hw']; clear hw' w') | (go_at_call 25; refine (digit_any _ _ H3.out).mono ?_; rintro e w' ⟨rfl, hw'⟩; rw [hw']; clear hw' w'))
            go_round
            case rel => exact ⟨n + 1, by omega, by go_num, N3.out, N4.out⟩
            case measure => simp [intOf]; omega
          | false =>
            by_cases h39 : d = 39
            · have H1 := hidden h1
              have H2 := hidden h2
              have H3 := hidden h3
              obtain ⟨a3, a4⟩ := next (by rw [h39]; rfl)
              have N3 := hidden a3
              have N4 := hidden a4
              subst h39
              clear next stop a3 a4 h1 h2 h3
              go_wp2_with (first | (go_at_call 23; refine (small_any _ _ H1.out).mono ?_; rintro e w' ⟨rfl, hw'⟩; rw [hw']; clear hw' w') | (go_at_call 24; refine (great_any _ _ H2.out).mono ?_; rintro e w' ⟨rfl, hw'⟩; rw [hw']; clear hw' w') | (go_at_call 25; refine (digit_any _ _ H3.out).mono ?_; rintro e w' ⟨rfl, hw'⟩; rw [hw']; clear hw' w'))
              go_round
              case rel => exact ⟨n + 1, by omega, by go_num, N3.out, N4.out⟩
              case measure => simp [intOf]; omega
            · have H1 := hidden h1
              have H2 := hidden h2
              have H3 := hidden h3
              have g39 : ((d.toNat : Int) == 39) = false := u8_ne (n := 39) (by decide) h39
              obtain ⟨a3, a4⟩ := stop (by unfold nameB; rw [h1, h2, h3]; simpa using h39)
              have N3 := hidden a3
              have N4 := hidden a4
              clear next stop a3 a4 h1 h2 h3 h39
              go_upto_region 5 with (first | (go_at_call 23; refine (small_any _ _ H1.out).mono ?_; rintro e w' ⟨rfl, hw'⟩; rw [hw']; clear hw' w') | (go_at_call 24; refine (great_any _ _ H2.out).mono ?_; rintro e w' ⟨rfl, hw'⟩; rw [hw']; clear hw' w') | (go_at_call 25; refine (digit_any _ _ H3.out).mono ?_; rintro e w' ⟨rfl, hw'⟩; rw [hw']; clear hw' w'))
              clear g39 H1 H2 H3 hd
              have hc := HC.out
              obtain ⟨K1, Q1⟩ := one_start w i
              have KK := hidden K1
              have QQ := hidden Q1
              clear K1 Q1
              generalize (w.alloc (.cells #[.int .i64 0, .int .i64 0, .int .i64 0, .string ⟨#[]⟩] 31)).alloc (.cells #[.int .i64 0, .int .i64 i, .int .i64 0, .string ⟨#[]⟩] 31) = w1 at *
              obtain ⟨q0, q1, q2, q3, qf⟩ := QQ.out.cells
              obtain ⟨p0, p1, p2, p3, pf⟩ := KK.out.2.cells
              have hnl : Hid (s.size - i - DR.length = n) := by show _ = _; rw [← N4.out, suf_len]; omega
              have hsl : ∀ w', Sem.run Tryd.prog (Instr.slice 9 (.string s) (some (.int .i64 (i : Int))) (some (.int .i64 ((i : Int) + (n : Int)))) none) w' = .ok (.string ⟨NM.toArray⟩) w' := one_slice n1 N3.out
              have zi0 : (0 : Int) ≤ (i : Int) ∧ (i : Int) < (s.size : Int) := ⟨by omega, by omega⟩
              go_upto_region 13 with (first | (go_at_call 23; refine (small_any c _ HS1.out).mono ?_; rintro e w' ⟨rfl, hw'⟩; rw [hw']; clear hw' w') | (go_at_call 24; refine (great_any c _ HG1.out).mono ?_; rintro e w' ⟨rfl, hw'⟩; rw [hw']; clear hw' w') | (go_at_call 26; refine (HW.out _).mono ?_; rintro e w6 ⟨rfl, hb⟩; have K6 := hidden (((KK.out.set 3 (.string ⟨NM.toArray⟩)).set 0 (.int .i64 3)).below hb); have Q6 := hidden ((((QQ.out.set3 ⟨NM.toArray⟩).set0 3)).below hb); obtain ⟨y0, y1, y2, y3, yf⟩ := Q6.out.cells; obtain ⟨x0, x1, x2, x3, xf⟩ := K6.out.2.cells; clear hb))
              have K7 := hidden (K6.out.set 0 (.int .i64 5))
              have Q7 := hidden (Q6.out.set0 5)
              clear KK QQ
              generalize w6.setCell ⟨w.heap.size + 1, 0, none⟩ (.int .i64 5) = w7 at *
              obtain ⟨z0, z1, z2, z3, zf⟩ := Q7.out.cells
              obtain ⟨v0, v1, v2, v3, vf⟩ := K7.out.2.cells
              go_wp2_with fail
              obtain ⟨D1, D2⟩ := (K7.out).fin 5 i 0 ⟨NM.toArray⟩
              refine bodyPost_ret (one_results D1 _ rfl rfl rfl) rfl ?_
              rw [HT2.out]
              show _ ∧ _
              rw [hnl.out, HKL.out]
              exact ⟨rfl, D2⟩
    · have zl : ¬ (i : Int) + (n : Int) < (s.size : Int) := by omega
      obtain ⟨a3, a4⟩ := one_out hlt n3 n4
      have N3 := hidden a3
      have N4 := hidden a4
      clear a3 a4 n3 n4
      go_upto_region 5 with fail
      have hc := HC.out
      obtain ⟨K1, Q1⟩ := one_start w i
      have KK := hidden K1
      have QQ := hidden Q1
      clear K1 Q1
      generalize (w.alloc (.cells #[.int .i64 0, .int .i64 0, .int .i64 0, .string ⟨#[]⟩] 31)).alloc (.cells #[.int .i64 0, .int .i64 i, .int .i64 0, .string ⟨#[]⟩] 31) = w1 at *
      obtain ⟨q0, q1, q2, q3, qf⟩ := QQ.out.cells
      obtain ⟨p0, p1, p2, p3, pf⟩ := KK.out.2.cells
      have hnl : Hid (s.size - i - DR.length = n) := by show _ = _; rw [← N4.out, suf_len]; omega
      have hsl : ∀ w', Sem.run Tryd.prog (Instr.slice 9 (.string s) (some (.int .i64 (i : Int))) (some (.int .i64 ((i : Int) + (n : Int)))) none) w' = .ok (.string ⟨NM.toArray⟩) w' := one_slice n1 N3.out
      have zi0 : (0 : Int) ≤ (i : Int) ∧ (i : Int) < (s.size : Int) := ⟨by omega, by omega⟩
      go_upto_region 13 with (first | (go_at_call 23; refine (small_any c _ HS1.out).mono ?_; rintro e w' ⟨rfl, hw'⟩; rw [hw']; clear hw' w') | (go_at_call 24; refine (great_any c _ HG1.out).mono ?_; rintro e w' ⟨rfl, hw'⟩; rw [hw']; clear hw' w') | (go_at_call 26; refine (HW.out _).mono ?_; rintro e w6 ⟨rfl, hb⟩; have K6 := hidden (((KK.out.set 3 (.string ⟨NM.toArray⟩)).set 0 (.int .i64 3)).below hb); have Q6 := hidden ((((QQ.out.set3 ⟨NM.toArray⟩).set0 3)).below hb); obtain ⟨y0, y1, y2, y3, yf⟩ := Q6.out.cells; obtain ⟨x0, x1, x2, x3, xf⟩ := K6.out.2.cells; clear hb))
      have K7 := hidden (K6.out.set 0 (.int .i64 5))
      have Q7 := hidden (Q6.out.set0 5)
      clear KK QQ
      generalize w6.setCell ⟨w.heap.size + 1, 0, none⟩ (.int .i64 5) = w7 at *
      obtain ⟨z0, z1, z2, z3, zf⟩ := Q7.out.cells
      obtain ⟨v0, v1, v2, v3, vf⟩ := K7.out.2.cells
      go_wp2_with fail
      obtain ⟨D1, D2⟩ := (K7.out).fin 5 i 0 ⟨NM.toArray⟩
      refine bodyPost_ret (one_results D1 _ rfl rfl rfl) rfl ?_
      rw [HT2.out]
      show _ ∧ _
      rw [hnl.out, HKL.out]
      exact ⟨rfl, D2⟩
theorem one_under {c : UInt8} (s : ByteArray) (i : Nat) (w : World) (hi : i < s.size) (hs : s.size ≤ 900000) (hc0 : s[i] = c) (hsm : (smallB c || greatB c) = true) (hgr : greatB c = false) (hwd : wordsL.contains ((suf s i).takeWhile nameB) = false) (h95 : ((suf s i).takeWhile nameB == [95]) = true) : Calls Tryd.prog 18 #[.string s, .int .i64 (i : Int)] w fun e w' => OneAs (tokAt docW (suf s i)) s i w e w' := by
  obtain ⟨T, hT⟩ : ∃ T, tokAt docW (suf s i) = T := ⟨_, rfl⟩
  have e0 := suf_cons s hi
  rw [hc0] at e0
  have E0 := hidden e0
  have HC := hidden hc0
  obtain ⟨NM, hNM⟩ : ∃ NM, (suf s i).takeWhile nameB = NM := ⟨_, rfl⟩
  obtain ⟨DR, hDR⟩ : ∃ DR, (suf s i).dropWhile nameB = DR := ⟨_, rfl⟩
  have HNM := hidden hNM
  have HDR := hidden hDR
  rw [hNM] at hwd h95
  have hnc : nameB c = true := by unfold nameB; rw [Bool.or_eq_true] at hsm; rcases hsm with e | e <;> simp [e]
  have hNMc : NM = c :: (suf s (i + 1)).takeWhile nameB := by rw [← hNM, e0, List.takeWhile_cons, hnc]; rfl
  have ht : T = .ok (⟨kindL NM, NM, 0⟩, DR) := by
    rw [← hT, ← hNM, ← hDR, e0]
    unfold tokAt kindL
    simp only [if_pos hsm]
    rw [List.takeWhile_cons, hnc]
    rfl
  have HT2 := hidden ht
  have hkl : kindL NM = if greatB c then 4 else if wordsL.contains NM || NM == [95] then 5 else 3 := by
    unfold kindL
    rw [show NM.headD 0 = c by rw [hNMc]; rfl]
    rfl
  have HKL := hidden hkl
  clear ht hkl hNMc hnc
  rw [hgr, if_neg (by decide)] at HKL
  have HG1 := hidden hgr
  have hs1 : smallB c = true := by rw [hgr, Bool.or_false] at hsm; exact hsm
  have HS1 := hidden hs1
  clear hgr hsm hs1
  have HW := hidden (fun w => isWord_any ⟨NM.toArray⟩ w)
  rw [show wordsL.contains (⟨NM.toArray⟩ : ByteArray).data.toList = false from hwd] at HW
  rw [hwd, Bool.false_or, h95] at HKL
  rw [if_pos rfl] at HKL
  clear hwd
  rw [hT]
  clear hT e0 hc0 hNM hDR
  go_enter Tryd.func18, Tryd.ntmps18
  go_wp2_with fail
  go_loop [8] (fun nv => ∃ n : Nat, i + n ≤ s.size ∧ nv = .int .i64 (n : Int) ∧ (suf s i).take n ++ (suf s (i + n)).takeWhile nameB = NM ∧ (suf s (i + n)).dropWhile nameB = DR) (fun nv => ((s.size : Int) - intOf nv).toNat)
  case atStart => exact ⟨0, by omega, rfl, by rw [List.take_zero, List.nil_append]; exact HNM.out, HDR.out⟩
  case round =>
    obtain ⟨n, n1, rfl, n3, n4⟩ := hrel
    by_cases hlt : i + n < s.size
    · have zl : (i : Int) + (n : Int) < (s.size : Int) := by omega
      have zb : (0 : Int) ≤ (i : Int) + (n : Int) := by omega
      obtain ⟨d, hd⟩ : ∃ d, s[i + n] = d := ⟨_, rfl⟩
      have next := one_next hlt hd n3 n4
      have stop := one_stop hlt hd n3 n4
      clear n3 n4
      cases h1 : smallB d with
      | true =>
        have H1 := hidden h1
        obtain ⟨a3, a4⟩ := next (by unfold nameB; rw [h1]; rfl)
        have N3 := hidden a3
        have N4 := hidden a4
        clear next stop a3 a4 h1
        go_wp2_with (go_at_call 23; refine (small_any _ _ H1.out).mono ?_; rintro e w' ⟨rfl, hw'⟩; rw [hw']; clear hw' w')
        go_round
        case rel => exact ⟨n + 1, by omega, by go_num, N3.out, N4.out⟩
        case measure => simp [intOf]; omega
      | false =>
        cases h2 : greatB d with
        | true =>
          have H1 := hidden h1
          have H2 := hidden h2
          obtain ⟨a3, a4⟩ := next (by unfold nameB; rw [h1, h2]; rfl)
          have N3 := hidden a3
          have N4 := hidden a4
          clear next stop a3 a4 h1 h2
          go_wp2_with (first | (go_at_call 23; refine (small_any _ _ H1.out).mono ?_; rintro e w' ⟨rfl, hw'⟩; rw [hw']; clear hw' w') | (go_at_call 24; refine (great_any _ _ H2.out).mono ?_; rintro e w' ⟨rfl, hw'⟩; rw [hw']; clear hw' w'))
          go_round
          case rel => exact ⟨n + 1, by omega, by go_num, N3.out, N4.out⟩
          case measure => simp [intOf]; omega
        | false =>
          cases h3 : digitB d with
          | true =>
            have H1 := hidden h1
            have H2 := hidden h2
            have H3 := hidden h3
            obtain ⟨a3, a4⟩ := next (by unfold nameB; rw [h1, h2, h3]; rfl)
            have N3 := hidden a3
            have N4 := hidden a4
            clear next stop a3 a4 h1 h2 h3
            go_wp2_with (first | (go_at_call 23; refine (small_any _ _ H1.out).mono ?_; rintro e w' ⟨rfl, hw'⟩; rw [hw']; clear hw' w') | (go_at_call 24; refine (great_any _ _ H2.out).mono ?_; rintro e w' ⟨rfl, hw'⟩; rw [hw']; clear hw' w') | (go_at_call 25; refine (digit_any _ _ H3.out).mono ?_; rintro e w' ⟨rfl, hw'⟩; rw [hw']; clear hw' w'))
            go_round
            case rel => exact ⟨n + 1, by omega, by go_num, N3.out, N4.out⟩
            case measure => simp [intOf]; omega
          | false =>
            by_cases h39 : d = 39
            · have H1 := hidden h1
              have H2 := hidden h2
              have H3 := hidden h3
              obtain ⟨a3, a4⟩ := next (by rw [h39]; rfl)
              have N3 := hidden a3
              have N4 := hidden a4
              subst h39
              clear next stop a3 a4 h1 h2 h3
              go_wp2_with (first | (go_at_call 23; refine (small_any _ _ H1.out).mono ?_; rintro e w' ⟨rfl, hw'⟩; rw [hw']; clear hw' w') | (go_at_call 24; refine (great_any _ _ H2.out).mono ?_; rintro e w' ⟨rfl, hw'⟩; rw [hw']; clear hw' w') | (go_at_call 25; refine (digit_any _ _ H3.out).mono ?_; rintro e w' ⟨rfl, hw'⟩; rw [hw']; clear hw' w'))
              go_round
              case rel => exact ⟨n + 1, by omega, by go_num, N3.out, N4.out⟩
              case measure => simp [intOf]; omega
            · have H1 := hidden h1
              have H2 := hidden h2
              have H3 := hidden h3
              have g39 : ((d.toNat : Int) == 39) = false := u8_ne (n := 39) (by decide) h39
              obtain ⟨a3, a4⟩ := stop (by unfold nameB; rw [h1, h2, h3]; simpa using h39)
              have N3 := hidden a3
              have N4 := hidden a4
              clear next stop a3 a4 h1 h2 h3 h39
              go_upto_region 5 with (first | (go_at_call 23; refine (small_any _ _ H1.out).mono ?_; rintro e w' ⟨rfl, hw'⟩; rw [hw']; clear hw' w') | (go_at_call 24; refine (great_any _ _ H2.out).mono ?_; rintro e w' ⟨rfl, hw'⟩; rw [hw']; clear hw' w') | (go_at_call 25; refine (digit_any _ _ H3.out).mono ?_; rintro e w' ⟨rfl, hw'⟩; rw [hw']; clear hw' w'))
              clear g39 H1 H2 H3 hd
              have hc := HC.out
              obtain ⟨K1, Q1⟩ := one_start w i
              have KK := hidden K1
              have QQ := hidden Q1
              clear K1 Q1
              generalize (w.alloc (.cells #[.int .i64 0, .int .i64 0, .int .i64 0, .string ⟨#[]⟩] 31)).alloc (.cells #[.int .i64 0, .int .i64 i, .int .i64 0, .string ⟨#[]⟩] 31) = w1 at *
              obtain ⟨q0, q1, q2, q3, qf⟩ := QQ.out.cells
              obtain ⟨p0, p1, p2, p3, pf⟩ := KK.out.2.cells
              have hnl : Hid (s.size - i - DR.length = n) := by show _ = _; rw [← N4.out, suf_len]; omega
              have hsl : ∀ w', Sem.run Tryd.prog (Instr.slice 9 (.string s) (some (.int .i64 (i : Int))) (some (.int .i64 ((i : Int) + (n : Int)))) none) w' = .ok (.string ⟨NM.toArray⟩) w' := one_slice n1 N3.out
              have zi0 : (0 : Int) ≤ (i : Int) ∧ (i : Int) < (s.size : Int) := ⟨by omega, by omega⟩
              go_upto_region 13 with (first | (go_at_call 23; refine (small_any c _ HS1.out).mono ?_; rintro e w' ⟨rfl, hw'⟩; rw [hw']; clear hw' w') | (go_at_call 24; refine (great_any c _ HG1.out).mono ?_; rintro e w' ⟨rfl, hw'⟩; rw [hw']; clear hw' w') | (go_at_call 26; refine (HW.out _).mono ?_; rintro e w6 ⟨rfl, hb⟩; have K6 := hidden (((KK.out.set 3 (.string ⟨NM.toArray⟩)).set 0 (.int .i64 3)).below hb); have Q6 := hidden ((((QQ.out.set3 ⟨NM.toArray⟩).set0 3)).below hb); obtain ⟨y0, y1, y2, y3, yf⟩ := Q6.out.cells; obtain ⟨x0, x1, x2, x3, xf⟩ := K6.out.2.cells; clear hb))
              have K7 := hidden (K6.out.set 0 (.int .i64 5))
              have Q7 := hidden (Q6.out.set0 5)
              clear KK QQ
              generalize w6.setCell ⟨w.heap.size + 1, 0, none⟩ (.int .i64 5) = w7 at *
              obtain ⟨z0, z1, z2, z3, zf⟩ := Q7.out.cells
              obtain ⟨v0, v1, v2, v3, vf⟩ := K7.out.2.cells
              go_wp2_with fail
              obtain ⟨D1, D2⟩ := (K7.out).fin 5 i 0 ⟨NM.toArray⟩
              refine bodyPost_ret (one_results D1 _ rfl rfl rfl) rfl ?_
              rw [HT2.out]
              show _ ∧ _
              rw [hnl.out, HKL.out]
              exact ⟨rfl, D2⟩
    · have zl : ¬ (i : Int) + (n : Int) < (s.size : Int) := by omega
      obtain ⟨a3, a4⟩ := one_out hlt n3 n4
      have N3 := hidden a3
      have N4 := hidden a4
      clear a3 a4 n3 n4
      go_upto_region 5 with fail
      have hc := HC.out
      obtain ⟨K1, Q1⟩ := one_start w i
      have KK := hidden K1
      have QQ := hidden Q1
      clear K1 Q1
      generalize (w.alloc (.cells #[.int .i64 0, .int .i64 0, .int .i64 0, .string ⟨#[]⟩] 31)).alloc (.cells #[.int .i64 0, .int .i64 i, .int .i64 0, .string ⟨#[]⟩] 31) = w1 at *
      obtain ⟨q0, q1, q2, q3, qf⟩ := QQ.out.cells
      obtain ⟨p0, p1, p2, p3, pf⟩ := KK.out.2.cells
      have hnl : Hid (s.size - i - DR.length = n) := by show _ = _; rw [← N4.out, suf_len]; omega
      have hsl : ∀ w', Sem.run Tryd.prog (Instr.slice 9 (.string s) (some (.int .i64 (i : Int))) (some (.int .i64 ((i : Int) + (n : Int)))) none) w' = .ok (.string ⟨NM.toArray⟩) w' := one_slice n1 N3.out
      have zi0 : (0 : Int) ≤ (i : Int) ∧ (i : Int) < (s.size : Int) := ⟨by omega, by omega⟩
      go_upto_region 13 with (first | (go_at_call 23; refine (small_any c _ HS1.out).mono ?_; rintro e w' ⟨rfl, hw'⟩; rw [hw']; clear hw' w') | (go_at_call 24; refine (great_any c _ HG1.out).mono ?_; rintro e w' ⟨rfl, hw'⟩; rw [hw']; clear hw' w') | (go_at_call 26; refine (HW.out _).mono ?_; rintro e w6 ⟨rfl, hb⟩; have K6 := hidden (((KK.out.set 3 (.string ⟨NM.toArray⟩)).set 0 (.int .i64 3)).below hb); have Q6 := hidden ((((QQ.out.set3 ⟨NM.toArray⟩).set0 3)).below hb); obtain ⟨y0, y1, y2, y3, yf⟩ := Q6.out.cells; obtain ⟨x0, x1, x2, x3, xf⟩ := K6.out.2.cells; clear hb))
      have K7 := hidden (K6.out.set 0 (.int .i64 5))
      have Q7 := hidden (Q6.out.set0 5)
      clear KK QQ
      generalize w6.setCell ⟨w.heap.size + 1, 0, none⟩ (.int .i64 5) = w7 at *
      obtain ⟨z0, z1, z2, z3, zf⟩ := Q7.out.cells
      obtain ⟨v0, v1, v2, v3, vf⟩ := K7.out.2.cells
      go_wp2_with fail
      obtain ⟨D1, D2⟩ := (K7.out).fin 5 i 0 ⟨NM.toArray⟩
      refine bodyPost_ret (one_results D1 _ rfl rfl rfl) rfl ?_
      rw [HT2.out]
      show _ ∧ _
      rw [hnl.out, HKL.out]
      exact ⟨rfl, D2⟩
theorem one_name {c : UInt8} (s : ByteArray) (i : Nat) (w : World) (hi : i < s.size) (hs : s.size ≤ 900000) (hc0 : s[i] = c) (hsm : (smallB c || greatB c) = true) (hgr : greatB c = false) (hwd : wordsL.contains ((suf s i).takeWhile nameB) = false) (h95 : ((suf s i).takeWhile nameB == [95]) = false) : Calls Tryd.prog 18 #[.string s, .int .i64 (i : Int)] w fun e w' => OneAs (tokAt docW (suf s i)) s i w e w' := by
  obtain ⟨T, hT⟩ : ∃ T, tokAt docW (suf s i) = T := ⟨_, rfl⟩
  have e0 := suf_cons s hi
  rw [hc0] at e0
  have E0 := hidden e0
  have HC := hidden hc0
  obtain ⟨NM, hNM⟩ : ∃ NM, (suf s i).takeWhile nameB = NM := ⟨_, rfl⟩
  obtain ⟨DR, hDR⟩ : ∃ DR, (suf s i).dropWhile nameB = DR := ⟨_, rfl⟩
  have HNM := hidden hNM
  have HDR := hidden hDR
  rw [hNM] at hwd h95
  have hnc : nameB c = true := by unfold nameB; rw [Bool.or_eq_true] at hsm; rcases hsm with e | e <;> simp [e]
  have hNMc : NM = c :: (suf s (i + 1)).takeWhile nameB := by rw [← hNM, e0, List.takeWhile_cons, hnc]; rfl
  have ht : T = .ok (⟨kindL NM, NM, 0⟩, DR) := by
    rw [← hT, ← hNM, ← hDR, e0]
    unfold tokAt kindL
    simp only [if_pos hsm]
    rw [List.takeWhile_cons, hnc]
    rfl
  have HT2 := hidden ht
  have hkl : kindL NM = if greatB c then 4 else if wordsL.contains NM || NM == [95] then 5 else 3 := by
    unfold kindL
    rw [show NM.headD 0 = c by rw [hNMc]; rfl]
    rfl
  have HKL := hidden hkl
  clear ht hkl hNMc hnc
  rw [hgr, if_neg (by decide)] at HKL
  have HG1 := hidden hgr
  have hs1 : smallB c = true := by rw [hgr, Bool.or_false] at hsm; exact hsm
  have HS1 := hidden hs1
  clear hgr hsm hs1
  have HW := hidden (fun w => isWord_any ⟨NM.toArray⟩ w)
  rw [show wordsL.contains (⟨NM.toArray⟩ : ByteArray).data.toList = false from hwd] at HW
  rw [hwd, Bool.false_or, h95] at HKL
  rw [if_neg (by decide)] at HKL
  clear hwd
  rw [hT]
  clear hT e0 hc0 hNM hDR
  go_enter Tryd.func18, Tryd.ntmps18
  go_wp2_with fail
  go_loop [8] (fun nv => ∃ n : Nat, i + n ≤ s.size ∧ nv = .int .i64 (n : Int) ∧ (suf s i).take n ++ (suf s (i + n)).takeWhile nameB = NM ∧ (suf s (i + n)).dropWhile nameB = DR) (fun nv => ((s.size : Int) - intOf nv).toNat)
  case atStart => exact ⟨0, by omega, rfl, by rw [List.take_zero, List.nil_append]; exact HNM.out, HDR.out⟩
  case round =>
    obtain ⟨n, n1, rfl, n3, n4⟩ := hrel
    by_cases hlt : i + n < s.size
    · have zl : (i : Int) + (n : Int) < (s.size : Int) := by omega
      have zb : (0 : Int) ≤ (i : Int) + (n : Int) := by omega
      obtain ⟨d, hd⟩ : ∃ d, s[i + n] = d := ⟨_, rfl⟩
      have next := one_next hlt hd n3 n4
      have stop := one_stop hlt hd n3 n4
      clear n3 n4
      cases h1 : smallB d with
      | true =>
        have H1 := hidden h1
        obtain ⟨a3, a4⟩ := next (by unfold nameB; rw [h1]; rfl)
        have N3 := hidden a3
        have N4 := hidden a4
        clear next stop a3 a4 h1
        go_wp2_with (go_at_call 23; refine (small_any _ _ H1.out).mono ?_; rintro e w' ⟨rfl, hw'⟩; rw [hw']; clear hw' w')
        go_round
        case rel => exact ⟨n + 1, by omega, by go_num, N3.out, N4.out⟩
        case measure => simp [intOf]; omega
      | false =>
        cases h2 : greatB d with
        | true =>
          have H1 := hidden h1
          have H2 := hidden h2
          obtain ⟨a3, a4⟩ := next (by unfold nameB; rw [h1, h2]; rfl)
          have N3 := hidden a3
          have N4 := hidden a4
          clear next stop a3 a4 h1 h2
          go_wp2_with (first | (go_at_call 23; refine (small_any _ _ H1.out).mono ?_; rintro e w' ⟨rfl, hw'⟩; rw [hw']; clear hw' w') | (go_at_call 24; refine (great_any _ _ H2.out).mono ?_; rintro e w' ⟨rfl, hw'⟩; rw [hw']; clear hw' w'))
          go_round
          case rel => exact ⟨n + 1, by omega, by go_num, N3.out, N4.out⟩
          case measure => simp [intOf]; omega
        | false =>
          cases h3 : digitB d with
          | true =>
            have H1 := hidden h1
            have H2 := hidden h2
            have H3 := hidden h3
            obtain ⟨a3, a4⟩ := next (by unfold nameB; rw [h1, h2, h3]; rfl)
            have N3 := hidden a3
            have N4 := hidden a4
            clear next stop a3 a4 h1 h2 h3
            go_wp2_with (first | (go_at_call 23; refine (small_any _ _ H1.out).mono ?_; rintro e w' ⟨rfl, hw'⟩; rw [hw']; clear hw' w') | (go_at_call 24; refine (great_any _ _ H2.out).mono ?_; rintro e w' ⟨rfl, hw'⟩; rw [hw']; clear hw' w') | (go_at_call 25; refine (digit_any _ _ H3.out).mono ?_; rintro e w' ⟨rfl, hw'⟩; rw [hw']; clear hw' w'))
            go_round
            case rel => exact ⟨n + 1, by omega, by go_num, N3.out, N4.out⟩
            case measure => simp [intOf]; omega
          | false =>
            by_cases h39 : d = 39
            · have H1 := hidden h1
              have H2 := hidden h2
              have H3 := hidden h3
              obtain ⟨a3, a4⟩ := next (by rw [h39]; rfl)
              have N3 := hidden a3
              have N4 := hidden a4
              subst h39
              clear next stop a3 a4 h1 h2 h3
              go_wp2_with (first | (go_at_call 23; refine (small_any _ _ H1.out).mono ?_; rintro e w' ⟨rfl, hw'⟩; rw [hw']; clear hw' w') | (go_at_call 24; refine (great_any _ _ H2.out).mono ?_; rintro e w' ⟨rfl, hw'⟩; rw [hw']; clear hw' w') | (go_at_call 25; refine (digit_any _ _ H3.out).mono ?_; rintro e w' ⟨rfl, hw'⟩; rw [hw']; clear hw' w'))
              go_round
              case rel => exact ⟨n + 1, by omega, by go_num, N3.out, N4.out⟩
              case measure => simp [intOf]; omega
            · have H1 := hidden h1
              have H2 := hidden h2
              have H3 := hidden h3
              have g39 : ((d.toNat : Int) == 39) = false := u8_ne (n := 39) (by decide) h39
              obtain ⟨a3, a4⟩ := stop (by unfold nameB; rw [h1, h2, h3]; simpa using h39)
              have N3 := hidden a3
              have N4 := hidden a4
              clear next stop a3 a4 h1 h2 h3 h39
              go_upto_region 5 with (first | (go_at_call 23; refine (small_any _ _ H1.out).mono ?_; rintro e w' ⟨rfl, hw'⟩; rw [hw']; clear hw' w') | (go_at_call 24; refine (great_any _ _ H2.out).mono ?_; rintro e w' ⟨rfl, hw'⟩; rw [hw']; clear hw' w') | (go_at_call 25; refine (digit_any _ _ H3.out).mono ?_; rintro e w' ⟨rfl, hw'⟩; rw [hw']; clear hw' w'))
              clear g39 H1 H2 H3 hd
              have hc := HC.out
              obtain ⟨K1, Q1⟩ := one_start w i
              have KK := hidden K1
              have QQ := hidden Q1
              clear K1 Q1
              generalize (w.alloc (.cells #[.int .i64 0, .int .i64 0, .int .i64 0, .string ⟨#[]⟩] 31)).alloc (.cells #[.int .i64 0, .int .i64 i, .int .i64 0, .string ⟨#[]⟩] 31) = w1 at *
              obtain ⟨q0, q1, q2, q3, qf⟩ := QQ.out.cells
              obtain ⟨p0, p1, p2, p3, pf⟩ := KK.out.2.cells
              have hnl : Hid (s.size - i - DR.length = n) := by show _ = _; rw [← N4.out, suf_len]; omega
              have hsl : ∀ w', Sem.run Tryd.prog (Instr.slice 9 (.string s) (some (.int .i64 (i : Int))) (some (.int .i64 ((i : Int) + (n : Int)))) none) w' = .ok (.string ⟨NM.toArray⟩) w' := one_slice n1 N3.out
              have zi0 : (0 : Int) ≤ (i : Int) ∧ (i : Int) < (s.size : Int) := ⟨by omega, by omega⟩
              go_upto_region 13 with (first | (go_at_call 23; refine (small_any c _ HS1.out).mono ?_; rintro e w' ⟨rfl, hw'⟩; rw [hw']; clear hw' w') | (go_at_call 24; refine (great_any c _ HG1.out).mono ?_; rintro e w' ⟨rfl, hw'⟩; rw [hw']; clear hw' w') | (go_at_call 26; refine (HW.out _).mono ?_; rintro e w6 ⟨rfl, hb⟩; have K6 := hidden (((KK.out.set 3 (.string ⟨NM.toArray⟩)).set 0 (.int .i64 3)).below hb); have Q6 := hidden ((((QQ.out.set3 ⟨NM.toArray⟩).set0 3)).below hb); obtain ⟨y0, y1, y2, y3, yf⟩ := Q6.out.cells; obtain ⟨x0, x1, x2, x3, xf⟩ := K6.out.2.cells; clear hb))
              go_wp2_with fail
              obtain ⟨D1, D2⟩ := (K6.out).fin 3 i 0 ⟨NM.toArray⟩
              refine bodyPost_ret (one_results D1 _ rfl rfl rfl) rfl ?_
              rw [HT2.out]
              show _ ∧ _
              rw [hnl.out, HKL.out]
              exact ⟨rfl, D2⟩
    · have zl : ¬ (i : Int) + (n : Int) < (s.size : Int) := by omega
      obtain ⟨a3, a4⟩ := one_out hlt n3 n4
      have N3 := hidden a3
      have N4 := hidden a4
      clear a3 a4 n3 n4
      go_upto_region 5 with fail
      have hc := HC.out
      obtain ⟨K1, Q1⟩ := one_start w i
      have KK := hidden K1
      have QQ := hidden Q1
      clear K1 Q1
      generalize (w.alloc (.cells #[.int .i64 0, .int .i64 0, .int .i64 0, .string ⟨#[]⟩] 31)).alloc (.cells #[.int .i64 0, .int .i64 i, .int .i64 0, .string ⟨#[]⟩] 31) = w1 at *
      obtain ⟨q0, q1, q2, q3, qf⟩ := QQ.out.cells
      obtain ⟨p0, p1, p2, p3, pf⟩ := KK.out.2.cells
      have hnl : Hid (s.size - i - DR.length = n) := by show _ = _; rw [← N4.out, suf_len]; omega
      have hsl : ∀ w', Sem.run Tryd.prog (Instr.slice 9 (.string s) (some (.int .i64 (i : Int))) (some (.int .i64 ((i : Int) + (n : Int)))) none) w' = .ok (.string ⟨NM.toArray⟩) w' := one_slice n1 N3.out
      have zi0 : (0 : Int) ≤ (i : Int) ∧ (i : Int) < (s.size : Int) := ⟨by omega, by omega⟩
      go_upto_region 13 with (first | (go_at_call 23; refine (small_any c _ HS1.out).mono ?_; rintro e w' ⟨rfl, hw'⟩; rw [hw']; clear hw' w') | (go_at_call 24; refine (great_any c _ HG1.out).mono ?_; rintro e w' ⟨rfl, hw'⟩; rw [hw']; clear hw' w') | (go_at_call 26; refine (HW.out _).mono ?_; rintro e w6 ⟨rfl, hb⟩; have K6 := hidden (((KK.out.set 3 (.string ⟨NM.toArray⟩)).set 0 (.int .i64 3)).below hb); have Q6 := hidden ((((QQ.out.set3 ⟨NM.toArray⟩).set0 3)).below hb); obtain ⟨y0, y1, y2, y3, yf⟩ := Q6.out.cells; obtain ⟨x0, x1, x2, x3, xf⟩ := K6.out.2.cells; clear hb))
      go_wp2_with fail
      obtain ⟨D1, D2⟩ := (K6.out).fin 3 i 0 ⟨NM.toArray⟩
      refine bodyPost_ret (one_results D1 _ rfl rfl rfl) rfl ?_
      rw [HT2.out]
      show _ ∧ _
      rw [hnl.out, HKL.out]
      exact ⟨rfl, D2⟩
end Go.Proofs.YtapecobalkjdhaaDoor
