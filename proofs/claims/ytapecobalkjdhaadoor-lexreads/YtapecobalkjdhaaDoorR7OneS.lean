/-
  Layer 7, the document's own lex: a token at a place: signs. Condition: the place is within the source.
-/
import Derived.Test.YtapecobalkjdhaaDoorR7OneA
namespace Go.Proofs.YtapecobalkjdhaaDoor
open Go.ChangeShapes Go.WideShapes Go.ChangeAt Go.RowKit Go.Deep
set_option linter.unusedVariables false
set_option linter.unusedSimpArgs false
set_option maxHeartbeats 4000000
set_option maxRecDepth 20000

theorem find_at {L : List (List UInt8)} {p : List UInt8 → Bool} : ∀ {k : Nat}, k < L.length → p (L.getD k []) = true → (∀ j, j < k → p (L.getD j []) = false) → L.find? p = some (L.getD k []) := by
  induction L with
  | nil => intro k h; simp at h
  | cons a L ih =>
    intro k h hk hj
    cases k with
    | zero => rw [List.find?_cons]; simp only [List.getD_cons_zero] at hk ⊢; rw [hk]
    | succ k =>
      have := hj 0 (by omega)
      simp only [List.getD_cons_zero] at this
      simp only [List.getD_cons_succ] at hk ⊢
      rw [List.find?_cons, this]
      exact ih (by simpa using h) hk fun j h => by have := hj (j + 1) (by omega); simpa only [List.getD_cons_succ] using this
theorem find_no {L : List (List UInt8)} {p : List UInt8 → Bool} (h : ∀ j, j < L.length → p (L.getD j []) = false) : L.find? p = none := by
  rw [List.find?_eq_none]
  intro x hx
  obtain ⟨j, hj, e⟩ := List.mem_iff_getElem.1 hx
  have := h j hj
  rw [getD_at hj, e] at this
  rw [this]
  decide
theorem Kept.drew {w w6 : World} (h : Kept w w6) : Kept w w6.drew := ⟨h.1.drew, h.2⟩
theorem cell_blk {w w' : World} {g o : Nat} (h : w'.heap[g]? = w.heap[g]?) : w'.cell? ⟨g, o, none⟩ = w.cell? ⟨g, o, none⟩ := by simp [World.cell?, h]
theorem signs_len {k : Nat} (h : k < 33) : (⟨(signsL.getD k []).toArray⟩ : ByteArray).size ≤ 1000000 := by
  have : ∀ k, k < 33 → (signsL.getD k []).length ≤ 2 := by decide
  show (signsL.getD k []).toArray.size ≤ _
  rw [List.size_toArray]
  have := this k h
  omega
theorem one_sign {c : UInt8} (s : ByteArray) (i : Nat) (w : World) (hi : i < s.size) (hs : s.size ≤ 900000) (hc0 : s[i] = c) (hsg : smallB c = false ∧ greatB c = false) (hdg : digitB c = false) (h34 : c ≠ 34) : Calls Tryd.prog 18 #[.string s, .int .i64 (i : Int)] w fun e w' => OneAs (tokAt docW (suf s i)) s i w e w' := by
  obtain ⟨T, hT⟩ : ∃ T, tokAt docW (suf s i) = T := ⟨_, rfl⟩
  have e0 := suf_cons s hi
  rw [hc0] at e0
  have E0 := hidden e0
  have HC := hidden hc0
  obtain ⟨NM, hNM⟩ : ∃ NM, (suf s i).takeWhile nameB = NM := ⟨_, rfl⟩
  obtain ⟨DR, hDR⟩ : ∃ DR, (suf s i).dropWhile nameB = DR := ⟨_, rfl⟩
  have HNM := hidden hNM
  have HDR := hidden hDR
  have hs1 : smallB c = false := hsg.1
  have hg1 : greatB c = false := hsg.2
  have g34 : ((c.toNat : Int) == 34) = false := u8_ne (n := 34) (by decide) h34
  have ht : T = (match signsL.find? (fun x => x.isPrefixOf (suf s i)) with | some x => .ok (⟨5, x, 0⟩, (suf s i).drop x.length) | none => .error 20) := by
    have hsm2 : ¬ (smallB c || greatB c) = true := by rw [hs1, hg1]; decide
    have hd2 : ¬ digitB c = true := by rw [hdg]; decide
    rw [← hT]
    have e := e0
    generalize suf s i = L at *
    subst e
    unfold tokAt
    simp only [if_neg hsm2, if_neg hd2, if_neg h34]
    rfl
  have HT2 := hidden ht
  have HS1 := hidden hs1
  have HG1 := hidden hg1
  have HD1 := hidden hdg
  clear ht hs1 hg1 hdg hsg h34
  rw [hT]
  clear hT e0 hc0 hNM hDR
  go_enter Tryd.func18, Tryd.ntmps18
  go_wp2_with fail
  go_loop [8] (fun nv => ∃ n : Nat, i + n ≤ s.size ∧ nv = .int .i64 (n : Int) ∧ (suf s i).take n ++ (suf s (i + n)).takeWhile nameB = NM ∧ (suf s (i + n)).dropWhile nameB = DR) (fun nv => ((s.size : Int) - intOf nv).toNat)
  case atStart => exact ⟨0, by omega, rfl, by rw [List.take_zero, List.nil_append]; exact HNM.out, HDR.out⟩
  case round =>
    obtain ⟨n, n1, rfl, n3, n4⟩ := hrel
    by_cases hlt : i + n < s.size
    · have zl : (i : Int) + (n : Int) < (s.size : Int) := by omega
      have zb : (0 : Int) ≤ (i : Int) + (n : Int) := by omega
      obtain ⟨d, hd⟩ : ∃ d, s[i + n] = d := ⟨_, rfl⟩
      have next := one_next hlt hd n3 n4
      have stop := one_stop hlt hd n3 n4
      clear n3 n4
      cases h1 : smallB d with
      | true =>
        have H1 := hidden h1
        obtain ⟨a3, a4⟩ := next (by unfold nameB; rw [h1]; rfl)
        have N3 := hidden a3
        have N4 := hidden a4
        clear next stop a3 a4 h1
        go_wp2_with (go_at_call 23; refine (small_any _ _ H1.out).mono ?_; rintro e w' ⟨rfl, hw'⟩; rw [hw']; clear hw' w')
        go_round
        case rel => exact ⟨n + 1, by omega, by go_num, N3.out, N4.out⟩
        case measure => simp [intOf]; omega
      | false =>
        cases h2 : greatB d with
        | true =>
          have H1 := hidden h1
          have H2 := hidden h2
          obtain ⟨a3, a4⟩ := next (by unfold nameB; rw [h1, h2]; rfl)
          have N3 := hidden a3
          have N4 := hidden a4
          clear next stop a3 a4 h1 h2
          go_wp2_with (first | (go_at_call 23; refine (small_any _ _ H1.out).mono ?_; rintro e w' ⟨rfl, hw'⟩; rw [hw']; clear hw' w') | (go_at_call 24; refine (great_any _ _ H2.out).mono ?_; rintro e w' ⟨rfl, hw'⟩; rw [hw']; clear hw' w'))
          go_round
          case rel => exact ⟨n + 1, by omega, by go_num, N3.out, N4.out⟩
          case measure => simp [intOf]; omega
        | false =>
          cases h3 : digitB d with
          | true =>
            have H1 := hidden h1
            have H2 := hidden h2
            have H3 := hidden h3
            obtain ⟨a3, a4⟩ := next (by unfold nameB; rw [h1, h2, h3]; rfl)
            have N3 := hidden a3
            have N4 := hidden a4
            clear next stop a3 a4 h1 h2 h3
            go_wp2_with (first | (go_at_call 23; refine (small_any _ _ H1.out).mono ?_; rintro e w' ⟨rfl, hw'⟩; rw [hw']; clear hw' w') | (go_at_call 24; refine (great_any _ _ H2.out).mono ?_; rintro e w' ⟨rfl, hw'⟩; rw [hw']; clear hw' w') | (go_at_call 25; refine (digit_any _ _ H3.out).mono ?_; rintro e w' ⟨rfl, hw'⟩; rw [hw']; clear hw' w'))
            go_round
            case rel => exact ⟨n + 1, by omega, by go_num, N3.out, N4.out⟩
            case measure => simp [intOf]; omega
          | false =>
            by_cases h39 : d = 39
            · have H1 := hidden h1
              have H2 := hidden h2
              have H3 := hidden h3
              obtain ⟨a3, a4⟩ := next (by rw [h39]; rfl)
              have N3 := hidden a3
              have N4 := hidden a4
              subst h39
              clear next stop a3 a4 h1 h2 h3
              go_wp2_with (first | (go_at_call 23; refine (small_any _ _ H1.out).mono ?_; rintro e w' ⟨rfl, hw'⟩; rw [hw']; clear hw' w') | (go_at_call 24; refine (great_any _ _ H2.out).mono ?_; rintro e w' ⟨rfl, hw'⟩; rw [hw']; clear hw' w') | (go_at_call 25; refine (digit_any _ _ H3.out).mono ?_; rintro e w' ⟨rfl, hw'⟩; rw [hw']; clear hw' w'))
              go_round
              case rel => exact ⟨n + 1, by omega, by go_num, N3.out, N4.out⟩
              case measure => simp [intOf]; omega
            · have H1 := hidden h1
              have H2 := hidden h2
              have H3 := hidden h3
              have g39 : ((d.toNat : Int) == 39) = false := u8_ne (n := 39) (by decide) h39
              obtain ⟨a3, a4⟩ := stop (by unfold nameB; rw [h1, h2, h3]; simpa using h39)
              have N3 := hidden a3
              have N4 := hidden a4
              clear next stop a3 a4 h1 h2 h3 h39
              go_upto_region 5 with (first | (go_at_call 23; refine (small_any _ _ H1.out).mono ?_; rintro e w' ⟨rfl, hw'⟩; rw [hw']; clear hw' w') | (go_at_call 24; refine (great_any _ _ H2.out).mono ?_; rintro e w' ⟨rfl, hw'⟩; rw [hw']; clear hw' w') | (go_at_call 25; refine (digit_any _ _ H3.out).mono ?_; rintro e w' ⟨rfl, hw'⟩; rw [hw']; clear hw' w'))
              clear g39 H1 H2 H3 hd
              have hc := HC.out
              obtain ⟨K1, Q1⟩ := one_start w i
              have KK := hidden K1
              have QQ := hidden Q1
              clear K1 Q1
              generalize (w.alloc (.cells #[.int .i64 0, .int .i64 0, .int .i64 0, .string ⟨#[]⟩] 31)).alloc (.cells #[.int .i64 0, .int .i64 i, .int .i64 0, .string ⟨#[]⟩] 31) = w1 at *
              obtain ⟨q0, q1, q2, q3, qf⟩ := QQ.out.cells
              obtain ⟨p0, p1, p2, p3, pf⟩ := KK.out.2.cells
              have hnl : Hid (s.size - i - DR.length = n) := by show _ = _; rw [← N4.out, suf_len]; omega
              have hsl : ∀ w', Sem.run Tryd.prog (Instr.slice 9 (.string s) (some (.int .i64 (i : Int))) (some (.int .i64 ((i : Int) + (n : Int)))) none) w' = .ok (.string ⟨NM.toArray⟩) w' := one_slice n1 N3.out
              have zi0 : (0 : Int) ≤ (i : Int) ∧ (i : Int) < (s.size : Int) := ⟨by omega, by omega⟩
              go_wp2_with (first | (go_at_call 23; refine (small_any c _ HS1.out).mono ?_; rintro e w' ⟨rfl, hw'⟩; rw [hw']; clear hw' w') | (go_at_call 24; refine (great_any c _ HG1.out).mono ?_; rintro e w' ⟨rfl, hw'⟩; rw [hw']; clear hw' w') | (go_at_call 25; refine (digit_any c _ HD1.out).mono ?_; rintro e w' ⟨rfl, hw'⟩; rw [hw']; clear hw' w') | (go_at_call 30; refine (signs_any _).mono ?_; rintro e w6 ⟨rfl, hw6⟩; have CL := hidden (fun j (h : j < signsL.length) => hw6 ▸ strs_cell w1 signsL h); have hb : Below w1.heap.size w1 w6 := hw6 ▸ (Below.refl _ _).alloc (Nat.le_refl _) _; have K6 := hidden (KK.out.below hb); have Q6 := hidden (QQ.out.below hb); obtain ⟨y0, y1, y2, y3, yf⟩ := Q6.out.cells; obtain ⟨x0, x1, x2, x3, xf⟩ := K6.out.2.cells; clear hw6 hb))
              have zq : w.heap.size + 1 < w1.heap.size := lt_of_some QQ.out
              have zq1 : w1.heap.size ≠ w.heap.size + 1 := by omega
              have zq2 : w.heap.size + 1 ≠ w1.heap.size := by omega
              clear q0 q1 q2 q3 qf p0 p1 p2 p3 pf KK QQ hsl
              go_loop [15] (fun iv => ∃ k : Nat, k ≤ 33 ∧ iv = .int .i64 k ∧ ∀ j, j < k → ((signsL.getD j []).isPrefixOf (suf s i)) = false) (fun iv => (33 - intOf iv).toNat)
              case atStart => exact ⟨0, by omega, rfl, fun j h => by omega⟩
              case round =>
                obtain ⟨k, hk, rfl, hj⟩ := hrel
                have HJ := hidden hj
                clear hj
                by_cases hlt : k < 33
                · have z1 : (k : Int) < 33 := by omega
                  have c1 := CL.out k hlt
                  have HZ : Hid ((⟨(signsL.getD k []).toArray⟩ : ByteArray).size ≤ 1000000) := signs_len hlt
                  cases hc : ((signsL.getD k []).isPrefixOf (suf s i)) with
                  | true =>
                    have HA : Hid (atB s i ⟨(signsL.getD k []).toArray⟩ = true) := hc
                    have HF := hidden (find_at (p := fun x => x.isPrefixOf (suf s i)) hlt hc HJ.out)
                    have HP := hidden hc
                    clear hc
                    generalize signsL.getD k [] = t at *
                    have HT3 : Hid (T = .ok (⟨5, t, 0⟩, (suf s i).drop t.length)) := by
                      show _ = _
                      rw [HT2.out, HF.out]
                    have HN3 : Hid (s.size - i - ((suf s i).drop t.length).length = t.length) := by
                      show _ = _
                      have e1 := (List.isPrefixOf_iff_prefix.1 HP.out).length_le
                      rw [suf_len] at e1
                      rw [List.length_drop, suf_len]
                      omega
                    go_upto_region 37 with (go_at_call 16; refine (at_any s _ i _ (by omega) (by omega) HZ.out HA.out).mono ?_; rintro e w' ⟨rfl, hw'⟩; rw [hw']; clear hw' w')
                    have K7 := hidden ((K6.out.set 0 (.int .i64 5)).set 3 (.string ⟨t.toArray⟩))
                    have Q7 := hidden ((Q6.out.set0 5).set3 ⟨t.toArray⟩)
                    have c7 : ((w6.setCell ⟨w.heap.size + 1, 0, none⟩ (.int .i64 5)).setCell ⟨w.heap.size + 1, 3, none⟩ (.string ⟨t.toArray⟩)).cell? ⟨w1.heap.size, k, none⟩ = some (.string ⟨t.toArray⟩) := by
                      rw [cell_blk (w := w6) ((blk_setCell_other _ _ _ _ zq1).trans (blk_setCell_other _ _ _ _ zq1))]
                      exact c1
                    have zq3 : w1.heap.size ≠ w.heap.size := by omega
                    have zq4 : w.heap.size ≠ w1.heap.size := by omega
                    clear y0 y1 y2 y3 yf x0 x1 x2 x3 xf c1 K6 Q6 CL HA HF HP HT2 HJ
                    generalize (w6.setCell ⟨w.heap.size + 1, 0, none⟩ (.int .i64 5)).setCell ⟨w.heap.size + 1, 3, none⟩ (.string ⟨t.toArray⟩) = w7 at *
                    obtain ⟨z10, z11, z12, z13, zf⟩ := Q7.out.cells
                    obtain ⟨v0, v1, v2, v3, vf⟩ := K7.out.2.cells
                    go_region
                    go_wp2_with fail
                    obtain ⟨D1, D2⟩ := K7.out.fin 5 i 0 ⟨t.toArray⟩
                    refine bodyPost_ret (one_results (w := (four w7 w.heap.size 5 i 0 ⟨t.toArray⟩).drew) D1 _ rfl rfl rfl) rfl ?_
                    rw [HT3.out]
                    show _ ∧ _
                    rw [HN3.out]
                    exact ⟨rfl, D2.drew⟩
                  | false =>
                    have HA : Hid (atB s i ⟨(signsL.getD k []).toArray⟩ = false) := hc
                    have HJ2 : Hid (∀ j, j < k + 1 → ((signsL.getD j []).isPrefixOf (suf s i)) = false) := fun j h => by
                      by_cases e : j = k
                      · rw [e]; exact hc
                      · exact HJ.out j (by omega)
                    clear hc
                    generalize (signsL.getD k []).toArray = t at c1 HA HZ
                    go_wp2_with (go_at_call 16; refine (at_any s _ i _ (by omega) (by omega) HZ.out HA.out).mono ?_; rintro e w' ⟨rfl, hw'⟩; rw [hw']; clear hw' w')
                    all_goals go_roundw
                    case rel => exact ⟨k + 1, by omega, by go_num, HJ2.out⟩
                    case measure => simp [intOf]; omega
                · have z1 : ¬ (k : Int) < 33 := by omega
                  have HT3 : Hid (T = .error 20) := by
                    show _ = _
                    rw [HT2.out, find_no (p := fun x => x.isPrefixOf (suf s i)) (fun j h => HJ.out j (by have : signsL.length = 33 := rfl; omega))]
                  go_wp2_with fail
                  obtain ⟨D1, D2⟩ := (K6.out).fin 0 i 0 ⟨#[]⟩
                  refine bodyPost_ret (one_results D1 _ rfl rfl rfl) rfl ?_
                  rw [HT3.out]
                  exact ⟨⟨_, _, _, _, rfl⟩, D2⟩
    · have zl : ¬ (i : Int) + (n : Int) < (s.size : Int) := by omega
      obtain ⟨a3, a4⟩ := one_out hlt n3 n4
      have N3 := hidden a3
      have N4 := hidden a4
      clear a3 a4 n3 n4
      go_upto_region 5 with fail
      have hc := HC.out
      obtain ⟨K1, Q1⟩ := one_start w i
      have KK := hidden K1
      have QQ := hidden Q1
      clear K1 Q1
      generalize (w.alloc (.cells #[.int .i64 0, .int .i64 0, .int .i64 0, .string ⟨#[]⟩] 31)).alloc (.cells #[.int .i64 0, .int .i64 i, .int .i64 0, .string ⟨#[]⟩] 31) = w1 at *
      obtain ⟨q0, q1, q2, q3, qf⟩ := QQ.out.cells
      obtain ⟨p0, p1, p2, p3, pf⟩ := KK.out.2.cells
      have hnl : Hid (s.size - i - DR.length = n) := by show _ = _; rw [← N4.out, suf_len]; omega
      have hsl : ∀ w', Sem.run Tryd.prog (Instr.slice 9 (.string s) (some (.int .i64 (i : Int))) (some (.int .i64 ((i : Int) + (n : Int)))) none) w' = .ok (.string ⟨NM.toArray⟩) w' := one_slice n1 N3.out
      have zi0 : (0 : Int) ≤ (i : Int) ∧ (i : Int) < (s.size : Int) := ⟨by omega, by omega⟩
      go_wp2_with (first | (go_at_call 23; refine (small_any c _ HS1.out).mono ?_; rintro e w' ⟨rfl, hw'⟩; rw [hw']; clear hw' w') | (go_at_call 24; refine (great_any c _ HG1.out).mono ?_; rintro e w' ⟨rfl, hw'⟩; rw [hw']; clear hw' w') | (go_at_call 25; refine (digit_any c _ HD1.out).mono ?_; rintro e w' ⟨rfl, hw'⟩; rw [hw']; clear hw' w') | (go_at_call 30; refine (signs_any _).mono ?_; rintro e w6 ⟨rfl, hw6⟩; have CL := hidden (fun j (h : j < signsL.length) => hw6 ▸ strs_cell w1 signsL h); have hb : Below w1.heap.size w1 w6 := hw6 ▸ (Below.refl _ _).alloc (Nat.le_refl _) _; have K6 := hidden (KK.out.below hb); have Q6 := hidden (QQ.out.below hb); obtain ⟨y0, y1, y2, y3, yf⟩ := Q6.out.cells; obtain ⟨x0, x1, x2, x3, xf⟩ := K6.out.2.cells; clear hw6 hb))
      have zq : w.heap.size + 1 < w1.heap.size := lt_of_some QQ.out
      have zq1 : w1.heap.size ≠ w.heap.size + 1 := by omega
      have zq2 : w.heap.size + 1 ≠ w1.heap.size := by omega
      clear q0 q1 q2 q3 qf p0 p1 p2 p3 pf KK QQ hsl
      go_loop [15] (fun iv => ∃ k : Nat, k ≤ 33 ∧ iv = .int .i64 k ∧ ∀ j, j < k → ((signsL.getD j []).isPrefixOf (suf s i)) = false) (fun iv => (33 - intOf iv).toNat)
      case atStart => exact ⟨0, by omega, rfl, fun j h => by omega⟩
      case round =>
        obtain ⟨k, hk, rfl, hj⟩ := hrel
        have HJ := hidden hj
        clear hj
        by_cases hlt : k < 33
        · have z1 : (k : Int) < 33 := by omega
          have c1 := CL.out k hlt
          have HZ : Hid ((⟨(signsL.getD k []).toArray⟩ : ByteArray).size ≤ 1000000) := signs_len hlt
          cases hc : ((signsL.getD k []).isPrefixOf (suf s i)) with
          | true =>
            have HA : Hid (atB s i ⟨(signsL.getD k []).toArray⟩ = true) := hc
            have HF := hidden (find_at (p := fun x => x.isPrefixOf (suf s i)) hlt hc HJ.out)
            have HP := hidden hc
            clear hc
            generalize signsL.getD k [] = t at *
            have HT3 : Hid (T = .ok (⟨5, t, 0⟩, (suf s i).drop t.length)) := by
              show _ = _
              rw [HT2.out, HF.out]
            have HN3 : Hid (s.size - i - ((suf s i).drop t.length).length = t.length) := by
              show _ = _
              have e1 := (List.isPrefixOf_iff_prefix.1 HP.out).length_le
              rw [suf_len] at e1
              rw [List.length_drop, suf_len]
              omega
            go_upto_region 37 with (go_at_call 16; refine (at_any s _ i _ (by omega) (by omega) HZ.out HA.out).mono ?_; rintro e w' ⟨rfl, hw'⟩; rw [hw']; clear hw' w')
            have K7 := hidden ((K6.out.set 0 (.int .i64 5)).set 3 (.string ⟨t.toArray⟩))
            have Q7 := hidden ((Q6.out.set0 5).set3 ⟨t.toArray⟩)
            have c7 : ((w6.setCell ⟨w.heap.size + 1, 0, none⟩ (.int .i64 5)).setCell ⟨w.heap.size + 1, 3, none⟩ (.string ⟨t.toArray⟩)).cell? ⟨w1.heap.size, k, none⟩ = some (.string ⟨t.toArray⟩) := by
              rw [cell_blk (w := w6) ((blk_setCell_other _ _ _ _ zq1).trans (blk_setCell_other _ _ _ _ zq1))]
              exact c1
            have zq3 : w1.heap.size ≠ w.heap.size := by omega
            have zq4 : w.heap.size ≠ w1.heap.size := by omega
            clear y0 y1 y2 y3 yf x0 x1 x2 x3 xf c1 K6 Q6 CL HA HF HP HT2 HJ
            generalize (w6.setCell ⟨w.heap.size + 1, 0, none⟩ (.int .i64 5)).setCell ⟨w.heap.size + 1, 3, none⟩ (.string ⟨t.toArray⟩) = w7 at *
            obtain ⟨z10, z11, z12, z13, zf⟩ := Q7.out.cells
            obtain ⟨v0, v1, v2, v3, vf⟩ := K7.out.2.cells
            go_region
            go_wp2_with fail
            obtain ⟨D1, D2⟩ := K7.out.fin 5 i 0 ⟨t.toArray⟩
            refine bodyPost_ret (one_results (w := (four w7 w.heap.size 5 i 0 ⟨t.toArray⟩).drew) D1 _ rfl rfl rfl) rfl ?_
            rw [HT3.out]
            show _ ∧ _
            rw [HN3.out]
            exact ⟨rfl, D2.drew⟩
          | false =>
            have HA : Hid (atB s i ⟨(signsL.getD k []).toArray⟩ = false) := hc
            have HJ2 : Hid (∀ j, j < k + 1 → ((signsL.getD j []).isPrefixOf (suf s i)) = false) := fun j h => by
              by_cases e : j = k
              · rw [e]; exact hc
              · exact HJ.out j (by omega)
            clear hc
            generalize (signsL.getD k []).toArray = t at c1 HA HZ
            go_wp2_with (go_at_call 16; refine (at_any s _ i _ (by omega) (by omega) HZ.out HA.out).mono ?_; rintro e w' ⟨rfl, hw'⟩; rw [hw']; clear hw' w')
            all_goals go_roundw
            case rel => exact ⟨k + 1, by omega, by go_num, HJ2.out⟩
            case measure => simp [intOf]; omega
        · have z1 : ¬ (k : Int) < 33 := by omega
          have HT3 : Hid (T = .error 20) := by
            show _ = _
            rw [HT2.out, find_no (p := fun x => x.isPrefixOf (suf s i)) (fun j h => HJ.out j (by have : signsL.length = 33 := rfl; omega))]
          go_wp2_with fail
          obtain ⟨D1, D2⟩ := (K6.out).fin 0 i 0 ⟨#[]⟩
          refine bodyPost_ret (one_results D1 _ rfl rfl rfl) rfl ?_
          rw [HT3.out]
          exact ⟨⟨_, _, _, _, rfl⟩, D2⟩
end Go.Proofs.YtapecobalkjdhaaDoor
