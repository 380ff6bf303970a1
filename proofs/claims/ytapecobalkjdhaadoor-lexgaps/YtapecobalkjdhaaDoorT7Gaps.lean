/-
  Layer 7: LexGaps, walked: it returns true. Condition: the table of powers of ten reads as its initialiser lays it.
-/
import Derived.Test.YtapecobalkjdhaaDoorX7Law3
import Derived.Test.YtapecobalkjdhaaDoorL7Write
namespace Go.Proofs.YtapecobalkjdhaaDoor
open Go.ChangeShapes Go.WideShapes Go.ChangeAt Go.RowKit Go.Deep
set_option linter.unusedVariables false
set_option maxHeartbeats 4000000
set_option maxRecDepth 20000

theorem marks_step {s : ByteArray} {i : Nat} (h : i + 1 < s.size) (h1 : atB s i begC = false) (h2 : atB s i endC = false) : noMarks (suf s i) = noMarks (suf s (i + 1)) := by
  have e := suf_two s h
  have e1 := suf_cons s h
  unfold atB begC at h1
  unfold atB endC at h2
  rw [e] at h1 h2 ⊢
  rw [e1]
  have g1 : ¬ (s[i] = 42 ∧ s[i + 1] = 41) := fun c => by rw [c.1, c.2] at h2; simp [List.isPrefixOf] at h2
  have g2 : ¬ (s[i] = 40 ∧ s[i + 1] = 42) := fun c => by rw [c.1, c.2] at h1; simp [List.isPrefixOf] at h1
  have k1 : (s[i] == 42 && s[i + 1] == 41) = false := by
    rw [Bool.and_eq_false_iff, beq_eq_false_iff_ne, beq_eq_false_iff_ne]
    by_cases c : s[i] = 42
    · exact Or.inr (fun d => g1 ⟨c, d⟩)
    · exact Or.inl c
  have k2 : (s[i] == 40 && s[i + 1] == 42) = false := by
    rw [Bool.and_eq_false_iff, beq_eq_false_iff_ne, beq_eq_false_iff_ne]
    by_cases c : s[i] = 40
    · exact Or.inr (fun d => g2 ⟨c, d⟩)
    · exact Or.inl c
  rw [noMarks, k1, k2]
  simp
theorem marks_end {s : ByteArray} {i : Nat} (h : ¬ i + 1 < s.size) : noMarks (suf s i) = true := by
  have hl : (suf s i).length ≤ 1 := by rw [suf_len]; omega
  match hm : suf s i, hl with
  | [], _ => rfl
  | [c], _ => rfl
  | _ :: _ :: _, hl => simp at hl
theorem gap_data (s say : ByteArray) {p : Nat} (hp : p ≤ s.size) : (s.extract 0 p ++ (⟨#[32, 40, 42, 32]⟩ ++ say ++ ⟨#[32, 42, 41, 10]⟩) ++ s.extract p s.size).data.toList = s.data.toList.take p ++ ([32, 40, 42, 32] ++ say.data.toList ++ [32, 42, 41, 10]) ++ s.data.toList.drop p := by
  simp only [ByteArray.data_append, Array.toList_append, ByteArray.data_extract]
  congr 1
  · congr 1
    simp
  · simp
    rw [List.take_of_length_le (by simp)]
theorem run_str_from {s : ByteArray} {p : Nat} (hp : p ≤ s.size) (w : World) : Sem.run Tryd.prog (Instr.slice 9 (.string s) (some (.int .i64 (p : Int))) none none) w = .ok (.string (s.extract p s.size)) w := by
  have h1 : (0 : Int) ≤ (p : Int) ∧ (p : Int) ≤ (s.size : Int) := ⟨by omega, by omega⟩
  rw [run_slice_string_from_if w 9 s .i64 (p : Int) Tryd.underlying9, if_pos h1]
  rfl
theorem run_str_two {s : ByteArray} {i : Nat} (hi : i + 2 ≤ s.size) (w : World) : Sem.run Tryd.prog (Instr.slice 9 (.string s) (some (.int .i64 (i : Int))) (some (.int .i64 ((i : Int) + 2))) none) w = .ok (.string (s.extract i (i + 2))) w := by
  rw [run_slice_string w 9 s .i64 .i64 (i : Int) ((i : Int) + 2) Tryd.underlying9 (by omega) (by omega) (by omega)]
  rfl
theorem two_beg {s : ByteArray} {j : Nat} (h : j + 2 ≤ s.size) : ((s.extract j (j + 2)).toList == [40, 42]) = atB s j begC := by
  rw [← at_yes (s := s) (t := begC) (i := j) h, show begC.toList = [40, 42] from by rw [Go.ByteArray.toList_eq]; rfl]
  rfl
theorem two_end {s : ByteArray} {j : Nat} (h : j + 2 ≤ s.size) : ((s.extract j (j + 2)).toList == [42, 41]) = atB s j endC := by
  rw [← at_yes (s := s) (t := endC) (i := j) h, show endC.toList = [42, 41] from by rw [Go.ByteArray.toList_eq]; rfl]
  rfl
theorem gap_at {M : List TV} {i k : Nat} {D : Int} {t : TV} (hM : M[k]? = some t) (hi : i ≤ M.length) : (M.take i ++ (M.drop i).map (fun t => t.on D))[k]? = some (if k < i then t else t.on D) := by
  have hk : k < M.length := (List.getElem?_eq_some_iff.1 hM).1
  have htl : (M.take i).length = i := by rw [List.length_take]; omega
  by_cases c : k < i
  · rw [List.getElem?_append_left (by omega), List.getElem?_take, if_pos c, if_pos c]
    exact hM
  · rw [List.getElem?_append_right (by omega), htl, List.getElem?_map, List.getElem?_drop, show i + (k - i) = k by omega, hM, if_neg c]
    rfl
theorem lexGaps_walk (s say : ByteArray) (a : Int) (w : World) (hza : s.size ≤ 140737488351232) (hzb : say.size ≤ 140737488351232) (ha0 : -9223372036854775808 ≤ a) (ha1 : a ≤ 9223372036854775807) (htab : Lib.TabIs Tryd.prog w "internal/strconv.uint64pow10" .u64 Lib.pow10Tab) :
    Calls Tryd.prog 6 #[.string s, .string say, .int .i64 a] w fun e w' => e = .returned (.bool true) ∧ Below w.heap.size w w' := by
  have HA := hidden (awake_any w htab)
  have hz : s.size ≤ maxLen := by unfold maxLen; omega
  clear htab
  cases hR : lexR s with
  | error ek =>
    obtain ⟨e', k⟩ := ek
    have z1 : (e' != 0) = true := by rw [bne_iff_ne]; exact lexR_err hR
    have HR := hidden hR
    clear hR
    go_enter Tryd.func6, Tryd.ntmps6
    go_wp2_with (first
      | (go_at_call 8; refine HA.out.mono ?_; rintro e w1 ⟨rfl, hb⟩; have B1 := hidden hb; clear hb)
      | (go_at_call 9; refine (lexP_err w1 HR.out hz).mono ?_; rintro e w2 ⟨rfl, hb⟩; have B2 := hidden (B1.out.trans (hb.mono B1.out.size)); clear hb))
    go_ret
    exact ⟨rfl, B2.out⟩
  | ok ts =>
    have HR := hidden hR
    obtain ⟨hs, hlen⟩ := lexR_count hR
    by_cases c0 : a < 0
    · clear hR
      go_enter Tryd.func6, Tryd.ntmps6
      go_wp2_with (first
        | (go_at_call 8; refine HA.out.mono ?_; rintro e w1 ⟨rfl, hb⟩; have B1 := hidden hb; clear hb)
        | (go_at_call 9; refine (lexP_ok w1 HR.out).mono ?_; rintro e w2 ⟨ao, c, rfl, ht, hg, hb⟩; have B2 := hidden (B1.out.trans (hb.mono B1.out.size)); clear ht hg hb))
      go_ret
      exact ⟨rfl, B2.out⟩
    · by_cases c1 : a < (ts.length : Int) + 1
      · obtain ⟨i, rfl⟩ : ∃ i : Nat, a = (i : Int) := ⟨a.toNat, by omega⟩
        have z2 : ¬ ((ts.length : Int) + 1 ≤ (i : Int)) := by omega
        have zb : (0 : Int) ≤ (i : Int) ∧ (i : Int) < (ts.length : Int) + 1 := ⟨by omega, c1⟩
        have hiN : i < ts.length + 1 := by omega
        clear hR
        go_enter Tryd.func6, Tryd.ntmps6
        go_wp2_with (first
          | (go_at_call 8; refine HA.out.mono ?_; rintro e w1 ⟨rfl, hb⟩; have B1 := hidden hb; clear hb)
          | (go_at_call 9; refine (lexP_ok w1 HR.out).mono ?_; rintro e w2 ⟨ao, c, rfl, ht, ⟨⟨g, e1, hgl, _⟩, cc⟩, hb⟩; subst e1; have T2 := hidden ht; have B2 := hidden (B1.out.trans (hb.mono B1.out.size)); clear ht hb))
        go_loop [10] (fun iv => ∃ j : Nat, j ≤ say.size ∧ iv = .int .i64 (j : Int) ∧ noMarks (suf say 0) = noMarks (suf say j)) (fun iv => ((say.size : Int) - intOf iv).toNat)
        case atStart => exact ⟨0, by omega, rfl, rfl⟩
        case round =>
          obtain ⟨j, j1, rfl, j3⟩ := hrel
          have HJ := hidden j3
          clear j3
          by_cases hlt : j + 1 < say.size
          · have zl : (j : Int) + 1 < (say.size : Int) := by omega
            have hsl := run_str_two (s := say) (i := j) (by omega)
            cases hb1 : atB say j begC with
            | true =>
              have hE : ((say.extract j (j + 2)).toList == [40, 42]) = true := by rw [two_beg (by omega)]; exact hb1
              clear HJ hb1
              go_wp2_with fail
              go_ret
              exact ⟨rfl, B2.out⟩
            | false =>
              have hE : ((say.extract j (j + 2)).toList == [40, 42]) = false := by rw [two_beg (by omega)]; exact hb1
              cases hb2 : atB say j endC with
              | true =>
                have hE2 : ((say.extract j (j + 2)).toList == [42, 41]) = true := by rw [two_end (by omega)]; exact hb2
                clear HJ hb1 hb2
                go_wp2_with fail
                go_ret
                exact ⟨rfl, B2.out⟩
              | false =>
                have hE2 : ((say.extract j (j + 2)).toList == [42, 41]) = false := by rw [two_end (by omega)]; exact hb2
                have HJ2 : Hid (noMarks (suf say 0) = noMarks (suf say (j + 1))) := by show _ = _; rw [HJ.out]; exact marks_step hlt hb1 hb2
                clear HJ hb1 hb2
                go_wp2_with fail
                go_round
                case rel => exact ⟨j + 1, by omega, by go_num, HJ2.out⟩
                case measure => simp [intOf]; omega
          · have zl : ¬ (j : Int) + 1 < (say.size : Int) := by omega
            have HN : Hid (noMarks say.data.toList = true) := by show _ = _; rw [← suf_zero, HJ.out]; exact marks_end hlt
            clear HJ
            go_upto_region 12 with fail
            obtain ⟨own, hown⟩ : ∃ own, ∀ p, p ≤ s.size → (own p : ByteArray).data.toList = s.data.toList.take p ++ ([32, 40, 42, 32] ++ say.data.toList ++ [32, 42, 41, 10]) ++ s.data.toList.drop p := ⟨fun p => s.extract 0 p ++ (⟨#[32, 40, 42, 32]⟩ ++ say ++ ⟨#[32, 42, 41, 10]⟩) ++ s.extract p s.size, fun p hp => gap_data s say hp⟩
            obtain ⟨p, t, p1, p2, p3, _⟩ := gap_law (own := s) HR.out hiN HN.out
            obtain ⟨p', t', p1', p2', p3', p4⟩ := gap_law (own := s.extract 0 p ++ (⟨#[32, 40, 42, 32]⟩ ++ say ++ ⟨#[32, 42, 41, 10]⟩) ++ s.extract p s.size) HR.out hiN HN.out
            have htt : t' = t := Option.some.inj (p2'.symm.trans p2)
            have hpp : p' = p := by rw [htt, p3] at p3'; omega
            subst hpp
            obtain ⟨n1, n2, n3⟩ := p4 (gap_data s say p1)
            have q1 := place_at T2.out p2 p3
            have hs1 := run_str_to p1
            have hs2 := run_str_from p1
            clear own hown p2 p3 p2' p3' p4 htt p1'
            go_quiet (fail)
            obtain ⟨own, hown⟩ : ∃ own, s.extract 0 p' ++ (⟨#[32, 40, 42, 32]⟩ ++ say ++ ⟨#[32, 42, 41, 10]⟩) ++ s.extract p' s.size = own := ⟨_, rfl⟩
            rw [hown] at n1 n2 n3
            have T3 := hidden (T2.out.drewN nq)
            have B3 := hidden (below_drewN B2.out nq)
            clear hs1 hs2 q1
            rw [hown]
            have hgw : Hid (g < (w2.drewN nq).heap.size) := by
              obtain ⟨g', e, d0, _⟩ := T3.out.at_ 0 ((toks s ts)[0]'(by rw [toks_len]; omega)) (List.getElem?_eq_getElem _)
              simp only [Option.some.injEq, Addr.mk.injEq, and_true] at e
              rw [e]
              exact cell_lt d0
            generalize w2.drewN nq = w3 at *
            have N1 := hidden n1
            by_cases hbig : 4096 < own.size
            · have HR2 := hidden (n2 hbig)
              have hbm : own.size ≤ maxLen := by rw [n1]; unfold maxLen; omega
              have zb4 : (4096 : Int) < (own.size : Int) := by omega
              clear n1 n2 n3 hown
              go_wp2_with (go_at_call 9; refine (lexP_err w3 HR2.out hbm).mono ?_; rintro e w4 ⟨rfl, hb⟩; have B4 := hidden (B3.out.trans (hb.mono B3.out.size)); clear hb)
              go_ret
              exact ⟨rfl, B4.out⟩
            · obtain ⟨vs, hv, hvt⟩ := n3 (by omega)
              have HR2 := hidden hv
              have hvl : vs.length = ts.length := by
                have h1 := congrArg List.length hvt
                rw [toks_len, List.length_append, List.length_map, List.length_take, List.length_drop, toks_len] at h1
                omega
              have HVL := hidden hvl
              have hsay : say.size ≤ 4096 := by omega
              obtain ⟨M, hM⟩ : ∃ M, toks s ts = M := ⟨_, rfl⟩
              have hMl : M.length = ts.length + 1 := by rw [← hM, toks_len]
              rw [hM] at T3 hvt
              have HM := hidden hM
              have HVT := hidden hvt
              have HML := hidden hMl
              have zd : ((ts.length : Int) + 1 != (ts.length : Int) + 1) = false := by simp
              clear n1 n2 n3 hv hvt hvl hM hMl hown
              go_wp2_with (go_at_call 9; refine (lexP_ok w3 HR2.out).mono ?_; rw [HVL.out]; rintro e w4 ⟨ao3, c3, rfl, ht, ⟨⟨g3, e3, hg3, hcur⟩, cc3⟩, hb⟩; subst e3; have M4 : Hid (MR w4 g3 (toks own vs)) := ⟨hcur, ht⟩; have T4 := hidden (T3.out.below hb); have B4 := hidden (B3.out.trans (hb.mono B3.out.size)); have hne : g ≠ g3 := (by have := hgw.out; omega); have hsz4 := hb.size; clear hb ht hcur)
              have hww3 := B3.out.size
              go_loopw [100] (fun iv wr => ∃ k : Nat, k ≤ ts.length + 1 ∧ iv = .int .i64 (k : Int) ∧ MR wr g3 (M.take k ++ (toks own vs).drop k) ∧ TS wr (some ⟨g, 0, none⟩) M ∧ Below w.heap.size w wr) (fun iv wr => ((ts.length : Int) + 1 - intOf iv).toNat)
              case atStart => exact ⟨0, by omega, rfl, by simpa using M4.out, T4.out, B4.out⟩
              case round =>
                clear M4 T4 B4
                obtain ⟨k, k1, rfl, k3, k4, k5⟩ := hrel
                have MK := hidden k3
                have TK := hidden k4
                have BK := hidden k5
                clear k3 k4 k5
                have hlenL : M.length = (toks own vs).length := by rw [HML.out, toks_len, HVL.out]
                by_cases hlt2 : k < ts.length + 1
                · have z9 : (k : Int) < (ts.length : Int) + 1 := by omega
                  have zbk : (0 : Int) ≤ (k : Int) ∧ (k : Int) < (ts.length : Int) + 1 := ⟨by omega, z9⟩
                  obtain ⟨tm, htm⟩ : ∃ tm, M[k]? = some tm := ⟨_, List.getElem?_eq_getElem (by rw [HML.out]; exact hlt2)⟩
                  have hLk := gap_at (D := ((say.size + 8 : Nat) : Int)) htm (show i ≤ M.length by rw [HML.out]; omega)
                  rw [← HVT.out] at hLk
                  obtain ⟨tp0, tp1⟩ : 0 ≤ tm.pl ∧ tm.pl ≤ s.size := toks_pl (by rw [HM.out]; exact htm)
                  by_cases hki : k < i
                  · rw [if_pos hki] at hLk
                    have zk : ¬ ((i : Int) ≤ (k : Int)) := by omega
                    have MK2 := hidden (MK.out.stay hLk htm)
                    clear hLk htm
                    go_wp2_with fail
                    go_roundw
                    case rel => exact ⟨k + 1, by omega, by go_num, MK2.out, TK.out, BK.out⟩
                    case measure => simp [intOf]; omega
                  · rw [if_neg hki] at hLk
                    have zk : (i : Int) ≤ (k : Int) := by omega
                    obtain ⟨m0, m1, m2, m3⟩ := MK.out.cells (now_at hlenL hLk)
                    have mf := MK.out.frozen
                    have MK2 : Hid (∀ z : Int, z = tm.pl → MR (wr.setCell ⟨g3, k * 4 + 1, none⟩ (.int .i64 z)) g3 (M.take (k + 1) ++ (toks own vs).drop (k + 1))) := fun z hz => by rw [hz]; exact MK.out.write hlenL hLk htm rfl rfl rfl
                    have e9 : (tm.on ((say.size + 8 : Nat) : Int)).pl = tm.pl + ((say.size : Int) + 8) := by
                      show tm.pl + ((say.size + 8 : Nat) : Int) = _
                      omega
                    rw [e9] at m1
                    clear hLk htm m0 m2 m3 e9
                    go_wp2_with fail
                    go_roundw
                    case rel => exact ⟨k + 1, by omega, by go_num, MK2.out _ (by omega), TK.out.set (fun q hq => by simp only [Option.some.injEq, Addr.mk.injEq, and_true] at hq; subst hq; exact hne) _, BK.out.setCell (by show w.heap.size ≤ g3; omega) _⟩
                    case measure => simp [intOf]; omega
                · have z9 : ¬ (k : Int) < (ts.length : Int) + 1 := by omega
                  have hfin : M.take k ++ (toks own vs).drop k = M := by
                    rw [List.take_of_length_le (by rw [HML.out]; omega), List.drop_of_length_le (by rw [← hlenL, HML.out]; omega), List.append_nil]
                  have MF := MK.out
                  rw [hfin] at MF
                  have HS := hidden (same_yes (some ⟨g3, 0, none⟩) (some ⟨g, 0, none⟩) c3 c M wr MF.2 TK.out (by rw [HML.out]; omega))
                  rw [HML.out] at HS
                  clear hfin MF
                  go_wp2_with (go_at_call 11; refine HS.out.mono ?_; rintro e w7 ⟨rfl, n7, hw7⟩; have B7 : Hid (Below w.heap.size w w7) := (by rw [hw7]; exact below_drewN BK.out _); clear hw7)
                  go_ret
                  exact ⟨rfl, B7.out⟩
      · have z2 : (ts.length : Int) + 1 ≤ a := by omega
        clear hR
        go_enter Tryd.func6, Tryd.ntmps6
        go_wp2_with (first
          | (go_at_call 8; refine HA.out.mono ?_; rintro e w1 ⟨rfl, hb⟩; have B1 := hidden hb; clear hb)
          | (go_at_call 9; refine (lexP_ok w1 HR.out).mono ?_; rintro e w2 ⟨ao, c, rfl, ht, hg, hb⟩; have B2 := hidden (B1.out.trans (hb.mono B1.out.size)); clear ht hg hb))
        go_ret
        exact ⟨rfl, B2.out⟩
end Go.Proofs.YtapecobalkjdhaaDoor
