/-
  Layer 7: LexBack, walked: it returns true. Condition: the table of powers of ten reads as its initialiser lays it.
-/
import Derived.Test.YtapecobalkjdhaaDoorX7Law4
import Derived.Test.YtapecobalkjdhaaDoorL7Write
namespace Go.Proofs.YtapecobalkjdhaaDoor
open Go.ChangeShapes Go.WideShapes Go.ChangeAt Go.RowKit Go.Deep
set_option linter.unusedVariables false
set_option maxHeartbeats 4000000
set_option maxRecDepth 20000

theorem back_at {s own : ByteArray} {ts vs : List (Tk × Nat)} (h : vs.map (·.1) = ts.map (·.1)) {k : Nat} {t t' : TV} (hL : (toks own vs)[k]? = some t) (hM : (toks s ts)[k]? = some t') : t'.kind = t.kind ∧ t'.N = t.N ∧ t'.S = t.S := by
  have hlen : vs.length = ts.length := by have := congrArg List.length h; simpa using this
  unfold toks at hL hM
  by_cases hk : k < ts.length
  · rw [List.getElem?_append_left (by rw [tvs_len]; omega)] at hL hM
    unfold tvs at hL hM
    rw [List.getElem?_map] at hL hM
    have h1 : (vs.map (·.1))[k]? = (ts.map (·.1))[k]? := by rw [h]
    rw [List.getElem?_map, List.getElem?_map] at h1
    cases hv : vs[k]? with
    | none => rw [hv] at hL; cases hL
    | some p =>
      cases ht : ts[k]? with
      | none => rw [ht] at hM; cases hM
      | some q =>
        rw [hv, ht] at h1
        rw [hv] at hL
        rw [ht] at hM
        simp only [Option.map_some, Option.some.injEq] at h1 hL hM
        rw [← hL, ← hM, h1]
        exact ⟨rfl, rfl, rfl⟩
  · rw [List.getElem?_append_right (by rw [tvs_len]; omega), tvs_len] at hL hM
    rw [hlen] at hL
    cases hk2 : k - ts.length with
    | zero =>
      rw [hk2] at hL hM
      simp at hL hM
      rw [← hL, ← hM]
      exact ⟨rfl, rfl, rfl⟩
    | succ n =>
      rw [hk2] at hL
      simp at hL
/-- How it stands while the texts are put together. -/
def InB (L : List TV) (w : World) (ov iv : Value) (wr : World) : Prop := ∃ (k : Nat) (own : ByteArray), k ≤ L.length ∧ iv = .int .i64 (k : Int) ∧ ov = .string own ∧ own.data.toList = backV (L.take k) ∧ own.size ≤ k * 16501 ∧ Below w.heap.size w wr
theorem lexBack_walk (s : ByteArray) (w : World) (hza : s.size ≤ 140737488351232) (htab : Lib.TabIs Tryd.prog w "internal/strconv.uint64pow10" .u64 Lib.pow10Tab) :
    Calls Tryd.prog 4 #[.string s] w fun e w' => e = .returned (.bool true) ∧ Below w.heap.size w w' := by
  have HA := hidden (awake_any w htab)
  have HTAB := hidden htab
  have hz : s.size ≤ maxLen := by unfold maxLen; omega
  clear htab
  cases hR : lexR s with
  | error ek =>
    obtain ⟨e', k⟩ := ek
    have z1 : (e' != 0) = true := by rw [bne_iff_ne]; exact lexR_err hR
    have HR := hidden hR
    clear hR
    go_enter Tryd.func4, Tryd.ntmps4
    go_wp2_with (first
      | (go_at_call 8; refine HA.out.mono ?_; rintro e w1 ⟨rfl, hb⟩; have B1 := hidden hb; clear hb)
      | (go_at_call 9; refine (lexP_err w1 HR.out hz).mono ?_; rintro e w2 ⟨rfl, hb⟩; have B2 := hidden (B1.out.trans (hb.mono B1.out.size)); clear hb))
    go_ret
    exact ⟨rfl, B2.out⟩
  | ok ts =>
    have HR := hidden hR
    obtain ⟨hs, hlen⟩ := lexR_count hR
    obtain ⟨M, hM⟩ : ∃ M, toks s ts = M := ⟨_, rfl⟩
    have hMl : M.length = ts.length + 1 := by rw [← hM, toks_len]
    have HM := hidden hM
    have HML := hidden hMl
    clear hR hM hMl
    go_enter Tryd.func4, Tryd.ntmps4
    go_wp2_with (first
      | (go_at_call 8; refine HA.out.mono ?_; rintro e w1 ⟨rfl, hb⟩; have B1 := hidden hb; clear hb)
      | (go_at_call 9; refine (lexP_ok w1 HR.out).mono ?_; rw [HM.out]; rintro e w2 ⟨ao, c, rfl, ht, ⟨⟨g, e1, hgl, hcur⟩, cc⟩, hb⟩; subst e1; have T2 : Hid (MR w2 g M) := ⟨hcur, ht⟩; have B2 := hidden (B1.out.trans (hb.mono B1.out.size)); clear ht hb hcur))
    go_loopw [6, 24] (fun ov iv wr => InB M w2 ov iv wr) (fun ov iv wr => ((ts.length : Int) + 1 - intOf iv).toNat)
    case atStart => exact ⟨0, ⟨#[]⟩, by omega, rfl, rfl, rfl, by decide, Below.refl _ _⟩
    case round =>
      obtain ⟨k, own, k1, rfl, rfl, k4, k5, k6⟩ := hrel
      rw [HML.out] at k1
      have HO := hidden k4
      have BK := hidden k6
      have TK := hidden (T2.out.below k6)
      have BW := hidden (B2.out.trans (k6.mono B2.out.size))
      have TAB := hidden (tab_below HTAB.out BW.out)
      have hszk := k6.size
      clear k4 k6
      by_cases hlt : k < ts.length + 1
      · have z9 : (k : Int) < (ts.length : Int) + 1 := by omega
        have zbk : (0 : Int) ≤ (k : Int) ∧ (k : Int) < (ts.length : Int) + 1 := ⟨by omega, z9⟩
        obtain ⟨t, ht⟩ : ∃ t, M[k]? = some t := ⟨_, List.getElem?_eq_getElem (by rw [HML.out]; exact hlt)⟩
        have hsm := toks_small HR.out (i := k) (t := t) (by rw [HM.out]; exact ht)
        have htl := textV_len hsm
        obtain ⟨m0, m1, m2, m3⟩ := TK.out.cells ht
        have HX := hidden (fun w h => textP_any t.kind t.pl t.N ⟨t.S.toArray⟩ w (by show t.S.length ≤ _; omega) (by omega) (by omega) h)
        obtain ⟨tx, htx⟩ : ∃ tx : ByteArray, ⟨(textT Lib.itoa ⟨t.kind, (⟨t.S.toArray⟩ : ByteArray).data.toList, t.N⟩).toArray⟩ = tx := ⟨_, rfl⟩
        have htd : tx.data.toList = textV t := by rw [← htx]; rfl
        have htz : tx.size ≤ 16500 := by rw [← len_data, htd]; exact htl
        rw [htx] at HX
        have HTD := hidden htd
        have HTK := hidden (take_more ht)
        have zs : ((own.size : Int) + ((tx.size : Int) + 1)) ≤ 100000000 := by
          have : k * 16501 ≤ 4096 * 16501 := Nat.mul_le_mul_right _ (by omega)
          omega
        clear ht hsm htl htx htd
        go_wp2_with (go_at_call 12; refine (HX.out _ TAB.out).mono ?_; rintro e w5 ⟨rfl, hb⟩; have B5 := hidden (BK.out.trans (hb.mono hszk)); clear hb)
        go_roundw
        case rel =>
          refine ⟨k + 1, own ++ (tx ++ ⟨#[32]⟩), by rw [HML.out]; omega, by go_num, rfl, ?_, ?_, B5.out⟩
          · rw [HTK.out, backV_snoc, ← HO.out, ← HTD.out]
            simp [ByteArray.data_append]
          · rw [ByteArray.size_append, ByteArray.size_append]
            show own.size + (tx.size + 1) ≤ _
            rw [Nat.succ_mul]
            omega
        case measure => simp [intOf]; omega
      · have z9 : ¬ (k : Int) < (ts.length : Int) + 1 := by omega
        have HO2 : Hid (own.data.toList = backT Lib.itoa ts ++ [32]) := by
          show _ = _
          rw [HO.out, List.take_of_length_le (by rw [HML.out]; omega), ← HM.out, backV_all]
        obtain ⟨n2, n3⟩ := back_law HR.out HO2.out
        have hok : own.size ≤ 100000000 := by
          have : k * 16501 ≤ 4097 * 16501 := Nat.mul_le_mul_right _ (by omega)
          omega
        have hbm : own.size ≤ maxLen := by unfold maxLen; omega
        clear HO HO2
        by_cases hbig : 4096 < own.size
        · have HR2 := hidden (n2 hbig)
          have zb4 : (4096 : Int) < (own.size : Int) := by omega
          clear n2 n3
          go_wp2_with (go_at_call 9; refine (lexP_err wr HR2.out hbm).mono ?_; rintro e w4 ⟨rfl, hb⟩; have B4 := hidden (BW.out.trans (hb.mono BW.out.size)); clear hb)
          go_ret
          exact ⟨rfl, B4.out⟩
        · obtain ⟨vs, hv, hvt⟩ := n3 (by omega)
          have HR2 := hidden hv
          have hvl : vs.length = ts.length := by have := congrArg List.length hvt; simpa using this
          have HVL := hidden hvl
          have HVT := hidden hvt
          have zd : ((ts.length : Int) + 1 != (ts.length : Int) + 1) = false := by simp
          clear n2 n3 hv hvt hvl
          have hww := BW.out.size
          have hgw := TK.out.lt
          go_wp2_with (go_at_call 9; refine (lexP_ok wr HR2.out).mono ?_; rw [HVL.out]; rintro e w4 ⟨ao3, c3, rfl, ht, ⟨⟨g3, e3, hg3, hcur⟩, cc3⟩, hb⟩; subst e3; have M4 : Hid (MR w4 g3 (toks own vs)) := ⟨hcur, ht⟩; have T4 := hidden (TK.out.2.below hb); have B4 := hidden (BW.out.trans (hb.mono BW.out.size)); have hne : g ≠ g3 := (by omega); clear hb ht hcur)
          go_loopw [58] (fun iv wr => ∃ k : Nat, k ≤ ts.length + 1 ∧ iv = .int .i64 (k : Int) ∧ MR wr g3 (M.take k ++ (toks own vs).drop k) ∧ TS wr (some ⟨g, 0, none⟩) M ∧ Below w.heap.size w wr) (fun iv wr => ((ts.length : Int) + 1 - intOf iv).toNat)
          case atStart => exact ⟨0, by omega, rfl, by simpa using M4.out, T4.out, B4.out⟩
          case round =>
            clear M4 T4 B4 BK TK BW TAB T2 B2
            obtain ⟨q, q1, rfl, q3, q4, q5⟩ := hrel
            have MQ := hidden q3
            have TQ := hidden q4
            have BQ := hidden q5
            clear q3 q4 q5
            have hlenL : M.length = (toks own vs).length := by rw [HML.out, toks_len, HVL.out]
            by_cases hlt2 : q < ts.length + 1
            · have z8 : (q : Int) < (ts.length : Int) + 1 := by omega
              have zbq : (0 : Int) ≤ (q : Int) ∧ (q : Int) < (ts.length : Int) + 1 := ⟨by omega, z8⟩
              obtain ⟨tm, htm⟩ : ∃ tm, M[q]? = some tm := ⟨_, List.getElem?_eq_getElem (by rw [HML.out]; exact hlt2)⟩
              obtain ⟨tl, htl⟩ : ∃ tl, (toks own vs)[q]? = some tl := ⟨_, List.getElem?_eq_getElem (by rw [← hlenL, HML.out]; exact hlt2)⟩
              obtain ⟨y1, y2, y3⟩ := back_at (s := s) HVT.out htl (by rw [HM.out]; exact htm)
              obtain ⟨m0, m1, m2, m3⟩ := MQ.out.cells (now_at hlenL htl)
              have mf := MQ.out.frozen
              obtain ⟨gx, ex, x0, x1, x2, x3⟩ := TQ.out.at_ q tm htm
              simp only [Option.some.injEq, Addr.mk.injEq, and_true] at ex
              subst ex
              have MQ2 := hidden (MQ.out.write hlenL htl htm y1 y2 y3)
              clear htm htl y1 y2 y3 m0 m2 m3 x0 x2 x3
              go_wp2_with fail
              go_roundw
              case rel => exact ⟨q + 1, by omega, by go_num, MQ2.out, TQ.out.set (fun q hq => by simp only [Option.some.injEq, Addr.mk.injEq, and_true] at hq; subst hq; exact hne) _, BQ.out.setCell (by show w.heap.size ≤ g3; omega) _⟩
              case measure => simp [intOf]; omega
            · have z8 : ¬ (q : Int) < (ts.length : Int) + 1 := by omega
              have hfin : M.take q ++ (toks own vs).drop q = M := by
                rw [List.take_of_length_le (by rw [HML.out]; omega), List.drop_of_length_le (by rw [← hlenL, HML.out]; omega), List.append_nil]
              have MF := MQ.out
              rw [hfin] at MF
              have HS := hidden (same_yes (some ⟨g3, 0, none⟩) (some ⟨g, 0, none⟩) c3 c M wr MF.2 TQ.out (by rw [HML.out]; omega))
              rw [HML.out] at HS
              clear hfin MF
              go_wp2_with (go_at_call 11; refine HS.out.mono ?_; rintro e w7 ⟨rfl, n7, hw7⟩; have B7 : Hid (Below w.heap.size w w7) := (by rw [hw7]; exact below_drewN BQ.out _); clear hw7)
              go_ret
              exact ⟨rfl, B7.out⟩
end Go.Proofs.YtapecobalkjdhaaDoor
