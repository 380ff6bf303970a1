/-
  Layer 7: LexJoins, walked: it returns true. Condition: the table of powers of ten reads as its initialiser lays it.
-/
import Derived.Test.YtapecobalkjdhaaDoorX7Law2
import Derived.Test.YtapecobalkjdhaaDoorL7Rows
namespace Go.Proofs.YtapecobalkjdhaaDoor
open Go.ChangeShapes Go.WideShapes Go.ChangeAt Go.RowKit Go.Deep
set_option linter.unusedVariables false
set_option maxHeartbeats 2000000
set_option maxRecDepth 20000

/-- Whatever Lex tells. -/
theorem lexP_some (s : ByteArray) (w : World) (hz : s.size ≤ maxLen) : Calls Tryd.prog 9 #[.string s] w fun e w' => ∃ ao n c x k, e = .returned (.tuple #[.slice ao n c, .int .i64 x, .int .i64 k]) ∧ Below w.heap.size w w' := by
  cases h : lexR s with
  | ok ts => exact (lexP_ok w h).mono (fun e w' ⟨ao, c, h1, _, _, hb⟩ => ⟨ao, _, c, _, _, h1, hb⟩)
  | error ek => exact (lexP_err w h hz).mono (fun e w' ⟨h1, hb⟩ => ⟨none, 0, 0, _, _, h1, hb⟩)
theorem join_data (a b : ByteArray) : (a ++ ⟨#[9]⟩ ++ b).data.toList = a.data.toList ++ 9 :: b.data.toList := by
  rw [ByteArray.data_append, ByteArray.data_append]
  simp
/-- How it stands while the second one's tokens are put behind the first one's. -/
def InJ (X L : List TV) (w : World) (v iv : Value) (wr : World) : Prop := ∃ k : Nat, k ≤ L.length ∧ iv = .int .i64 (k : Int) ∧ TR wr w.heap.size v (X ++ L.take k) ∧ Below w.heap.size w wr
theorem two_new (w : World) (o o' : Obj) : ((w.alloc o).alloc o').heap[w.heap.size + 1]? = some o' := by
  rw [← nblk_alloc w o]
  exact blk_alloc_new _ _
theorem two_below (w : World) (o o' : Obj) : Below w.heap.size w ((w.alloc o).alloc o') := ((Below.refl _ _).alloc (Nat.le_refl _) _).alloc (by rw [nblk_alloc]; omega) _
theorem lexJoins_walk (a b : ByteArray) (w : World) (hza : a.size ≤ 140737488351232) (hzb : b.size ≤ 140737488351232) (htab : Lib.TabIs Tryd.prog w "internal/strconv.uint64pow10" .u64 Lib.pow10Tab) :
    Calls Tryd.prog 7 #[.string a, .string b] w fun e w' => e = .returned (.bool true) ∧ Below w.heap.size w w' := by
  have HA := hidden (awake_any w htab)
  have ha1 : a.size ≤ maxLen := by unfold maxLen; omega
  have hb1 : b.size ≤ maxLen := by unfold maxLen; omega
  have hcs : (a ++ ⟨#[9]⟩ ++ b).size = a.size + 1 + b.size := by rw [← len_data, join_data, List.length_append, List.length_cons, len_data, len_data]; omega
  have hc1 : Hid ((a ++ ⟨#[9]⟩ ++ b).size ≤ maxLen) := by show _ ≤ _; rw [hcs]; unfold maxLen; omega
  have HCS := hidden hcs
  clear htab hcs
  cases hRa : lexR a with
  | error ek =>
    obtain ⟨e', k⟩ := ek
    have z1 : (e' != 0) = true := by rw [bne_iff_ne]; exact lexR_err hRa
    have HR := hidden hRa
    clear hRa
    go_enter Tryd.func7, Tryd.ntmps7
    go_wp2_with (first
      | (go_at_call 8; refine HA.out.mono ?_; rintro e w1 ⟨rfl, hb⟩; have B1 := hidden hb; clear hb)
      | (go_at_call 9; have b3 := B3.out; refine (lexP_some _ w3 hc1.out).mono ?_; rintro e w4 ⟨ao3, n3, cp3, x3, k3, rfl, hb⟩; have B4 := hidden (b3.trans (hb.mono b3.size)); clear hb b3)
      | (go_at_call 9; have b2 := B2.out; refine (lexP_some _ w2 hb1).mono ?_; rintro e w3 ⟨ao2, n2, cp2, x2, k2, rfl, hb⟩; have B3 := hidden (b2.trans (hb.mono b2.size)); clear hb b2)
      | (go_at_call 9; refine (lexP_err w1 HR.out ha1).mono ?_; rintro e w2 ⟨rfl, hb⟩; have B2 := hidden (B1.out.trans (hb.mono B1.out.size)); clear hb))
    go_ret
    exact ⟨rfl, B4.out⟩
  | ok ts =>
    cases hRb : lexR b with
    | error ek =>
      obtain ⟨e', k⟩ := ek
      have z1 : (e' != 0) = true := by rw [bne_iff_ne]; exact lexR_err hRb
      have HR := hidden hRa
      have HR2 := hidden hRb
      clear hRa hRb
      go_enter Tryd.func7, Tryd.ntmps7
      go_wp2_with (first
        | (go_at_call 8; refine HA.out.mono ?_; rintro e w1 ⟨rfl, hb⟩; have B1 := hidden hb; clear hb)
        | (go_at_call 9; have b3 := B3.out; refine (lexP_some _ w3 hc1.out).mono ?_; rintro e w4 ⟨ao3, n3, cp3, x3, k3, rfl, hb⟩; have B4 := hidden (b3.trans (hb.mono b3.size)); clear hb b3)
        | (go_at_call 9; have b2 := B2.out; refine (lexP_err w2 HR2.out hb1).mono ?_; rintro e w3 ⟨rfl, hb⟩; have B3 := hidden (b2.trans (hb.mono b2.size)); clear hb b2)
        | (go_at_call 9; refine (lexP_ok w1 HR.out).mono ?_; rintro e w2 ⟨ao, c, rfl, _, _, hb⟩; have B2 := hidden (B1.out.trans (hb.mono B1.out.size)); clear hb))
      go_ret
      exact ⟨rfl, B4.out⟩
    | ok us =>
      obtain ⟨j1, j2, j3⟩ := join_law hRa hRb (join_data a b)
      have hsa := lexR_count hRa
      have hsb := lexR_count hRb
      have HR := hidden hRa
      have HR2 := hidden hRb
      clear hRa hRb
      by_cases hbig : 4096 < a.size + 1 + b.size
      · have HR3 := hidden (j2 (by omega))
        have zb : (4096 : Int) < (a.size : Int) + 1 + (b.size : Int) := by omega
        clear j1 j2 j3
        go_enter Tryd.func7, Tryd.ntmps7
        go_wp2_with (first
          | (go_at_call 8; refine HA.out.mono ?_; rintro e w1 ⟨rfl, hb⟩; have B1 := hidden hb; clear hb)
          | (go_at_call 9; have b3 := B3.out; refine (lexP_err w3 HR3.out hc1.out).mono ?_; rintro e w4 ⟨rfl, hb⟩; have B4 := hidden (b3.trans (hb.mono b3.size)); clear hb b3)
          | (go_at_call 9; have b2 := B2.out; refine (lexP_ok w2 HR2.out).mono ?_; rintro e w3 ⟨ao2, c2, rfl, _, _, hb⟩; have B3 := hidden (b2.trans (hb.mono b2.size)); clear hb b2)
          | (go_at_call 9; refine (lexP_ok w1 HR.out).mono ?_; rintro e w2 ⟨ao, c, rfl, _, _, hb⟩; have B2 := hidden (B1.out.trans (hb.mono B1.out.size)); clear hb))
        go_ret
        exact ⟨rfl, B4.out⟩
      · obtain ⟨vs, hv, hvt⟩ := j3 (by omega)
        have HR3 := hidden hv
        have HVT := hidden hvt
        have hsv := lexR_count hv
        have hvl : vs.length = ts.length + us.length := by
          have h1 := congrArg List.length hvt
          rw [toks_len, List.length_append, tvs_len, List.length_map, toks_len] at h1
          omega
        have HVL := hidden hvl
        clear j1 j2 j3 hv hvt hvl
        go_enter Tryd.func7, Tryd.ntmps7
        go_upto_region 10 with (first
          | (go_at_call 8; refine HA.out.mono ?_; rintro e w1 ⟨rfl, hb⟩; have B1 := hidden hb; clear hb)
          | (go_at_call 9; have b3 := B3.out; refine (lexP_ok w3 HR3.out).mono ?_; rintro e w4 ⟨ao3, c3, rfl, ht, ⟨⟨g3, e3, _⟩, cc3⟩, hb⟩; subst e3; have T4 := hidden ht; have U4 := hidden (U3.out.below hb); have S4 := hidden (S3.out.below hb); have B4 := hidden (b3.trans (hb.mono b3.size)); clear hb b3 ht)
          | (go_at_call 9; have b2 := B2.out; refine (lexP_ok w2 HR2.out).mono ?_; rintro e w3 ⟨ao2, c2, rfl, ht, ⟨⟨g2, e2, _⟩, cc2⟩, hb⟩; subst e2; have U3 := hidden ht; have S3 := hidden (S2.out.below hb); have B3 := hidden (b2.trans (hb.mono b2.size)); clear hb b2 ht)
          | (go_at_call 9; refine (lexP_ok w1 HR.out).mono ?_; rintro e w2 ⟨ao, c, rfl, ht, ⟨⟨g, e1, _⟩, cc⟩, hb⟩; subst e1; have S2 := hidden ht; have B2 := hidden (B1.out.trans (hb.mono B1.out.size)); clear hb ht))
        have hsz4 := B4.out.size
        have s1 := run_tok_to (g := g) (n := ts.length + 1) (c := c) (i := ts.length) (by omega)
        obtain ⟨X, hX⟩ : ∃ X, tvs a.size ts = X := ⟨_, rfl⟩
        obtain ⟨L, hL⟩ : ∃ L, (toks b us).map (fun t => t.on ((a.size + 1 : Nat) : Int)) = L := ⟨_, rfl⟩
        have HX := hidden hX
        have HLL := hidden hL
        have hXl : X.length = ts.length := by rw [← hX, tvs_len]
        have hLl : L.length = us.length + 1 := by rw [← hL, List.length_map, toks_len]
        have ST : Hid (TS w4 (some ⟨g, 0, none⟩) X) := by
          have := S4.out.take ts.length
          unfold toks at this
          rw [List.take_append_of_le_length (by rw [tvs_len]; omega), List.take_of_length_le (by rw [tvs_len]; omega), hX] at this
          exact this
        rw [hX, hL] at HVT
        have HXL := hidden hXl
        have HLL2 := hidden hLl
        have hlt4 : Hid (g2 < w4.heap.size ∧ g3 < w4.heap.size) := by
          obtain ⟨g', e, d0, _⟩ := U4.out.at_ 0 ((toks b us)[0]'(by rw [toks_len]; omega)) (List.getElem?_eq_getElem _)
          obtain ⟨g'', e'', d0', _⟩ := T4.out.at_ 0 ((toks (a ++ ⟨#[9]⟩ ++ b) vs)[0]'(by rw [toks_len]; omega)) (List.getElem?_eq_getElem _)
          simp only [Option.some.injEq, Addr.mk.injEq, and_true] at e e''
          subst e
          subst e''
          exact ⟨cell_lt d0, cell_lt d0'⟩
        clear hX hL hXl hLl
        go_upto_region 11 with (at_builtin; refine append_toks0 rfl (.tmp 59) (.tmp 64) rfl w4.heap.size w4.heap.size 0 [] rfl (TR.empty w4 w4.heap.size (Nat.le_refl _)) (Nat.le_refl _) g c ts.length X HXL.out rfl (ST.out.below ((Below.refl _ _).alloc (Nat.le_refl _) _)) (by simp; omega) (by rw [nblk_alloc]; omega) ?_; intro g5 c5 w5 hr5 gr5; have T5 : Hid (TR w5 w4.heap.size (.slice (some ⟨g5, 0, none⟩) (0 + ts.length) c5) X) := hr5; have B5 : Hid (Below w4.heap.size w4 w5) := Below.grown ((Below.refl _ w4).alloc (Nat.le_refl _) _) gr5 (by rw [nblk_alloc]; omega) (fun q hq => by have : w4.heap.size = q := (by simpa using hq); omega); clear hr5 gr5)
        clear s1
        go_wp2_with fail
        go_loopw [14, 68] (fun v iv wr => InJ X L w4 v iv wr) (fun v iv wr => ((us.length : Int) + 1 - intOf iv).toNat)
        case atStart => exact ⟨0, Nat.zero_le _, rfl, by rw [List.take_zero, List.append_nil]; have := T5.out; rw [Nat.zero_add] at this; exact this, B5.out⟩
        case round =>
          clear T5 B5
          obtain ⟨k, k1, rfl, k3, k4⟩ := hrel
          obtain ⟨ao9, c9, rfl⟩ := k3.slice
          have T6 := hidden k3
          have B6 := hidden k4
          have U6 := hidden (U4.out.below k4)
          have T9 := hidden (T4.out.below k4)
          have hsz6 := k4.size
          have hl9 : (X ++ L.take k).length = ts.length + k := by
            rw [List.length_append, HXL.out, List.length_take, HLL2.out]
            have := k1
            rw [HLL2.out] at this
            omega
          have HL9 := hidden hl9
          rw [HLL2.out] at k1
          clear k3 k4 hl9
          by_cases hlt : k < us.length + 1
          · have z1 : (k : Int) < (us.length : Int) + 1 := by omega
            obtain ⟨t, ht⟩ : ∃ t, (toks b us)[k]? = some t := ⟨_, List.getElem?_eq_getElem (by rw [toks_len]; exact hlt)⟩
            obtain ⟨g2', e2, d0, d1, d2, d3⟩ := U6.out.at_ k t ht
            simp only [Option.some.injEq, Addr.mk.injEq, and_true] at e2
            subst e2
            obtain ⟨tp0, tp1⟩ := toks_pl ht
            have HLK : Hid (L[k]? = some (t.on ((a.size + 1 : Nat) : Int))) := by
              show _ = _
              rw [← HLL.out, List.getElem?_map, ht]
              rfl
            have zb : (0 : Int) ≤ (k : Int) ∧ (k : Int) < (us.length : Int) + 1 := ⟨by omega, z1⟩
            clear ht
            go_upto_region 16 with fail
            go_wp2_with (at_builtin; refine append_tok rfl (.tmp 82) (.tmp 84) rfl w4.heap.size (.slice ao9 (X ++ L.take k).length c9) (X ++ L.take k) rfl (own_keepB T6.out (two_below _ _ _)) (wr.heap.size + 1) 1 ⟨t.kind, t.pl + ((a.size : Int) + 1), t.N, t.S⟩ (0, 0) rfl (two_new _ _ _) (by rw [HL9.out]; omega) (by rw [nblk_alloc, nblk_alloc]; omega) ?_; intro g6 c6 w6 hr6 gr6; have T7 := hidden hr6; have B7 : Hid (Below w4.heap.size w4 w6) := Below.grown (B6.out.trans ((two_below wr _ _).mono hsz6)) gr6 (by rw [nblk_alloc, nblk_alloc]; omega) (fun q hq => own_ge T6.out q hq); clear hr6 gr6)
            go_roundw
            case rel =>
              refine ⟨k + 1, by rw [HLL2.out]; omega, by go_num, ?_, B7.out⟩
              rw [take_more HLK.out, ← List.append_assoc]
              have := T7.out
              unfold TR at this ⊢
              simp only [List.length_append, List.length_take, List.length_cons, List.length_nil] at this ⊢
              exact this
            case measure => simp [intOf]; omega
          · have z1 : ¬ (k : Int) < (us.length : Int) + 1 := by omega
            have hV : Hid (X ++ L.take k = toks (a ++ ⟨#[9]⟩ ++ b) vs) := by
              show _ = _
              rw [HVT.out, List.take_of_length_le (by rw [HLL2.out]; omega)]
            have hT := T6.out
            rw [hV.out] at hT
            obtain ⟨hn1, hn2⟩ := TR.ts hT
            have HS := hidden (same_yes (some ⟨g3, 0, none⟩) ao9 c3 c9 _ wr T9.out hn2 (by rw [toks_len]; omega))
            rw [toks_len] at HS
            have hlen : (X ++ L.take k).length = vs.length + 1 := by rw [hV.out, toks_len]
            rw [hlen]
            have B9 := hidden (B4.out.trans (B6.out.mono hsz4))
            clear hT hn1 hn2 hlen
            go_wp2_with (go_at_call 11; refine HS.out.mono ?_; rintro e w7 ⟨rfl, n7, hw7⟩; have B7 : Hid (Below w.heap.size w w7) := (by rw [hw7]; exact below_drewN B9.out _); clear hw7)
            go_ret
            exact ⟨rfl, B7.out⟩
end Go.Proofs.YtapecobalkjdhaaDoor
