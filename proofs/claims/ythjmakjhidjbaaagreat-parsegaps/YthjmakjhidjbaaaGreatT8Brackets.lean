/-
 Layer 8: ParseBrackets, walked: it returns true. No condition but the string's size.
-/
import Derived.Test.YthjmakjhidjbaaaGreatX8BrkL
import Derived.Test.YthjmakjhidjbaaaGreatT8First
import Derived.Test.YthjmakjhidjbaaaGreatLibAW
namespace Go.Proofs.YthjmakjhidjbaaaGreat
open Go.ChangeShapes Go.WideShapes Go.ChangeAt Go.RowKit Go.Deep
set_option linter.unusedVariables false
set_option linter.unusedSimpArgs false
set_option maxHeartbeats 16000000
set_option maxRecDepth 20000

/-- Two programs that are the same but for places. -/
theorem same_np {f f' : Nat → Int} {P P' : Nat → Prop} {L L' : List Tr} {w : World} {ao ao' : Option Addr} {c c' : Nat} (hn : L.map Tr.np = L'.map Tr.np) (hc : 1 + cntL L ≤ 4096) (h : RL f P w L ao) (h' : RL f' P' w L' ao') :
  Calls Tryz.prog 12 #[.agg #[.int .i64 211, .int .i64 0, .int .i64 0, .string ⟨#[]⟩, .slice ao L.length c], .agg #[.int .i64 211, .int .i64 0, .int .i64 0, .string ⟨#[]⟩, .slice ao' L'.length c'], .bool false] w fun e w' => e = .returned (.bool true) ∧ Below w.heap.size w w' :=
 same8 (x := .mk 211 0 0 [] L) (y := .mk 211 0 0 [] L') (same_of_eqv f f' 4096 _ _ (by rw [cnt_root]; exact hc) (by omega) (eqv_mk hn)) w ao ao' c c' 0 0 (fun e => by cases e) h h'
/-- How it stands while the end's sign is looked for. -/
def InE (m : Nat) (w1 : World) (iv : Value) (wr : World) : Prop := ∃ k : Nat, k ≤ m ∧ iv = .int .i64 (k : Int) ∧ wr = w1
theorem ended_yes {s : ByteArray} {tp : List (Tk × Nat)} (h : lexR s = .ok tp) {k : Tk} (hk : k ∈ srcT tp) (hs : isS [59, 59] k = true) (w : World) :
  Calls Tryz.prog 19 #[.string s] w fun e w' => e = .returned (.bool true) ∧ Below w.heap.size w w' := by
 obtain ⟨m, hm, rfl⟩ := List.getElem_of_mem hk
 have hc := lexR_count h
 have tm := toks_tm s tp
 rw [srcT_len] at hm
 have hM : Hid (∀ i, i ≤ tp.length → ∃ t : TV, (toks s tp)[i]? = some t ∧ tkv (toks s tp) i = tk (srcT tp) i ∧ tkv (toks s tp) i = ⟨t.kind, t.S, t.N⟩) := fun i hi => ⟨tv (toks s tp) i, tv_at (by rw [toks_len]; omega), tm.tok i (by rw [srcT_len]; exact hi), rfl⟩
 have hm2 : Hid (isS [59, 59] (tk (srcT tp) m) = true) := by
  show _ = true
  rw [tk_lt (by rw [srcT_len]; exact hm)]
  exact hs
 have H := hidden h
 clear h hs hk
 go_enter Tryz.func19, Tryz.ntmps19
 go_wp2_with fail
 refine (lexP_ok w H.out).mono ?_
 rintro e w1 ⟨ao, cp, rfl, ht, _, hb⟩
 have B1 := hidden hb
 have T1 := hidden ht
 clear hb ht
 go_wp2_with fail
 go_loopw [15] (fun iv wr => InE m w1 iv wr) (fun iv wr => ((tp.length : Int) + 1 - intOf iv).toNat)
 case atStart => exact ⟨0, by omega, rfl, rfl⟩
 case round =>
  obtain ⟨k, k1, rfl, rfl⟩ := hrel
  have z1 : (k : Int) < ((tp.length + 1 : Nat) : Int) := by omega
  have z2 : (k : Int) < (tp.length : Int) + 1 := by omega
  obtain ⟨t, ht1, ht2, ht3⟩ := hM.out k (by omega)
  obtain ⟨g, e1, a0, a1, a2, a3⟩ := T1.out.at_ k t ht1
  subst e1
  have hq : tk (srcT tp) k = ⟨t.kind, t.S, t.N⟩ := by rw [← ht2]; exact ht3
  have HQ := hidden hq
  clear ht1 ht2 ht3 hq
  cases hs : isS [59, 59] (tk (srcT tp) k) with
  | true =>
   rw [HQ.out] at hs
   unfold isS at hs
   rw [Bool.and_eq_true, beq_iff_eq, beq_iff_eq] at hs
   obtain ⟨h5, h6⟩ := hs
   simp only at h5 h6
   rw [h5] at a0
   rw [h6] at a3
   clear h5 h6
   go_wp2_with fail
   go_ret
   exact ⟨rfl, B1.out⟩
  | false =>
   have hkm : k < m := by
    rcases Nat.lt_or_ge k m with c | c
    ·exact c
    ·have e2 : k = m := by omega
     rw [e2, hm2.out] at hs
     cases hs
   rw [HQ.out] at hs
   by_cases h5 : t.kind = 5
   ·rw [h5] at a0
    have h6 : (t.S == [59, 59]) = false := by
     unfold isS at hs
     rw [h5] at hs
     simpa using hs
    clear hs h5
    go_wp2_with fail
    go_roundw
    case rel => exact ⟨k + 1, by omega, by go_num, rfl⟩
    case measure => simp [intOf]; omega
   ·clear hs
    go_wp2_with fail
    go_roundw
    case rel => exact ⟨k + 1, by omega, by go_num, rfl⟩
    case measure => simp [intOf]; omega
theorem brk_data1 (s : ByteArray) : (⟨#[108, 101, 116, 32, 95, 32, 61, 32]⟩ ++ s).data.toList = letB ++ 32 :: s.data.toList := by
 rw [ByteArray.data_append]
 simp [letB]
theorem brk_dataX (s : ByteArray) : (⟨#[108, 101, 116, 32, 95, 32, 61, 32, 40]⟩ ++ s ++ ⟨#[41]⟩).data.toList = letB ++ 32 :: (40 :: (s.data.toList ++ 41 :: [])) := by
 rw [ByteArray.data_append, ByteArray.data_append]
 simp [letB]
theorem brk_dataY (s : ByteArray) : (⟨#[108, 101, 116, 32, 95, 32, 61, 32, 98, 101, 103, 105, 110, 32]⟩ ++ s ++ ⟨#[32, 101, 110, 100]⟩).data.toList = letB ++ 32 :: ([98, 101, 103, 105, 110] ++ 32 :: (s.data.toList ++ 32 :: [101, 110, 100])) := by
 rw [ByteArray.data_append, ByteArray.data_append]
 simp [letB]
theorem brk_size1 (s : ByteArray) : (⟨#[108, 101, 116, 32, 95, 32, 61, 32]⟩ ++ s).size = s.size + 8 := by
 rw [← len_data, brk_data1]
 simp only [letB, List.length_append, List.length_cons, List.length_nil, len_data]
 omega
theorem brk_sizeX (s : ByteArray) : (⟨#[108, 101, 116, 32, 95, 32, 61, 32, 40]⟩ ++ s ++ ⟨#[41]⟩).size = s.size + 10 := by
 rw [← len_data, brk_dataX]
 simp only [letB, List.length_append, List.length_cons, List.length_nil, len_data]
 omega
theorem brk_sizeY (s : ByteArray) : (⟨#[108, 101, 116, 32, 95, 32, 61, 32, 98, 101, 103, 105, 110, 32]⟩ ++ s ++ ⟨#[32, 101, 110, 100]⟩).size = s.size + 18 := by
 rw [← len_data, brk_dataY]
 simp only [letB, List.length_append, List.length_cons, List.length_nil, len_data]
 omega
theorem parseBrackets_walk (s : ByteArray) (w : World) (hza : s.size ≤ 140737488351232) : Calls Tryz.prog 6 #[.string s] w fun e w' => e = .returned (.bool true) ∧ Below w.heap.size w w' := by
 have m1 : Hid ((⟨#[108, 101, 116, 32, 95, 32, 61, 32]⟩ ++ s).size ≤ maxLen) := by show _ ≤ _; rw [brk_size1]; unfold maxLen; omega
 have mx : Hid ((⟨#[108, 101, 116, 32, 95, 32, 61, 32, 40]⟩ ++ s ++ ⟨#[41]⟩).size ≤ maxLen) := by show _ ≤ _; rw [brk_sizeX]; unfold maxLen; omega
 have my : Hid ((⟨#[108, 101, 116, 32, 95, 32, 61, 32, 98, 101, 103, 105, 110, 32]⟩ ++ s ++ ⟨#[32, 101, 110, 100]⟩).size ≤ maxLen) := by show _ ≤ _; rw [brk_sizeY]; unfold maxLen; omega
 have zx : Hid ((⟨#[108, 101, 116, 32, 95, 32, 61, 32, 40]⟩ ++ s ++ ⟨#[41]⟩).size = s.size + 10) := brk_sizeX s
 have zy : Hid ((⟨#[108, 101, 116, 32, 95, 32, 61, 32, 98, 101, 103, 105, 110, 32]⟩ ++ s ++ ⟨#[32, 101, 110, 100]⟩).size = s.size + 18) := brk_sizeY s
 cases h1 : parseR (⟨#[108, 101, 116, 32, 95, 32, 61, 32]⟩ ++ s) with
 | error ep =>
  obtain ⟨e1, p1⟩ := ep
  have z1 : (e1 != 0) = true := by rw [bne_iff_ne]; exact parseR_err h1
  have H1 := hidden h1
  clear h1
  go_enter Tryz.func6, Tryz.ntmps6
  go_wp2_with fail
  refine (aw8_any w).mono ?_
  rintro e w1 ⟨rfl, hb⟩
  have B1 := hidden hb
  clear hb
  go_wp2_with fail
  refine (parse_err w1 H1.out m1.out).mono ?_
  rintro e w20 ⟨rfl, hb⟩
  have hb2 := hb.alloc (by have := hb.size; omega) (.cells #[.int .i64 0, .int .i64 0, .int .i64 0, .string ⟨#[]⟩, .slice none 0 0] 25)
  have B2 := hidden (B1.out.trans (hb2.mono B1.out.size))
  clear hb hb2
  go_wp2_with fail
  go_ret
  exact ⟨rfl, B2.out⟩
 | ok L =>
  have H1 := hidden h1
  clear h1
  rcases Nat.decEq L.length 1 with hL | hL
  ·have z1 : ((L.length : Int) != 1) = true := by rw [bne_iff_ne]; omega
   clear hL
   go_enter Tryz.func6, Tryz.ntmps6
   go_wp2_with fail
   refine (aw8_any w).mono ?_
   rintro e w1 ⟨rfl, hb⟩
   have B1 := hidden hb
   clear hb
   go_wp2_with fail
   refine (parse_ok w1 H1.out m1.out).mono ?_
   rintro e w20 ⟨ao, cp, rfl, hl, hb⟩
   have hb2 := hb.alloc (by have := hb.size; omega) (.cells #[.int .i64 211, .int .i64 0, .int .i64 0, .string ⟨#[]⟩, .slice ao L.length cp] 25)
   have B2 := hidden (B1.out.trans (hb2.mono B1.out.size))
   have V2 := hidden (B5.new w20 211 0 0 ⟨#[]⟩ (.slice ao L.length cp))
   clear hb hb2 hl
   go_upto_region 4 with fail
   generalize w20.alloc (.cells #[.int .i64 211, .int .i64 0, .int .i64 0, .string ⟨#[]⟩, .slice ao L.length cp] 25) = w2 at *
   obtain ⟨v0, v1, v2, v3, v4, vf⟩ := V2.out.cells
   go_wp2_with fail
   go_ret
   exact ⟨rfl, B2.out⟩
  ·obtain ⟨t, rfl⟩ : ∃ t, L = [t] := by
    cases L with
    | nil => cases hL
    | cons a l => cases l with
     | nil => exact ⟨a, rfl⟩
     | cons b l => simp at hL
   rw [show ([t] : List Tr).length = 1 from rfl] at hL
   clear hL
   rcases Nat.decEq t.L.length 1 with hT | hT
   ·have z2 : ((t.L.length : Int) != 1) = true := by rw [bne_iff_ne]; omega
    clear hT
    go_enter Tryz.func6, Tryz.ntmps6
    go_wp2_with fail
    refine (aw8_any w).mono ?_
    rintro e w1 ⟨rfl, hb⟩
    have B1 := hidden hb
    clear hb
    go_wp2_with fail
    refine (parse_ok w1 H1.out m1.out).mono ?_
    rintro e w20 ⟨ao, cp, rfl, hl, hb⟩
    have hb2 := hb.alloc (by have := hb.size; omega) (.cells #[.int .i64 211, .int .i64 0, .int .i64 0, .string ⟨#[]⟩, .slice ao [t].length cp] 25)
    have B2 := hidden (B1.out.trans (hb2.mono B1.out.size))
    have V2 := hidden (B5.new w20 211 0 0 ⟨#[]⟩ (.slice ao 1 cp))
    have X2 := hidden (hl.alloc (.cells #[.int .i64 211, .int .i64 0, .int .i64 0, .string ⟨#[]⟩, .slice ao 1 cp] 25))
    clear hb hb2 hl
    go_upto_region 4 with fail
    have e2 : w20.alloc (.cells #[.int .i64 211, .int .i64 0, .int .i64 0, .string ⟨#[]⟩, .slice ao ([t] : List Tr).length cp] 25) = w20.alloc (.cells #[.int .i64 211, .int .i64 0, .int .i64 0, .string ⟨#[]⟩, .slice ao 1 cp] 25) := rfl
    rw [e2] at B2
    clear e2
    generalize w20.alloc (.cells #[.int .i64 211, .int .i64 0, .int .i64 0, .string ⟨#[]⟩, .slice ao 1 cp] 25) = w2 at *
    obtain ⟨v0, v1, v2, v3, v4, vf⟩ := V2.out.cells
    have hX := X2.out
    obtain ⟨aos, cps, hh, hr⟩ := hX
    obtain ⟨g, rfl, _, _, _, _, _, s4⟩ := hh 0 t rfl
    have s4' : w2.cell? ⟨g, 4, none⟩ = some (.slice (aos 0) t.L.length (cps 0)) := s4
    clear s4 hh hr
    go_wp2_with fail
    go_ret
    exact ⟨rfl, B2.out⟩
   ·have z2 : ((t.L.length : Int) != 1) = false := by rw [hT]; rfl
    go_enter Tryz.func6, Tryz.ntmps6
    go_wp2_with fail
    refine (aw8_any w).mono ?_
    rintro e w1 ⟨rfl, hb⟩
    have B1 := hidden hb
    clear hb
    go_wp2_with fail
    refine (parse_ok w1 H1.out m1.out).mono ?_
    rintro e w20 ⟨ao, cp, rfl, hl, hb⟩
    have hb2 := hb.alloc (by have := hb.size; omega) (.cells #[.int .i64 211, .int .i64 0, .int .i64 0, .string ⟨#[]⟩, .slice ao [t].length cp] 25)
    have B2 := hidden (B1.out.trans (hb2.mono B1.out.size))
    have V2 := hidden (B5.new w20 211 0 0 ⟨#[]⟩ (.slice ao 1 cp))
    have X2 := hidden (hl.alloc (.cells #[.int .i64 211, .int .i64 0, .int .i64 0, .string ⟨#[]⟩, .slice ao 1 cp] 25))
    clear hb hb2 hl
    go_upto_region 4 with fail
    have e2 : w20.alloc (.cells #[.int .i64 211, .int .i64 0, .int .i64 0, .string ⟨#[]⟩, .slice ao ([t] : List Tr).length cp] 25) = w20.alloc (.cells #[.int .i64 211, .int .i64 0, .int .i64 0, .string ⟨#[]⟩, .slice ao 1 cp] 25) := rfl
    rw [e2] at B2
    clear e2
    generalize w20.alloc (.cells #[.int .i64 211, .int .i64 0, .int .i64 0, .string ⟨#[]⟩, .slice ao 1 cp] 25) = w2 at *
    obtain ⟨v0, v1, v2, v3, v4, vf⟩ := V2.out.cells
    have hX := X2.out
    obtain ⟨aos, cps, hh, hr⟩ := hX
    obtain ⟨g, rfl, _, _, _, _, _, s4⟩ := hh 0 t rfl
    have s4' : w2.cell? ⟨g, 4, none⟩ = some (.slice (aos 0) t.L.length (cps 0)) := s4
    clear s4 hh hr
    obtain ⟨_, _, _, _, _, _, hcn⟩ := parse_read H1.out
    have HCN := hidden hcn
    clear hcn
    have HT := hidden hT
    clear hT
    have hs3 : s.toList = [] ∨ (¬ s.toList = [] ∧ (1 ≤ (s.size : Int) ∧ (s.size : Int) - 1 < (s.size : Int))) := by
     rw [Go.ByteArray.toList_eq]
     by_cases h0 : s.data.toList = []
     ·exact Or.inl h0
     ·refine Or.inr ⟨h0, ?_, by omega⟩
      have h9 : s.data.toList.length ≠ 0 := fun e => h0 (List.length_eq_zero_iff.1 e)
      rw [len_data] at h9
      omega
    rcases hs3 with hs3 | ⟨hs3, hs4⟩
    all_goals (go_wp2_with fail)
    all_goals (first | (go_ret; exact ⟨rfl, B2.out⟩) | skip)
    all_goals clear v0 v1 v2 v3 v4 vf
    all_goals (have DX := hidden (brk_dataX s); have DY := hidden (brk_dataY s); generalize (⟨#[108, 101, 116, 32, 95, 32, 61, 32, 40]⟩ ++ s ++ ⟨#[41]⟩) = xs at *; generalize (⟨#[108, 101, 116, 32, 95, 32, 61, 32, 98, 101, 103, 105, 110, 32]⟩ ++ s ++ ⟨#[32, 101, 110, 100]⟩) = ys at *)
    all_goals
     by_cases hbig : 4096 < s.size + 10
     ·have HX : Hid (parseR xs = .error (4, 0)) := parse_big (by rw [zx.out]; exact hbig)
      have HY : Hid (parseR ys = .error (4, 0)) := parse_big (by rw [zy.out]; omega)
      have q1 : (4096 : Int) < ((xs.size : Nat) : Int) := by rw [zx.out]; omega
      have q2 : (4096 : Int) < ((ys.size : Nat) : Int) := by rw [zy.out]; omega
      refine (parse_err w2 HX.out mx.out).mono ?_
      rintro e w30 ⟨rfl, hb⟩
      have hb2 := hb.alloc (by have := hb.size; omega) (.cells #[.int .i64 0, .int .i64 0, .int .i64 0, .string ⟨#[]⟩, .slice none 0 0] 25)
      have B3 := hidden (B2.out.trans (hb2.mono B2.out.size))
      clear hb hb2
      go_upto_region 11 with fail
      generalize w30.alloc (.cells #[.int .i64 0, .int .i64 0, .int .i64 0, .string ⟨#[]⟩, .slice none 0 0] 25) = w3 at *
      go_wp2_with fail
      refine (parse_err w3 HY.out my.out).mono ?_
      rintro e w40 ⟨rfl, hb⟩
      have hb2 := hb.alloc (by have := hb.size; omega) (.cells #[.int .i64 0, .int .i64 0, .int .i64 0, .string ⟨#[]⟩, .slice none 0 0] 25)
      have B4 := hidden (B3.out.trans (hb2.mono B3.out.size))
      clear hb hb2
      go_upto_region 12 with fail
      generalize w40.alloc (.cells #[.int .i64 0, .int .i64 0, .int .i64 0, .string ⟨#[]⟩, .slice none 0 0] 25) = w4 at *
      go_wp2_with fail
      go_ret
      exact ⟨rfl, B4.out⟩
     ·have hlaw := brackets_law H1.out HT.out (brk_data1 s) DX.out DY.out (by rw [zx.out]; omega)
      rcases hlaw with ⟨L2, hx, hn, hy⟩ | ⟨p2, tp, hx, hls, k, hk1, hk2⟩
      ·have HX := hidden hx
       have HN := hidden hn
       clear hx hn
       refine (parse_ok w2 HX.out mx.out).mono ?_
       rintro e w30 ⟨ao2, cp2, rfl, hl, hb⟩
       have hb2 := hb.alloc (by have := hb.size; omega) (.cells #[.int .i64 211, .int .i64 0, .int .i64 0, .string ⟨#[]⟩, .slice ao2 L2.length cp2] 25)
       have B3 := hidden (B2.out.trans (hb2.mono B2.out.size))
       have V3 := hidden (V2.out.below hb2 (Nat.le_refl _))
       have X3 := hidden (X2.out.keep (fun q _ hlt => hb2.block q hlt))
       have U3 := hidden (B5.new w30 211 0 0 ⟨#[]⟩ (.slice ao2 L2.length cp2))
       have Y3 := hidden (hl.alloc (.cells #[.int .i64 211, .int .i64 0, .int .i64 0, .string ⟨#[]⟩, .slice ao2 L2.length cp2] 25))
       clear hb hb2 hl
       go_upto_region 11 with fail
       generalize w30.alloc (.cells #[.int .i64 211, .int .i64 0, .int .i64 0, .string ⟨#[]⟩, .slice ao2 L2.length cp2] 25) = w3 at *
       go_wp2_with fail
       by_cases hyb : 4096 < s.size + 18
       ·have HY : Hid (parseR ys = .error (4, 0)) := parse_big (by rw [zy.out]; exact hyb)
        have q2 : (4096 : Int) < ((ys.size : Nat) : Int) := by rw [zy.out]; omega
        clear hy
        refine (parse_err w3 HY.out my.out).mono ?_
        rintro e w40 ⟨rfl, hb⟩
        have hb2 := hb.alloc (by have := hb.size; omega) (.cells #[.int .i64 0, .int .i64 0, .int .i64 0, .string ⟨#[]⟩, .slice none 0 0] 25)
        have B4 := hidden (B3.out.trans (hb2.mono B3.out.size))
        have V4 := hidden (V3.out.below hb2 (Nat.le_refl _))
        have X4 := hidden (X3.out.keep (fun q _ hlt => hb2.block q hlt))
        have U4 := hidden (U3.out.below hb2 (Nat.le_refl _))
        have Y4 := hidden (Y3.out.keep (fun q _ hlt => hb2.block q hlt))
        clear hb hb2
        go_upto_region 12 with fail
        generalize w40.alloc (.cells #[.int .i64 0, .int .i64 0, .int .i64 0, .string ⟨#[]⟩, .slice none 0 0] 25) = w4 at *
        obtain ⟨v0, v1, v2, v3, v4, vf⟩ := V4.out.cells
        obtain ⟨u0, u1, u2, u3_, u4, uf⟩ := U4.out.cells
        go_wp2_with fail
        refine (same_np (L := [t]) HN.out HCN.out X4.out Y4.out).mono ?_
        rintro e w5 ⟨rfl, hb⟩
        have B5 := hidden (B4.out.trans (hb.mono B4.out.size))
        clear hb v0 v1 v2 v3 v4 vf u0 u1 u2 u3_ u4 uf
        go_wp2_with fail
        go_ret
        exact ⟨rfl, B5.out⟩
       ·obtain ⟨L3, hy1, hy2⟩ := hy (by rw [zy.out]; omega)
        have HY := hidden hy1
        have HM := hidden hy2
        clear hy hy1 hy2
        refine (parse_ok w3 HY.out my.out).mono ?_
        rintro e w40 ⟨ao3, cp3, rfl, hl, hb⟩
        have hb2 := hb.alloc (by have := hb.size; omega) (.cells #[.int .i64 211, .int .i64 0, .int .i64 0, .string ⟨#[]⟩, .slice ao3 L3.length cp3] 25)
        have B4 := hidden (B3.out.trans (hb2.mono B3.out.size))
        have V4 := hidden (V3.out.below hb2 (Nat.le_refl _))
        have X4 := hidden (X3.out.keep (fun q _ hlt => hb2.block q hlt))
        have U4 := hidden (U3.out.below hb2 (Nat.le_refl _))
        have Y4 := hidden (Y3.out.keep (fun q _ hlt => hb2.block q hlt))
        have R4 := hidden (B5.new w40 211 0 0 ⟨#[]⟩ (.slice ao3 L3.length cp3))
        have Z4 := hidden (hl.alloc (.cells #[.int .i64 211, .int .i64 0, .int .i64 0, .string ⟨#[]⟩, .slice ao3 L3.length cp3] 25))
        clear hb hb2 hl
        go_upto_region 12 with fail
        generalize w40.alloc (.cells #[.int .i64 211, .int .i64 0, .int .i64 0, .string ⟨#[]⟩, .slice ao3 L3.length cp3] 25) = w4 at *
        obtain ⟨v0, v1, v2, v3, v4, vf⟩ := V4.out.cells
        obtain ⟨u0, u1, u2, u3_, u4, uf⟩ := U4.out.cells
        go_wp2_with fail
        refine (same_np (L := [t]) HN.out HCN.out X4.out Y4.out).mono ?_
        rintro e w5 ⟨rfl, hb⟩
        have B5 := hidden (B4.out.trans (hb.mono B4.out.size))
        have V5 := hidden (V4.out.below hb (Nat.le_refl _))
        have X5 := hidden (X4.out.keep (fun q _ hlt => hb.block q hlt))
        have R5 := hidden (R4.out.below hb (Nat.le_refl _))
        have Z5 := hidden (Z4.out.keep (fun q _ hlt => hb.block q hlt))
        clear hb v0 v1 v2 v3 v4 vf u0 u1 u2 u3_ u4 uf
        obtain ⟨v0, v1, v2, v3, v4, vf⟩ := V5.out.cells
        obtain ⟨u0, u1, u2, u3_, u4, uf⟩ := R5.out.cells
        go_wp2_with fail
        refine (same_np (L := [t]) HM.out HCN.out X5.out Z5.out).mono ?_
        rintro e w6 ⟨rfl, hb⟩
        have B6 := hidden (B5.out.trans (hb.mono B5.out.size))
        clear hb
        go_wp2_with fail
        go_ret
        exact ⟨rfl, B6.out⟩
      ·have HX := hidden hx
       have HE := hidden (fun w => ended_yes hls hk1 hk2 w)
       clear hx hls hk1 hk2
       refine (parse_err w2 HX.out mx.out).mono ?_
       rintro e w30 ⟨rfl, hb⟩
       have hb2 := hb.alloc (by have := hb.size; omega) (.cells #[.int .i64 0, .int .i64 0, .int .i64 0, .string ⟨#[]⟩, .slice none 0 0] 25)
       have B3 := hidden (B2.out.trans (hb2.mono B2.out.size))
       clear hb hb2
       go_upto_region 11 with fail
       generalize w30.alloc (.cells #[.int .i64 0, .int .i64 0, .int .i64 0, .string ⟨#[]⟩, .slice none 0 0] 25) = w3 at *
       go_wp2_with fail
       refine (parse_some _ w3 my.out).mono ?_
       rintro e w40 ⟨k4, ao4, n4, cp4, rfl, hb⟩
       have hb2 := hb.alloc (by have := hb.size; omega) (.cells #[.int .i64 k4, .int .i64 0, .int .i64 0, .string ⟨#[]⟩, .slice ao4 n4 cp4] 25)
       have B4 := hidden (B3.out.trans (hb2.mono B3.out.size))
       clear hb hb2
       go_upto_region 12 with fail
       generalize w40.alloc (.cells #[.int .i64 k4, .int .i64 0, .int .i64 0, .string ⟨#[]⟩, .slice ao4 n4 cp4] 25) = w4 at *
       go_wp2_with fail
       refine (HE.out w4).mono ?_
       rintro e w5 ⟨rfl, hb⟩
       have B5 := hidden (B4.out.trans (hb.mono B4.out.size))
       clear hb
       go_wp2_with fail
       go_ret
       exact ⟨rfl, B5.out⟩
end Go.Proofs.YthjmakjhidjbaaaGreat
