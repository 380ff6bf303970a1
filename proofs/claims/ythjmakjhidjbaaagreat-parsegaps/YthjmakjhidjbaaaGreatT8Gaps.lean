/-
 Layer 8: ParseGaps, walked: it returns true. No condition but the string's size.
-/
import Derived.Test.YthjmakjhidjbaaaGreatX8Gap
import Derived.Test.YthjmakjhidjbaaaGreatR7Txt
import Derived.Test.YthjmakjhidjbaaaGreatX7Sm
import Derived.Test.YthjmakjhidjbaaaGreatT8Brackets
import Derived.Deep.Cut
namespace Go.Proofs.YthjmakjhidjbaaaGreat
open Go.ChangeShapes Go.WideShapes Go.ChangeAt Go.RowKit Go.Deep
set_option linter.unusedVariables false
set_option linter.unusedSimpArgs false
set_option maxHeartbeats 8000000
set_option maxRecDepth 20000

/-- A token that Text takes. -/
def SmallT (t : TV) : Prop := t.S.length ≤ 4096 ∧ -4611686018427387904 ≤ t.N ∧ t.N ≤ 4611686018427387903
theorem textT_len {t : TV} (h : SmallT t) : (textT Lib.itoa ⟨t.kind, t.S, t.N⟩).length ≤ 16400 := by
 obtain ⟨h1, h2, h3⟩ := h
 unfold textT
 simp only
 split
 ·have := Lib.itoa_length_le t.N (by omega) (by omega)
  omega
 ·split
  ·simp
  ·split
   ·have := escTlen t.S
    simp only [List.length_append, List.length_cons, List.length_nil]
    omega
   ·omega
theorem agL_len {M : List TV} (h : ∀ t, t ∈ M → SmallT t) : ∀ k, (agL (M.take k)).length ≤ 16409 * k := by
 intro k
 induction k generalizing M with
 | zero => simp [agL]
 | succ k ih =>
  cases M with
  | nil => simp [agL]
  | cons t M =>
   have h1 := textT_len (h t List.mem_cons_self)
   have h2 := ih (M := M) (fun u hu => h u (List.mem_cons_of_mem _ hu))
   have e : agL ((t :: M).take (k + 1)) = agOne t ++ agL (M.take k) := by unfold agL; rw [List.take_succ_cons, List.flatMap_cons]
   rw [e, List.length_append]
   unfold agOne
   simp only [List.length_append, gapB, List.length_cons, List.length_nil]
   omega
theorem agL_snoc {M : List TV} {k : Nat} {t : TV} (h : M[k]? = some t) : agL (M.take (k + 1)) = agL (M.take k) ++ agOne t := by
 obtain ⟨hk, e⟩ := List.getElem?_eq_some_iff.1 h
 rw [List.take_succ_eq_append_getElem hk, e]
 unfold agL
 simp
def InH (M : List TV) (w : World) (xv iv : Value) (wr : World) : Prop := ∃ (k : Nat) (x : ByteArray), k ≤ M.length ∧ iv = .int .i64 (k : Int) ∧ xv = .string x ∧ x.data.toList = agL (M.take k) ∧ Below w.heap.size w wr
theorem again8 {M : List TV} (hM : ∀ t, t ∈ M → SmallT t) (hl : M.length ≤ 5000) (w : World) (ao : Option Addr) (c : Nat) (h : TS w ao M) : Calls Tryz.prog 18 #[.slice ao M.length c, .string ⟨#[32, 40, 42, 32, 97, 32, 42, 41, 10]⟩] w fun e w' => e = .returned (.string ⟨(agL M).toArray⟩) ∧ Below w.heap.size w w' := by
 have T := hidden h
 have HM := hidden hM
 have HLn := hidden (agL_len hM)
 clear h hM
 obtain ⟨m, hm⟩ : ∃ m, M.length = m := ⟨_, rfl⟩
 rw [hm] at hl ⊢
 have HMl := hidden hm
 clear hm
 go_enter Tryz.func18, Tryz.ntmps18
 go_wp2_with fail
 go_loopw [5, 9] (fun xv iv wr => InH M w xv iv wr) (fun xv iv wr => (m - intOf iv).toNat)
 case atStart => exact ⟨0, _, by omega, rfl, rfl, rfl, Below.refl _ _⟩
 case round =>
  obtain ⟨k, x, k1, rfl, rfl, hx, hbl⟩ := hrel
  rw [HMl.out] at k1
  have BL := hidden hbl
  have he := hbl.size
  have HX := hidden hx
  have hxl : x.size ≤ 16409 * k := by
   have h1 := HLn.out k
   rw [← hx, len_data] at h1
   exact h1
  have T1 := T.out.below hbl
  clear hbl hx
  by_cases hlt : k < m
  ·have z1 : (k : Int) < (m : Int) := by omega
   have zi : (0 : Int) ≤ (k : Int) ∧ (k : Int) < (m : Int) := ⟨by omega, z1⟩
   obtain ⟨t, ht⟩ : ∃ t, M[k]? = some t := ⟨_, List.getElem?_eq_getElem (by rw [HMl.out]; exact hlt)⟩
   obtain ⟨g, rfl, c0, c1, c2, c3⟩ := T1.at_ k t ht
   have hsm := HM.out t (List.mem_of_getElem? ht)
   have hz := textT_len hsm
   have HT := hidden (fun w => rtext_any t.kind t.pl t.N ⟨t.S.toArray⟩ w (by show t.S.length ≤ _; have := hsm.1; omega) hsm.2.1 hsm.2.2)
   have HE := hidden (agL_snoc ht)
   unfold agOne at HE
   obtain ⟨z, hzz⟩ : ∃ z : ByteArray, ⟨(textT Lib.itoa ⟨t.kind, t.S, t.N⟩).toArray⟩ = z := ⟨_, rfl⟩
   have HZ : Hid (textT Lib.itoa ⟨t.kind, t.S, t.N⟩ = z.data.toList) := by show _ = _; rw [← hzz]
   have hzs : z.size ≤ 16400 := by rw [← hzz]; exact hz
   have HT2 : Hid (∀ w : World, Calls Tryz.prog 26 #[.agg #[.int .i64 t.kind, .int .i64 t.pl, .int .i64 t.N, .string ⟨t.S.toArray⟩]] w fun e w' => e = .returned (.string z) ∧ Below w.heap.size w w') := fun w => by
    rw [← hzz]
    exact HT.out w
   rw [HZ.out] at HE
   clear HT HZ hz hsm ht hzz T1
   go_wp2_with fail
   refine (HT2.out _).mono ?_
   rintro e w1 ⟨rfl, hb⟩
   have B1 := hidden (BL.out.trans (hb.mono he))
   clear hb
   go_wp2_with fail
   go_roundw
   case rel =>
    refine ⟨k + 1, _, by rw [HMl.out]; omega, by go_num, rfl, ?_, B1.out⟩
    rw [HE.out, ← HX.out, ByteArray.data_append, ByteArray.data_append]
    simp [gapB]
   case measure => simp [intOf]; omega
  ·have z1 : ¬ (k : Int) < (m : Int) := by omega
   have HE : Hid (x = ⟨(agL M).toArray⟩) := by
    show _ = _
    have h1 := HX.out
    rw [List.take_of_length_le (by rw [HMl.out]; omega)] at h1
    rw [← h1]
   clear T1
   go_wp2_with fail
   go_ret
   exact ⟨congrArg (fun z => Ending.returned (.string z)) HE.out, BL.out⟩
/-- A source's tokens are small. -/
theorem toks_sm {s : ByteArray} {tp : List (Tk × Nat)} (h : lexR s = .ok tp) : ∀ t, t ∈ toks s tp → SmallT t := fun t ht => by
 obtain ⟨i, hi⟩ := List.getElem?_of_mem ht
 exact toks_small h hi
theorem fallsS {l : List UInt8} {ts : List (Tk × Nat)} (h : Lexes docW l ts) : ∀ (a b : Nat) (p q : Tk × Nat), a < b → ts[a]? = some p → ts[b]? = some q → q.2 < p.2 := by
 induction h with
 | nil => intro a b p q _ h; simp at h
 | blank hc h ih => exact ih
 | comment hc h ih => exact ih
 | @tok l r t ts hb hn ht h ih =>
  intro a b p q hab ha hq
  have hlen := tok_len docSigns ht
  obtain ⟨b', rfl⟩ : ∃ b', b = b' + 1 := ⟨b - 1, by omega⟩
  cases a with
  | succ a => exact ih a b' p q (by omega) (by simpa using ha) (by simpa using hq)
  | zero =>
   simp only [List.getElem?_cons_zero, Option.some.injEq] at ha
   subst ha
   have := (lexes_le docSigns h q (List.mem_of_getElem? (by simpa using hq))).2
   show q.2 < l.length
   omega
/-- Places rise. -/
theorem rises {s : ByteArray} {tp : List (Tk × Nat)} (h : lexR s = .ok tp) {a b : Nat} (hab : a < b) (hb : b ≤ tp.length) : plM (toks s tp) a ≠ plM (toks s tp) b := by
 have hx := (lexR_lexes h).2
 have ha : a < tp.length := by omega
 have h1 := lexes_le docSigns hx _ (List.getElem_mem ha)
 rw [suf_len] at h1
 rw [pl_at ha]
 rcases Nat.lt_or_ge b tp.length with c | c
 ·rw [pl_at c]
  have h2 := fallsS hx a b _ _ hab (List.getElem?_eq_getElem ha) (List.getElem?_eq_getElem c)
  omega
 ·obtain rfl : b = tp.length := by omega
  rw [pl_end]
  omega
theorem plM_at {M : List TV} {k : Nat} {t : TV} (h : M[k]? = some t) : t.pl = plM M k := by unfold plM tv; rw [List.getD_eq_getElem?_getD, h]; rfl
theorem same_zero8 (w : World) : Calls Tryz.prog 12 #[.agg #[.int .i64 0, .int .i64 0, .int .i64 0, .string ⟨#[]⟩, .slice none 0 0], .agg #[.int .i64 0, .int .i64 0, .int .i64 0, .string ⟨#[]⟩, .slice none 0 0], .bool false] w fun e w' => e = .returned (.bool true) ∧ Below w.heap.size w w' :=
 same8 (pl := false) (f := fun _ => 0) (f' := fun _ => 0) (P := fun _ => True) (P' := fun _ => True) (x := .mk 0 0 0 [] []) (y := .mk 0 0 0 [] []) (.mk rfl rfl rfl (fun c => by cases c) rfl (by simp [Tr.L]) (fun k a b h => by simp [Tr.L] at h)) w none none 0 0 0 0 (fun c => by cases c) RL.nil RL.nil
def InK (m : Nat) (w0 : World) (iv : Value) (wr : World) : Prop := ∃ k : Nat, k ≤ m ∧ iv = .int .i64 (k : Int) ∧ Below w0.heap.size w0 wr
theorem parseGaps_walk (s : ByteArray) (w : World) (hza : s.size ≤ 140737488351232) : Calls Tryz.prog 5 #[.string s] w fun e w' => e = .returned (.bool true) ∧ Below w.heap.size w w' := by
 have m1 : Hid (s.size ≤ maxLen) := by show _ ≤ _; unfold maxLen; omega
 cases hl : lexR s with
 | error ek =>
  obtain ⟨e', k'⟩ := ek
  have z1 : (e' != 0) = true := by rw [bne_iff_ne]; exact lexR_err hl
  have HL := hidden hl
  clear hl
  go_enter Tryz.func5, Tryz.ntmps5
  go_wp2_with fail
  refine (aw8_any w).mono ?_
  rintro e w1 ⟨rfl, hb⟩
  have B1 := hidden hb
  clear hb
  go_wp2_with fail
  refine (lexP_err w1 HL.out m1.out).mono ?_
  rintro e w2 ⟨rfl, hb⟩
  have B2 := hidden (B1.out.trans (hb.mono B1.out.size))
  clear hb
  go_wp2_with fail
  go_ret
  exact ⟨rfl, B2.out⟩
 | ok tp =>
  have hct := lexR_count hl
  obtain ⟨us, hu1, hu2⟩ := ag_lexes (n := s.size) (lexR_lexes hl).2
  rw [← ag_toks] at hu1
  have HSm := hidden (toks_sm hl)
  have hln : (toks s tp).length ≤ 5000 := by rw [toks_len]; omega
  have HAg := hidden (fun w ao c h => again8 HSm.out hln w ao c h)
  rw [toks_len] at HAg
  obtain ⟨own, hown⟩ : ∃ own : ByteArray, ⟨(agL (toks s tp)).toArray⟩ = own := ⟨_, rfl⟩
  rw [hown] at HAg
  have hod : own.data.toList = agL (toks s tp) := by rw [← hown]
  have mo : Hid (own.size ≤ maxLen) := by
   show _ ≤ _
   have h1 := agL_len HSm.out (toks s tp).length
   rw [List.take_length, ← hod, len_data] at h1
   unfold maxLen
   omega
  rw [← hod] at hu1
  have HL := hidden hl
  have HR := hidden (fun (a b : Nat) => @rises s tp hl a b)
  clear hown hod hln
  by_cases hz : own.size ≤ 4096
  ·have ho : lexR own = .ok us := lexes_R hz hu1
   have hul : us.length = tp.length := by have := congrArg List.length hu2; simpa using this
   have HO := hidden (fun w => lexP_ok w ho)
   rw [hul] at HO
   have hlaw := gaps_law hl ho hu2
   have HOL := hidden ho
   clear hl ho hu1 hu2
   rcases hlaw with ⟨L, h1, h2, h3⟩ | ⟨h1, h2⟩ | ⟨er, m, hr, hm, h1, h2⟩
   ·have H1 := hidden h1
    have H2 := hidden h2
    have HC := hidden h3
    clear h1 h2 h3
    go_enter Tryz.func5, Tryz.ntmps5
    go_wp2_with fail
    refine (aw8_any w).mono ?_
    rintro e w1 ⟨rfl, hb⟩
    have B1 := hidden hb
    clear hb
    go_wp2_with fail
    refine (lexP_ok w1 HL.out).mono ?_
    rintro e w2 ⟨lo, lc, rfl, ht, _, hb⟩
    have B2 := hidden (B1.out.trans (hb.mono B1.out.size))
    have T2 := hidden ht
    clear hb ht
    go_wp2_with fail
    refine (HAg.out w2 lo lc T2.out).mono ?_
    rintro e w3 ⟨rfl, hb⟩
    have B3 := hidden (B2.out.trans (hb.mono B2.out.size))
    have T3 := hidden (T2.out.below hb)
    clear hb
    go_wp2_with fail
    refine (HO.out w3).mono ?_
    rintro e w4 ⟨mo_, mc, rfl, ht, _, hb⟩
    have B4 := hidden (B3.out.trans (hb.mono B3.out.size))
    have T4 := hidden (T3.out.below hb)
    have U4 := hidden ht
    clear hb ht
    go_wp2_with fail
    refine (parse_ok w4 H1.out m1.out).mono ?_
    rintro e wa0 ⟨ao, cp, rfl, hl, hb⟩
    have hb2 := hb.alloc (by have := hb.size; omega) (.cells #[.int .i64 211, .int .i64 0, .int .i64 0, .string ⟨#[]⟩, .slice ao L.length cp] 25)
    have Ba := hidden (B4.out.trans (hb2.mono B4.out.size))
    have Vwa := hidden (B5.new wa0 211 0 0 ⟨#[]⟩ (.slice ao L.length cp))
    have Xwa := hidden (hl.alloc (.cells #[.int .i64 211, .int .i64 0, .int .i64 0, .string ⟨#[]⟩, .slice ao L.length cp] 25))
    clear hb hb2 hl
    go_upto_region 11 with fail
    generalize wa0.alloc (.cells #[.int .i64 211, .int .i64 0, .int .i64 0, .string ⟨#[]⟩, .slice ao L.length cp] 25) = wa at *
    go_wp2_with fail
    refine (parse_ok wa H2.out mo.out).mono ?_
    rintro e wb0 ⟨ao2, cp2, rfl, hl, hb⟩
    have hb2 := hb.alloc (by have := hb.size; omega) (.cells #[.int .i64 211, .int .i64 0, .int .i64 0, .string ⟨#[]⟩, .slice ao2 L.length cp2] 25)
    have Bb := hidden (Ba.out.trans (hb2.mono Ba.out.size))
    have Vwb := hidden (B5.new wb0 211 0 0 ⟨#[]⟩ (.slice ao2 L.length cp2))
    have Xwb := hidden (hl.alloc (.cells #[.int .i64 211, .int .i64 0, .int .i64 0, .string ⟨#[]⟩, .slice ao2 L.length cp2] 25))
    have Va2 := hidden (Vwa.out.below hb2 (Nat.le_refl _))
    have Xa2 := hidden (Xwa.out.keep (fun q _ hlt => hb2.block q hlt))
    clear hb hb2 hl
    go_upto_region 12 with fail
    generalize wb0.alloc (.cells #[.int .i64 211, .int .i64 0, .int .i64 0, .string ⟨#[]⟩, .slice ao2 L.length cp2] 25) = wb at *
    obtain ⟨v0, v1, v2, v3, v4, vf⟩ := Va2.out.cells
    obtain ⟨u0, u1, u2, u3_, u4, uf⟩ := Vwb.out.cells
    go_wp2_with fail
    refine (same_np (L := L) (L' := L) rfl HC.out Xa2.out Xwb.out).mono ?_
    rintro e w6 ⟨rfl, hb⟩
    have Bc := hidden (Bb.out.trans (hb.mono Bb.out.size))
    clear hb
    go_wp2_with fail
    go_ret
    exact ⟨rfl, Bc.out⟩
   ·have H1 := hidden h1
    have H2 := hidden h2
    clear h1 h2
    go_enter Tryz.func5, Tryz.ntmps5
    go_wp2_with fail
    refine (aw8_any w).mono ?_
    rintro e w1 ⟨rfl, hb⟩
    have B1 := hidden hb
    clear hb
    go_wp2_with fail
    refine (lexP_ok w1 HL.out).mono ?_
    rintro e w2 ⟨lo, lc, rfl, ht, _, hb⟩
    have B2 := hidden (B1.out.trans (hb.mono B1.out.size))
    have T2 := hidden ht
    clear hb ht
    go_wp2_with fail
    refine (HAg.out w2 lo lc T2.out).mono ?_
    rintro e w3 ⟨rfl, hb⟩
    have B3 := hidden (B2.out.trans (hb.mono B2.out.size))
    have T3 := hidden (T2.out.below hb)
    clear hb
    go_wp2_with fail
    refine (HO.out w3).mono ?_
    rintro e w4 ⟨mo_, mc, rfl, ht, _, hb⟩
    have B4 := hidden (B3.out.trans (hb.mono B3.out.size))
    have T4 := hidden (T3.out.below hb)
    have U4 := hidden ht
    clear hb ht
    go_wp2_with fail
    refine (parse_err w4 H1.out m1.out).mono ?_
    rintro e wa0 ⟨rfl, hb⟩
    have hb2 := hb.alloc (by have := hb.size; omega) (.cells #[.int .i64 0, .int .i64 0, .int .i64 0, .string ⟨#[]⟩, .slice none 0 0] 25)
    have Ba := hidden (B4.out.trans (hb2.mono B4.out.size))
    have Vwa := hidden (B5.new wa0 0 0 0 ⟨#[]⟩ (.slice none 0 0))
    clear hb hb2
    go_upto_region 11 with fail
    generalize wa0.alloc (.cells #[.int .i64 0, .int .i64 0, .int .i64 0, .string ⟨#[]⟩, .slice none 0 0] 25) = wa at *
    go_wp2_with fail
    refine (parse_err wa H2.out mo.out).mono ?_
    rintro e wb0 ⟨rfl, hb⟩
    have hb2 := hb.alloc (by have := hb.size; omega) (.cells #[.int .i64 0, .int .i64 0, .int .i64 0, .string ⟨#[]⟩, .slice none 0 0] 25)
    have Bb := hidden (Ba.out.trans (hb2.mono Ba.out.size))
    have Vwb := hidden (B5.new wb0 0 0 0 ⟨#[]⟩ (.slice none 0 0))
    have Va2 := hidden (Vwa.out.below hb2 (Nat.le_refl _))
    clear hb hb2
    go_upto_region 12 with fail
    generalize wb0.alloc (.cells #[.int .i64 0, .int .i64 0, .int .i64 0, .string ⟨#[]⟩, .slice none 0 0] 25) = wb at *
    obtain ⟨v0, v1, v2, v3, v4, vf⟩ := Va2.out.cells
    obtain ⟨u0, u1, u2, u3_, u4, uf⟩ := Vwb.out.cells
    go_wp2_with fail
    refine (same_zero8 _).mono ?_
    rintro e w6 ⟨rfl, hb⟩
    have Bc := hidden (Bb.out.trans (hb.mono Bb.out.size))
    clear hb
    go_wp2_with fail
    go_ret
    exact ⟨rfl, Bc.out⟩
   ·have H1 := hidden h1
    have H2 := hidden h2
    clear h1 h2
    obtain ⟨pa, hpa⟩ : ∃ x, plM (toks s tp) m = x := ⟨_, rfl⟩
    obtain ⟨pb, hpb⟩ : ∃ x, plM (toks own us) m = x := ⟨_, rfl⟩
    rw [hpa] at H1
    rw [hpb] at H2
    have HPA := hidden hpa
    have HPB := hidden hpb
    have HUL := hidden hul
    clear hpa hpb hul
    rcases hr with hr | hr
    all_goals
     subst hr
     go_enter Tryz.func5, Tryz.ntmps5
     go_wp2_with fail
     refine (aw8_any w).mono ?_
     rintro e w1 ⟨rfl, hb⟩
     have B1 := hidden hb
     clear hb
     go_wp2_with fail
     refine (lexP_ok w1 HL.out).mono ?_
     rintro e w2 ⟨lo, lc, rfl, ht, _, hb⟩
     have B2 := hidden (B1.out.trans (hb.mono B1.out.size))
     have T2 := hidden ht
     clear hb ht
     go_wp2_with fail
     refine (HAg.out w2 lo lc T2.out).mono ?_
     rintro e w3 ⟨rfl, hb⟩
     have B3 := hidden (B2.out.trans (hb.mono B2.out.size))
     have T3 := hidden (T2.out.below hb)
     clear hb
     go_wp2_with fail
     refine (HO.out w3).mono ?_
     rintro e w4 ⟨mo_, mc, rfl, ht, _, hb⟩
     have B4 := hidden (B3.out.trans (hb.mono B3.out.size))
     have T4 := hidden (T3.out.below hb)
     have U4 := hidden ht
     clear hb ht
     go_wp2_with fail
     refine (parse_err w4 H1.out m1.out).mono ?_
     rintro e wa0 ⟨rfl, hb⟩
     have hb2 := hb.alloc (by have := hb.size; omega) (.cells #[.int .i64 0, .int .i64 0, .int .i64 0, .string ⟨#[]⟩, .slice none 0 0] 25)
     have Ba := hidden (B4.out.trans (hb2.mono B4.out.size))
     have Vwa := hidden (B5.new wa0 0 0 0 ⟨#[]⟩ (.slice none 0 0))
     have Ta := hidden (T4.out.below hb2)
     have Ua := hidden (U4.out.below hb2)
     clear hb hb2
     go_upto_region 11 with fail
     generalize wa0.alloc (.cells #[.int .i64 0, .int .i64 0, .int .i64 0, .string ⟨#[]⟩, .slice none 0 0] 25) = wa at *
     go_wp2_with fail
     refine (parse_err wa H2.out mo.out).mono ?_
     rintro e wb0 ⟨rfl, hb⟩
     have hb2 := hb.alloc (by have := hb.size; omega) (.cells #[.int .i64 0, .int .i64 0, .int .i64 0, .string ⟨#[]⟩, .slice none 0 0] 25)
     have Bb := hidden (Ba.out.trans (hb2.mono Ba.out.size))
     have Vwb := hidden (B5.new wb0 0 0 0 ⟨#[]⟩ (.slice none 0 0))
     have Va2 := hidden (Vwa.out.below hb2 (Nat.le_refl _))
     have Tb := hidden (Ta.out.below hb2)
     have Ub := hidden (Ua.out.below hb2)
     clear hb hb2
     go_upto_region 12 with fail
     generalize wb0.alloc (.cells #[.int .i64 0, .int .i64 0, .int .i64 0, .string ⟨#[]⟩, .slice none 0 0] 25) = wb at *
     obtain ⟨v0, v1, v2, v3, v4, vf⟩ := Va2.out.cells
     obtain ⟨u0, u1, u2, u3_, u4, uf⟩ := Vwb.out.cells
     go_wp2_with fail
     refine (same_zero8 _).mono ?_
     rintro e w6 ⟨rfl, hb⟩
     have Bc := hidden (Bb.out.trans (hb.mono Bb.out.size))
     have Tc := hidden (Tb.out.below hb)
     have Uc := hidden (Ub.out.below hb)
     clear hb v0 v1 v2 v3 v4 vf u0 u1 u2 u3_ u4 uf
     go_wp2_with fail
     go_loopw [77] (fun iv wr => InK m w6 iv wr) (fun iv wr => ((tp.length : Int) + 1 - intOf iv).toNat)
     case atStart => exact ⟨0, by omega, rfl, Below.refl _ _⟩
     case round =>
      obtain ⟨k, k1, rfl, hbl⟩ := hrel
      have BL := hidden hbl
      have hd := Bc.out.size
      have he := hbl.size
      have zz : (k : Int) < (tp.length : Int) + 1 := by omega
      have zz2 : (k : Int) < ((tp.length + 1 : Nat) : Int) := by omega
      have zi : (0 : Int) ≤ (k : Int) ∧ (k : Int) < ((tp.length + 1 : Nat) : Int) := ⟨by omega, zz2⟩
      obtain ⟨t, ht⟩ : ∃ t, (toks s tp)[k]? = some t := ⟨_, List.getElem?_eq_getElem (by rw [toks_len]; omega)⟩
      obtain ⟨t2, ht2⟩ : ∃ t, (toks own us)[k]? = some t := ⟨_, List.getElem?_eq_getElem (by rw [toks_len, HUL.out]; omega)⟩
      have e1 := plM_at ht
      have e2 := plM_at ht2
      obtain ⟨g, rfl, _, c1, _, _⟩ := (Tc.out.below hbl).at_ k t ht
      obtain ⟨g2, rfl, _, d1, _, _⟩ := (Uc.out.below hbl).at_ k t2 ht2
      clear ht ht2 hbl
      by_cases hkm : k = m
      ·subst hkm
       rw [e1, HPA.out] at c1
       rw [e2, HPB.out] at d1
       clear e1 e2
       go_wp2_with fail
       go_ret
       exact ⟨rfl, Bc.out.trans (BL.out.mono hd)⟩
      ·have hne : (t.pl == pa) = false := by
        rw [beq_eq_false_iff_ne, e1, ← HPA.out]
        exact HR.out k m (by omega) hm
       clear e1 e2 d1
       go_wp2_with fail
       go_roundw
       case rel => exact ⟨k + 1, by omega, by go_num, BL.out⟩
       case measure => simp [intOf]; omega
  ·have ho : lexR own = .error (4, own.size) := by unfold lexR; rw [if_pos (by omega)]
   have HO := hidden ho
   clear ho hu1 hu2 hl
   go_enter Tryz.func5, Tryz.ntmps5
   go_wp2_with fail
   refine (aw8_any w).mono ?_
   rintro e w1 ⟨rfl, hb⟩
   have B1 := hidden hb
   clear hb
   go_wp2_with fail
   refine (lexP_ok w1 HL.out).mono ?_
   rintro e w2 ⟨lo, lc, rfl, ht, _, hb⟩
   have B2 := hidden (B1.out.trans (hb.mono B1.out.size))
   have T2 := hidden ht
   clear hb ht
   go_wp2_with fail
   refine (HAg.out w2 lo lc T2.out).mono ?_
   rintro e w3 ⟨rfl, hb⟩
   have B3 := hidden (B2.out.trans (hb.mono B2.out.size))
   have T3 := hidden (T2.out.below hb)
   clear hb
   go_wp2_with fail
   refine (lexP_err w3 HO.out mo.out).mono ?_
   rintro e w4 ⟨rfl, hb⟩
   have B4 := hidden (B3.out.trans (hb.mono B3.out.size))
   clear hb
   go_wp2_with fail
   go_ret
   exact ⟨rfl, B4.out⟩
end Go.Proofs.YthjmakjhidjbaaaGreat
