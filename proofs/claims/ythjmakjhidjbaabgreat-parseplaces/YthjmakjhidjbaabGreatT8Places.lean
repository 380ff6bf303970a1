/-
 Layer 8: ParsePlaces, walked: it returns true. No condition but the string's size.
-/
import Derived.Test.YthjmakjhidjbaabGreatX8Np
import Derived.Test.YthjmakjhidjbaabGreatT8First
import Derived.Test.YthjmakjhidjbaabGreatT8Spread
namespace Go.Proofs.YthjmakjhidjbaabGreat
open Go.ChangeShapes Go.WideShapes Go.ChangeAt Go.RowKit Go.Deep
set_option linter.unusedVariables false
set_option linter.unusedSimpArgs false
set_option maxHeartbeats 4000000
set_option maxRecDepth 20000

/-- Tokens' places rise. -/
theorem falls {l : List UInt8} {ts : List (Tk × Nat)} (h : Lexes docW l ts) : ∀ (a b : Nat) (p q : Tk × Nat), a ≤ b → ts[a]? = some p → ts[b]? = some q → q.2 ≤ p.2 := by
 induction h with
 | nil => intro a b p q _ h; simp at h
 | blank hc h ih => exact ih
 | comment hc h ih => exact ih
 | @tok l r t ts hb hn ht h ih =>
  intro a b p q hab ha hq
  have hlen := tok_len docSigns ht
  cases a with
  | succ a =>
   obtain ⟨b', rfl⟩ : ∃ b', b = b' + 1 := ⟨b - 1, by omega⟩
   exact ih a b' p q (by omega) (by simpa using ha) (by simpa using hq)
  | zero =>
   simp only [List.getElem?_cons_zero, Option.some.injEq] at ha
   subst ha
   cases b with
   | zero =>
    simp only [List.getElem?_cons_zero, Option.some.injEq] at hq
    subst hq
    exact Nat.le_refl _
   | succ b =>
    have := (lexes_le docSigns h q (List.mem_of_getElem? (by simpa using hq))).2
    show q.2 ≤ l.length
    omega
theorem pl_rise {s : ByteArray} {tp : List (Tk × Nat)} (h : lexR s = .ok tp) {a b : Nat} (hab : a ≤ b) (hb : b < tp.length + 1) : plM (toks s tp) a ≤ plM (toks s tp) b ∧ 0 ≤ plM (toks s tp) a ∧ plM (toks s tp) b ≤ 4096 := by
 have hz := (lexR_count h).1
 have hx := (lexR_lexes h).2
 rcases Nat.lt_or_ge b tp.length with c | c
 ·rw [pl_at (show a < tp.length by omega), pl_at c]
  have := falls hx a b _ _ hab (List.getElem?_eq_getElem (show a < tp.length by omega)) (List.getElem?_eq_getElem c)
  omega
 ·obtain rfl : b = tp.length := by omega
  rw [pl_end]
  rcases Nat.lt_or_ge a tp.length with c | c
  ·rw [pl_at c]; omega
  ·obtain rfl : a = tp.length := by omega
   rw [pl_end]; omega
theorem parsePlaces_walk (s : ByteArray) (w : World) (hza : s.size ≤ 140737488351232) : Calls Tryz.prog 3 #[.string s] w fun e w' => e = .returned (.bool true) ∧ Below w.heap.size w w' := by
 have m1 : Hid (s.size ≤ maxLen) := by show _ ≤ _; unfold maxLen; omega
 cases h1 : parseR s with
 | error ep =>
  obtain ⟨e1, p1⟩ := ep
  have z1 : (e1 != 0) = true := by rw [bne_iff_ne]; exact parseR_err h1
  have H1 := hidden h1
  clear h1
  go_enter Tryz.func3, Tryz.ntmps3
  go_wp2_with fail
  refine (aw8_any w).mono ?_
  rintro e w1 ⟨rfl, hb⟩
  have B1 := hidden hb
  clear hb
  go_wp2_with fail
  refine (parse_err w1 H1.out m1.out).mono ?_
  rintro e w20 ⟨rfl, hb⟩
  have hb2 := hb.alloc (by have := hb.size; omega) (.cells #[.int .i64 0, .int .i64 0, .int .i64 0, .string ⟨#[]⟩, .slice none 0 0] 25)
  have B2 := hidden (B1.out.trans (hb2.mono B1.out.size))
  clear hb hb2
  go_wp2_with fail
  go_ret
  exact ⟨rfl, B2.out⟩
 | ok L =>
  obtain ⟨tp, r, e0, l1, l2, l3, l4⟩ := parse_read h1
  have hpo : PL 0 e0 r.L := reads_post l2
  rw [l3] at hpo
  have hfi := (reads_fine (ts := srcT tp) .items (i := 0) (Nat.zero_le _))
  rw [l2] at hfi
  have he0 : e0 ≤ tp.length := by rw [← srcT_len]; exact hfi.2.1
  have hcn : cntL L ≤ 4 * tp.length := by have := hpo.2; omega
  have hct := lexR_count l1
  have HPl : Hid (plS s = plM (toks s tp)) := by show _ = _; unfold plS; rw [l1]
  have hS := hidden (fun (w : World) (ao lo : Option Addr) (c lc : Nat) (P : Nat → Prop) hrl hts => spread8 (f := plM (toks s tp)) (P := P) (M := toks s tp) (by rw [toks_len]; omega) (fun k t hk => by unfold plM tv; rw [List.getD_eq_getElem?_getD, hk]; rfl) (fun a b hab hb => by rw [toks_len] at hb; exact ⟨(pl_rise l1 hab hb).1, (pl_rise l1 hab hb).2.1⟩) 20000 (.mk 211 0 0 [] L) (by rw [cnt_root]; omega) (by omega) 0 e0 0 0 w ao lo c lc hpo.1 (by rw [toks_len]; omega) (Or.inl ⟨rfl, rfl⟩) (Int.le_refl _) (fun d _ hd => by rw [toks_len] at hd; exact (pl_rise l1 (Nat.le_refl d) hd).2.1) hrl hts)
  have H1 := hidden h1
  have HL := hidden l1
  rw [toks_len] at hS
  have HCt : Hid (∀ (w : World) (P : Nat → Prop) (ao : Option Addr) (cp : Nat), RL (plM (toks s tp)) P w L ao → Calls Tryz.prog 9 #[.agg #[.int .i64 211, .int .i64 0, .int .i64 0, .string ⟨#[]⟩, .slice ao L.length cp], .int .i64 (4 * ((tp.length : Int) + 1) + 2)] w fun e w' => e = .returned (.int .i64 ((1 + cntL L : Nat) : Int)) ∧ Below w.heap.size w w') := fun w P ao cp h => by
   refine (countP 20000 (.mk 211 0 0 [] L) (by rw [cnt_root]; omega) (by omega) w ao cp 0 _ (by omega) (by omega) h).mono (fun e w' hh => ⟨hh.1.trans ?_, hh.2⟩)
   have e1 : cntM (.mk 211 0 0 [] L) (4 * ((tp.length : Int) + 1) + 2) = ((1 + cntL L : Nat) : Int) := by unfold cntM; rw [cnt_root, if_neg (by omega), if_pos (by omega)]
   rw [e1]
  clear h1 l1 l2 l3 l4 hpo hfi he0
  go_enter Tryz.func3, Tryz.ntmps3
  go_wp2_with fail
  refine (aw8_any w).mono ?_
  rintro e w1 ⟨rfl, hb⟩
  have B1 := hidden hb
  clear hb
  go_wp2_with fail
  refine (parse_ok w1 H1.out m1.out).mono ?_
  rintro e w20 ⟨ao, cp, rfl, hl, hb⟩
  rw [HPl.out] at hl
  have hb2 := hb.alloc (by have := hb.size; omega) (.cells #[.int .i64 211, .int .i64 0, .int .i64 0, .string ⟨#[]⟩, .slice ao L.length cp] 25)
  have B2 := hidden (B1.out.trans (hb2.mono B1.out.size))
  have V2 := hidden (B5.new w20 211 0 0 ⟨#[]⟩ (.slice ao L.length cp))
  have X2 := hidden (hl.alloc (.cells #[.int .i64 211, .int .i64 0, .int .i64 0, .string ⟨#[]⟩, .slice ao L.length cp] 25))
  clear hb hb2 hl
  go_upto_region 4 with fail
  generalize w20.alloc (.cells #[.int .i64 211, .int .i64 0, .int .i64 0, .string ⟨#[]⟩, .slice ao L.length cp] 25) = w2 at *
  go_wp2_with fail
  refine (lexP_ok w2 HL.out).mono ?_
  rintro e w3 ⟨lo, lc, rfl, ht, _, hb⟩
  have B3 := hidden (B2.out.trans (hb.mono B2.out.size))
  have V3 := hidden (V2.out.below hb (Nat.le_refl _))
  have X3 := hidden (X2.out.keep (fun q _ hlt => hb.block q hlt))
  have T3 := hidden ht
  clear hb ht
  obtain ⟨v0, v1, v2, v3, v4, vf⟩ := V3.out.cells
  go_wp2_with fail
  refine (hS.out w3 ao lo cp lc _ X3.out T3.out).mono ?_
  rintro e w4 ⟨a', b', rfl, r1, r2, hb⟩
  have B4 := hidden (B3.out.trans (hb.mono B3.out.size))
  have V4 := hidden (V3.out.below hb (Nat.le_refl _))
  have X4 := hidden (X3.out.keep (fun q _ hlt => hb.block q hlt))
  clear hb v0 v1 v2 v3 v4 vf
  obtain ⟨v0, v1, v2, v3, v4, vf⟩ := V4.out.cells
  go_wp2_with fail
  refine (HCt.out w4 _ ao cp X4.out).mono ?_
  rintro e w5 ⟨rfl, hb⟩
  have B9 := hidden (B4.out.trans (hb.mono B4.out.size))
  have q1 : 1 + (cntL L : Int) ≤ 4 * ((tp.length : Int) + 1) + 1 := by omega
  clear hb v0 v1 v2 v3 v4 vf
  go_wp2_with fail
  go_ret
  exact ⟨by rw [← decide_eq_true q1]; rfl, B9.out⟩
end Go.Proofs.YthjmakjhidjbaabGreat
