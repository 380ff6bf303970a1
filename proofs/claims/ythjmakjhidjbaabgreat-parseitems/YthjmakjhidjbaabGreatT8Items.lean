/-
 Layer 8: ParseItems, walked: it returns true. No condition but the strings' sizes.
-/
import Derived.Test.YthjmakjhidjbaabGreatX8Items
import Derived.Test.YthjmakjhidjbaabGreatT8First
import Derived.Test.YthjmakjhidjbaabGreatLibAW
import Derived.BigQuiet
import Derived.Test.YthjmakjhidjbaabGreatLibAE
namespace Go.Proofs.YthjmakjhidjbaabGreat
open Go.ChangeShapes Go.WideShapes Go.ChangeAt Go.RowKit Go.Deep
set_option linter.unusedVariables false
set_option linter.unusedSimpArgs false
set_option maxHeartbeats 16000000
set_option maxRecDepth 20000

theorem drewN_below (w : World) (n : Nat) : Below w.heap.size w (w.drewN n) := ⟨rfl, rfl, rfl, Nat.le_refl _, fun _ _ => rfl⟩
theorem cell_to {w w' : World} {g o : Nat} {v : Value} (hb : Below w.heap.size w w') (h : w.cell? ⟨g, o, none⟩ = some v) : w'.cell? ⟨g, o, none⟩ = some v := by
 have e : w'.heap[g]? = w.heap[g]? := hb.block g (cell_lt h)
 rw [← h]
 exact World.cell?_of_block (a := ⟨g, o, none⟩) e
theorem cnt_call {f : Nat → Int} {P : Nat → Prop} {L : List Tr} {w : World} {ao : Option Addr} {cp : Nat} (hc : 1 + cntL L ≤ 4096) (h : RL f P w L ao) : Calls Tryz.prog 9 #[.agg #[.int .i64 211, .int .i64 0, .int .i64 0, .string ⟨#[]⟩, .slice ao L.length cp], .int .i64 5000] w fun e w' => e = .returned (.int .i64 ((1 + cntL L : Nat) : Int)) ∧ Below w.heap.size w w' := by
 refine (countP 20000 (.mk 211 0 0 [] L) (by rw [cnt_root]; omega) (by omega) w ao cp 0 5000 (by omega) (by omega) h).mono (fun e w' hh => ⟨hh.1.trans ?_, hh.2⟩)
 have e1 : cntM (.mk 211 0 0 [] L) 5000 = ((1 + cntL L : Nat) : Int) := by unfold cntM; rw [cnt_root, if_neg (by omega), if_pos (by omega)]
 rw [e1]
theorem parseItems_walk (a b : ByteArray) (w : World) (hza : a.size ≤ 140737488351232) (hzb : b.size ≤ 140737488351232) : Calls Tryz.prog 4 #[.string a, .string b] w fun e w' => e = .returned (.bool true) ∧ Below w.heap.size w w' := by
 have ma : Hid (a.size ≤ maxLen) := by show _ ≤ _; unfold maxLen; omega
 have mb : Hid (b.size ≤ maxLen) := by show _ ≤ _; unfold maxLen; omega
 have mo : Hid ((a ++ ⟨#[10]⟩ ++ b).size ≤ maxLen) := by show _ ≤ _; rw [nl_size]; unfold maxLen; omega
 have HPa := hidden (fun w => parse_some a w ma.out)
 have HPb := hidden (fun w => parse_some b w mb.out)
 by_cases hee : errE (parseR a) ≠ 0 ∨ errE (parseR b) ≠ 0
 ·obtain ⟨e1, he1⟩ : ∃ e1, errE (parseR a) = e1 := ⟨_, rfl⟩
  obtain ⟨e2, he2⟩ : ∃ e2, errE (parseR b) = e2 := ⟨_, rfl⟩
  rw [he1] at HPa hee
  rw [he2] at HPb hee
  generalize errP (parseR a) = p1 at *
  generalize errP (parseR b) = p2 at *
  clear he1 he2
  by_cases h1 : e1 = 0
  ·have h2 : (e2 != 0) = true := by rw [bne_iff_ne]; omega
   subst h1
   clear hee
   go_enter Tryz.func4, Tryz.ntmps4
   go_wp2_with fail
   refine (aw8_any w).mono ?_
   rintro e w1 ⟨rfl, hb⟩
   have B1 := hidden hb
   clear hb
   go_wp2_with fail
   refine (HPa.out w1).mono ?_
   rintro e w20 ⟨kw2, aow2, nw2, cpw2, rfl, hb⟩
   have hb2 := hb.alloc (by have := hb.size; omega) (.cells #[.int .i64 kw2, .int .i64 0, .int .i64 0, .string ⟨#[]⟩, .slice aow2 nw2 cpw2] 25)
   have B2 := hidden (B1.out.trans (hb2.mono B1.out.size))
   clear hb hb2
   go_upto_region 4 with fail
   generalize w20.alloc (.cells #[.int .i64 kw2, .int .i64 0, .int .i64 0, .string ⟨#[]⟩, .slice aow2 nw2 cpw2] 25) = w2 at *
   go_wp2_with fail
   refine (HPb.out w2).mono ?_
   rintro e w30 ⟨kw3, aow3, nw3, cpw3, rfl, hb⟩
   have hb2 := hb.alloc (by have := hb.size; omega) (.cells #[.int .i64 kw3, .int .i64 0, .int .i64 0, .string ⟨#[]⟩, .slice aow3 nw3 cpw3] 25)
   have B3 := hidden (B2.out.trans (hb2.mono B2.out.size))
   clear hb hb2
   go_upto_region 5 with fail
   generalize w30.alloc (.cells #[.int .i64 kw3, .int .i64 0, .int .i64 0, .string ⟨#[]⟩, .slice aow3 nw3 cpw3] 25) = w3 at *
   go_wp2_with fail
   go_ret
   exact ⟨rfl, B3.out⟩
  ·have h2 : (e1 != 0) = true := by rw [bne_iff_ne]; exact h1
   clear hee h1
   go_enter Tryz.func4, Tryz.ntmps4
   go_wp2_with fail
   refine (aw8_any w).mono ?_
   rintro e w1 ⟨rfl, hb⟩
   have B1 := hidden hb
   clear hb
   go_wp2_with fail
   refine (HPa.out w1).mono ?_
   rintro e w20 ⟨kw2, aow2, nw2, cpw2, rfl, hb⟩
   have hb2 := hb.alloc (by have := hb.size; omega) (.cells #[.int .i64 kw2, .int .i64 0, .int .i64 0, .string ⟨#[]⟩, .slice aow2 nw2 cpw2] 25)
   have B2 := hidden (B1.out.trans (hb2.mono B1.out.size))
   clear hb hb2
   go_upto_region 4 with fail
   generalize w20.alloc (.cells #[.int .i64 kw2, .int .i64 0, .int .i64 0, .string ⟨#[]⟩, .slice aow2 nw2 cpw2] 25) = w2 at *
   go_wp2_with fail
   refine (HPb.out w2).mono ?_
   rintro e w30 ⟨kw3, aow3, nw3, cpw3, rfl, hb⟩
   have hb2 := hb.alloc (by have := hb.size; omega) (.cells #[.int .i64 kw3, .int .i64 0, .int .i64 0, .string ⟨#[]⟩, .slice aow3 nw3 cpw3] 25)
   have B3 := hidden (B2.out.trans (hb2.mono B2.out.size))
   clear hb hb2
   go_upto_region 5 with fail
   generalize w30.alloc (.cells #[.int .i64 kw3, .int .i64 0, .int .i64 0, .string ⟨#[]⟩, .slice aow3 nw3 cpw3] 25) = w3 at *
   go_wp2_with fail
   go_ret
   exact ⟨rfl, B3.out⟩
 ·obtain ⟨La, ha⟩ : ∃ L, parseR a = .ok L := by
   cases h : parseR a with
   | ok L => exact ⟨L, rfl⟩
   | error ep => exact absurd (Or.inl (by rw [h]; exact parseR_err (e' := ep.1) (p := ep.2) h)) hee
  obtain ⟨Lb, hb0⟩ : ∃ L, parseR b = .ok L := by
   cases h : parseR b with
   | ok L => exact ⟨L, rfl⟩
   | error ep => exact absurd (Or.inr (by rw [h]; exact parseR_err (e' := ep.1) (p := ep.2) h)) hee
  clear hee HPa HPb
  obtain ⟨ta, ra, ea, a1, a2, a3, a4⟩ := parse_read ha
  obtain ⟨tb, rb, eb, b1, b2, b3, b4⟩ := parse_read hb0
  have hfn := first_not hb0 b1
  have hcb := lexR_count b1
  have H0 : Hid (∃ t : TV, (toks b tb)[0]? = some t ∧ tk (srcT tb) 0 = ⟨t.kind, t.S, t.N⟩) := ⟨tv (toks b tb) 0, tv_at (by rw [toks_len]; omega), ((toks_tm b tb).tok 0 (Nat.zero_le _)).symm⟩
  have HFN := hidden hfn
  have HA := hidden ha
  have HB := hidden hb0
  have HL := hidden b1
  have HCa := hidden a4
  have HCb := hidden b4
  clear ha hb0 a1 a2 a3 a4 b1 b2 b3 b4 hfn
  go_enter Tryz.func4, Tryz.ntmps4
  go_wp2_with fail
  refine (aw8_any w).mono ?_
  rintro e w1 ⟨rfl, hb⟩
  have B1 := hidden hb
  clear hb
  go_wp2_with fail
  refine (parse_ok w1 HA.out ma.out).mono ?_
  rintro e w20 ⟨ao, cp, rfl, hl, hb⟩
  have hb2 := hb.alloc (by have := hb.size; omega) (.cells #[.int .i64 211, .int .i64 0, .int .i64 0, .string ⟨#[]⟩, .slice ao La.length cp] 25)
  have B2 := hidden (B1.out.trans (hb2.mono B1.out.size))
  have Vw2 := hidden (B5.new w20 211 0 0 ⟨#[]⟩ (.slice ao La.length cp))
  have Xw2 := hidden (hl.alloc (.cells #[.int .i64 211, .int .i64 0, .int .i64 0, .string ⟨#[]⟩, .slice ao La.length cp] 25))
  clear hb hb2 hl
  go_upto_region 4 with fail
  generalize w20.alloc (.cells #[.int .i64 211, .int .i64 0, .int .i64 0, .string ⟨#[]⟩, .slice ao La.length cp] 25) = w2 at *
  go_wp2_with fail
  refine (parse_ok w2 HB.out mb.out).mono ?_
  rintro e w30 ⟨bo, cq, rfl, hl, hb⟩
  have hb2 := hb.alloc (by have := hb.size; omega) (.cells #[.int .i64 211, .int .i64 0, .int .i64 0, .string ⟨#[]⟩, .slice bo Lb.length cq] 25)
  have B3 := hidden (B2.out.trans (hb2.mono B2.out.size))
  have Vw3 := hidden (B5.new w30 211 0 0 ⟨#[]⟩ (.slice bo Lb.length cq))
  have Xw3 := hidden (hl.alloc (.cells #[.int .i64 211, .int .i64 0, .int .i64 0, .string ⟨#[]⟩, .slice bo Lb.length cq] 25))
  have Va3 := hidden (Vw2.out.below hb2 (Nat.le_refl _))
  have Xa3 := hidden (Xw2.out.keep (fun q _ hlt => hb2.block q hlt))
  clear hb hb2 hl
  go_upto_region 5 with fail
  generalize w30.alloc (.cells #[.int .i64 211, .int .i64 0, .int .i64 0, .string ⟨#[]⟩, .slice bo Lb.length cq] 25) = w3 at *
  go_wp2_with fail
  refine (lexP_ok w3 HL.out).mono ?_
  rintro e w4 ⟨lo, lc, rfl, ht, _, hb⟩
  have B4 := hidden (B3.out.trans (hb.mono B3.out.size))
  have Va4 := hidden (Va3.out.below hb (Nat.le_refl _))
  have Xa4 := hidden (Xa3.out.keep (fun q _ hlt => hb.block q hlt))
  have Vb4 := hidden (Vw3.out.below hb (Nat.le_refl _))
  have Xb4 := hidden (Xw3.out.keep (fun q _ hlt => hb.block q hlt))
  obtain ⟨t, ht1, ht2⟩ := H0.out
  obtain ⟨g, e1, c0, c1, c2, c3⟩ := ht.at_ 0 t ht1
  subst e1
  rw [ht2] at HFN
  simp only [Nat.zero_mul, Nat.zero_add] at c0 c1 c2 c3
  have zl : (0 : Int) < ((tb.length + 1 : Nat) : Int) := by omega
  clear hb ht ht1 ht2 H0
  have hk : t.kind ≠ 5 ∨ (t.kind = 5 ∧ (t.S == [59, 59]) = false) := by
   by_cases h5 : t.kind = 5
   ·refine Or.inr ⟨h5, ?_⟩
    have h9 := HFN.out
    unfold isS at h9
    rw [h5] at h9
    simpa using h9
   ·exact Or.inl h5
  rcases hk with hk | ⟨hk, hk2⟩
  all_goals have HO := hidden (nl_size a b)
  all_goals have HLaw := hidden (fun h => items_law HA.out HB.out h)
  all_goals (try rw [hk] at c0)
  all_goals (go_wp2_with fail)
  all_goals clear c0 c1 c2 c3 hk zl
  all_goals (generalize a ++ ⟨#[10]⟩ ++ b = os at *)
  all_goals
   by_cases hbig : 4096 < a.size + 1 + b.size
   ·have HX : Hid (parseR os = .error (4, 0)) := parse_big (by rw [HO.out]; exact hbig)
    have q1 : (4096 : Int) < (a.size : Int) + (b.size : Int) + 1 := by omega
    have e1 : IntKind.i64.wrap ((a.size : Int) + (b.size : Int)) = (a.size : Int) + (b.size : Int) := wrapId _ (by omega) (by omega)
    have e2 : IntKind.i64.wrap ((a.size : Int) + (b.size : Int) + 1) = (a.size : Int) + (b.size : Int) + 1 := wrapId _ (by omega) (by omega)
    refine (parse_err w4 HX.out mo.out).mono ?_
    rintro e w50 ⟨rfl, hb⟩
    have hb2 := hb.alloc (by have := hb.size; omega) (.cells #[.int .i64 0, .int .i64 0, .int .i64 0, .string ⟨#[]⟩, .slice none 0 0] 25)
    have Bz := hidden (B4.out.trans (hb2.mono B4.out.size))
    clear hb hb2
    go_upto_region 11 with fail
    generalize w50.alloc (.cells #[.int .i64 0, .int .i64 0, .int .i64 0, .string ⟨#[]⟩, .slice none 0 0] 25) = w5 at *
    go_wp2_with fail
    go_quiet (fail)
    go_wp2_with fail
    go_ret
    exact ⟨rfl, Bz.out.trans ((drewN_below _ _).mono Bz.out.size)⟩
   ·by_cases hm : 1 + cntL La + cntL Lb ≤ 4096
    ·obtain ⟨L, hL1, hL2⟩ := (HLaw.out (by omega)).1 hm
     have HZ := hidden hL1
     have HN := hidden hL2
     have hlen : Hid (L.length = La.length + Lb.length) := by have := congrArg List.length hL2; show _ = _; simpa using this
     have hcz : Hid (1 + cntL L ≤ 4096) := by
      show _ ≤ _
      have := np_cntL _ _ hL2
      rw [cntL_app] at this
      omega
     clear hL1 hL2 HLaw
     refine (parse_ok w4 HZ.out mo.out).mono ?_
     rintro e w50 ⟨zo, cz, rfl, hl, hb⟩
     have hb2 := hb.alloc (by have := hb.size; omega) (.cells #[.int .i64 211, .int .i64 0, .int .i64 0, .string ⟨#[]⟩, .slice zo L.length cz] 25)
     have Bz := hidden (B4.out.trans (hb2.mono B4.out.size))
     have Vw5 := hidden (B5.new w50 211 0 0 ⟨#[]⟩ (.slice zo L.length cz))
     have Xw5 := hidden (hl.alloc (.cells #[.int .i64 211, .int .i64 0, .int .i64 0, .string ⟨#[]⟩, .slice zo L.length cz] 25))
     have Va5 := hidden (Va4.out.below hb2 (Nat.le_refl _))
     have Xa5 := hidden (Xa4.out.keep (fun q _ hlt => hb2.block q hlt))
     have Vb5 := hidden (Vb4.out.below hb2 (Nat.le_refl _))
     have Xb5 := hidden (Xb4.out.keep (fun q _ hlt => hb2.block q hlt))
     clear hb hb2 hl
     go_upto_region 11 with fail
     generalize w50.alloc (.cells #[.int .i64 211, .int .i64 0, .int .i64 0, .string ⟨#[]⟩, .slice zo L.length cz] 25) = w5 at *
     have hl5 := hcz.out
     have hl6 := cntL_len L
     have hlen := hlen.out
     rw [hlen] at hl6
     obtain ⟨x0, x1, x2, x3, x4, xf⟩ := Va5.out.cells
     obtain ⟨y0, y1, y2, y3, y4, yf⟩ := Vb5.out.cells
     obtain ⟨z0, z1, z2, z3, z4, zf⟩ := Vw5.out.cells
     rw [hlen] at z4
     clear x0 x1 x2 x3 xf y0 y1 y2 y3 yf z0 z1 z2 z3 zf
     obtain ⟨na, hna⟩ : ∃ n, La.length = n := ⟨_, rfl⟩
     obtain ⟨nb, hnb⟩ : ∃ n, Lb.length = n := ⟨_, rfl⟩
     rw [hna] at x4 z4 hlen hl6
     rw [hnb] at y4 z4 hlen hl6
     have HNA := hidden hna
     have HNB := hidden hnb
     have HNL := hidden hlen
     (try rw [hna])
     (try rw [hnb])
     (try rw [hlen])
     clear hna hnb hlen
     go_wp2_with fail
     go_loopw [111] (fun iv wr => ∃ k : Nat, k ≤ na + nb ∧ iv = .int .i64 (k : Int) ∧ Below w5.heap.size w5 wr) (fun iv wr => ((na + nb : Nat) - intOf iv).toNat)
     case atStart => exact ⟨0, by omega, rfl, Below.refl _ _⟩
     case round =>
      obtain ⟨k, k1, rfl, hbl⟩ := hrel
      have BL := hidden hbl
      have VX := hidden (Va5.out.below hbl (Nat.le_refl _))
      have VY := hidden (Vb5.out.below hbl (Nat.le_refl _))
      have VZ := hidden (Vw5.out.below hbl (Nat.le_refl _))
      have XX := Xa5.out.beneath hbl (Nat.le_refl _)
      have XY := Xb5.out.beneath hbl (Nat.le_refl _)
      have XZ := Xw5.out.beneath hbl (Nat.le_refl _)
      have hd := Bz.out.size
      have he := hbl.size
      clear hbl x4 y4 z4
      obtain ⟨x0, x1, x2, x3, x4, xf⟩ := VX.out.cells
      obtain ⟨y0, y1, y2, y3, y4, yf⟩ := VY.out.cells
      obtain ⟨z0, z1, z2, z3, z4, zf⟩ := VZ.out.cells
      rw [HNA.out] at x4
      rw [HNB.out] at y4
      rw [HNL.out] at z4
      clear x0 x1 x2 x3 xf y0 y1 y2 y3 yf z0 z1 z2 z3 zf
      by_cases hlt : k < na + nb
      ·have zz : (k : Int) < ((na + nb : Nat) : Int) := by omega
       have zz2 : (k : Int) < (na : Int) + (nb : Int) := by omega
       have zi : (0 : Int) ≤ (k : Int) ∧ (k : Int) < ((na + nb : Nat) : Int) := ⟨by omega, zz⟩
       obtain ⟨s, hs⟩ : ∃ s, L[k]? = some s := ⟨_, List.getElem?_eq_getElem (by rw [HNL.out]; exact hlt)⟩
       obtain ⟨t, ht⟩ : ∃ t, (La ++ Lb)[k]? = some t := ⟨_, List.getElem?_eq_getElem (by rw [List.length_append, HNA.out, HNB.out]; exact hlt)⟩
       have hst : s.np = t.np := by
        have e : (L.map Tr.np)[k]? = ((La ++ Lb).map Tr.np)[k]? := by rw [HN.out]
        rw [List.getElem?_map, List.getElem?_map, hs, ht] at e
        simpa using e
       have hsc := cntL_mem (List.mem_of_getElem? hs)
       have HST := hidden (fun f f' => same_of_eqv f f' 4096 s t (by have := hcz.out; omega) (by omega) hst)
       have HS := hidden hs
       clear hs hst
       by_cases ha : k < na
       ·have za : (k : Int) < (na : Int) := by omega
        have zm : (0 : Int) ≤ (k : Int) ∧ (k : Int) < (na : Int) := ⟨by omega, za⟩
        have ht2 : La[k]? = some t := by rw [← ht, List.getElem?_append_left (by rw [HNA.out]; exact ha)]
        clear XY
        go_upto_region 19 with fail
        have VX2 := hidden (VX.out.alloc (.cells #[.int .i64 0, .int .i64 0, .int .i64 0, .string ⟨#[]⟩, .slice none 0 0] 25))
        have VY2 := hidden (VY.out.alloc (.cells #[.int .i64 0, .int .i64 0, .int .i64 0, .string ⟨#[]⟩, .slice none 0 0] 25))
        have VZ2 := hidden (VZ.out.alloc (.cells #[.int .i64 0, .int .i64 0, .int .i64 0, .string ⟨#[]⟩, .slice none 0 0] 25))
        have U2 := hidden (B5.new wr 0 0 0 ⟨#[]⟩ (.slice none 0 0))
        have X2 := hidden (RL.alloc (XX.mono (Q := fun g => g < wr.heap.size) (fun g _ hl => hl)) (.cells #[.int .i64 0, .int .i64 0, .int .i64 0, .string ⟨#[]⟩, .slice none 0 0] 25))
        have Z2 := hidden (RL.alloc (XZ.mono (Q := fun g => g < wr.heap.size) (fun g _ hl => hl)) (.cells #[.int .i64 0, .int .i64 0, .int .i64 0, .string ⟨#[]⟩, .slice none 0 0] 25))
        have lx := VX.out.lt
        have ly := VY.out.lt
        have lz := VZ.out.lt
        have D2 := hidden ((Below.refl wr.heap.size wr).alloc (Nat.le_refl _) (.cells #[.int .i64 0, .int .i64 0, .int .i64 0, .string ⟨#[]⟩, .slice none 0 0] 25))
        clear x4 y4 z4 VX VY VZ XX XZ
        generalize wr.alloc (.cells #[.int .i64 0, .int .i64 0, .int .i64 0, .string ⟨#[]⟩, .slice none 0 0] 25) = wq at *
        obtain ⟨q, hq⟩ : ∃ q, wr.heap.size = q := ⟨_, rfl⟩
        rw [hq] at U2 X2 Z2 lx ly lz D2 he ⊢
        have HQ := hidden hq
        clear hq
        obtain ⟨x0, x1, x2, x3, x4, xf⟩ := VX2.out.cells
        obtain ⟨y0, y1, y2, y3, y4, yf⟩ := VY2.out.cells
        rw [HNA.out] at x4
        rw [HNB.out] at y4
        clear x0 x1 x2 x3 xf y0 y1 y2 y3 yf
        have hX := X2.out
        obtain ⟨aos2, cps2, hh, hr⟩ := hX
        obtain ⟨g1, rfl, _, t0, t1, t2, t3, t4⟩ := hh k t ht2
        have lg : g1 < wq.heap.size := cell_lt t0
        have lq : q < wq.heap.size := U2.out.lt
        obtain ⟨u0, u1, u2, u3, u4, uf⟩ := U2.out.cells
        have R2 := hidden (hr k t ht2)
        clear hh hr ht
        go_upto_region 22 with fail
        obtain ⟨W, hW⟩ : ∃ W, fill5 wq q t.kind ((plS a) t.pl) t.N ⟨t.S.toArray⟩ (.slice (aos2 k) t.L.length (cps2 k)) = W := ⟨_, rfl⟩
        have U3 := hidden (U2.out.fill t.kind ((plS a) t.pl) t.N ⟨t.S.toArray⟩ (.slice (aos2 k) t.L.length (cps2 k)))
        have VZ3 : Hid (B5 (fill5 wq q t.kind ((plS a) t.pl) t.N ⟨t.S.toArray⟩ (.slice (aos2 k) t.L.length (cps2 k))) w50.heap.size 211 0 0 ⟨#[]⟩ (.slice zo L.length cz)) := (fill5_blk wq (by omega) _ _ _ _ _).trans VZ2.out
        have Z3 := hidden (Z2.out.fill5 (fun g hg => Nat.ne_of_lt hg) t.kind ((plS a) t.pl) t.N ⟨t.S.toArray⟩ (.slice (aos2 k) t.L.length (cps2 k)))
        have R3 := hidden (R2.out.fill5 (fun g hg => Nat.ne_of_lt hg) t.kind ((plS a) t.pl) t.N ⟨t.S.toArray⟩ (.slice (aos2 k) t.L.length (cps2 k)))
        have D3 : Hid (Below q wr (fill5 wq q t.kind ((plS a) t.pl) t.N ⟨t.S.toArray⟩ (.slice (aos2 k) t.L.length (cps2 k)))) := below_fill5 D2.out (Nat.le_refl _) _ _ _ _ _
        clear x4 y4 u0 u1 u2 u3 u4 uf t0 t1 t2 t3 t4
        rw [hW] at U3 VZ3 Z3 R3 D3
        unfold fill5 at hW
        rw [hW]
        clear hW
        obtain ⟨u0, u1, u2, u3, u4, uf⟩ := U3.out.cells
        obtain ⟨z0, z1, z2, z3, z4, zf⟩ := VZ3.out.cells
        rw [HNL.out] at z4
        clear z0 z1 z2 z3 zf uf
        have hZ := Z3.out
        obtain ⟨aos, cps, hh, hr⟩ := hZ
        have R1 := hidden (hr k s HS.out)
        obtain ⟨g0, rfl, _, s0, s1, s2, s3, s4⟩ := hh k s HS.out
        clear hh hr
        have HI := hidden (fun w r r' => same8 (P := fun g => g < q) (P' := fun g => g < q) (HST.out (plS os) (plS a)) w (aos k) (aos2 k) (cps k) (cps2 k) ((plS os) s.pl) ((plS a) t.pl) (fun e => by cases e) r r')
        go_region_held3 (fun w' => w'.cell? ⟨w50.heap.size, 4, none⟩ = some (.slice (some ⟨g0, 0, none⟩) (na + nb) cz) ∧ w'.cell? ⟨g0, k * 5, none⟩ = some (.int .i64 s.kind) ∧ w'.cell? ⟨g0, k * 5 + 1, none⟩ = some (.int .i64 (plS os s.pl)) ∧ w'.cell? ⟨g0, k * 5 + 2, none⟩ = some (.int .i64 s.N) ∧ w'.cell? ⟨g0, k * 5 + 3, none⟩ = some (.string ⟨s.S.toArray⟩) ∧ w'.cell? ⟨g0, k * 5 + 4, none⟩ = some (.slice (aos k) s.L.length (cps k)) ∧ w'.cell? ⟨q, 0, none⟩ = some (.int .i64 t.kind) ∧ w'.cell? ⟨q, 1, none⟩ = some (.int .i64 ((plS a) t.pl)) ∧ w'.cell? ⟨q, 2, none⟩ = some (.int .i64 t.N) ∧ w'.cell? ⟨q, 3, none⟩ = some (.string ⟨t.S.toArray⟩) ∧ w'.cell? ⟨q, 4, none⟩ = some (.slice (aos2 k) t.L.length (cps2 k))) (go_keep) (first | (go_at_call 10; refine (HI.out _ (R1.out.beneath (drew_below W) (Nat.le_refl _)) (R3.out.beneath (drew_below W) (Nat.le_refl _))).mono ?_; rintro e w6 ⟨rfl, hb6⟩; have B6 := hidden hb6; have n0 := cell_on hb6 z4; have n1 := cell_on hb6 s0; have n2 := cell_on hb6 s1; have n3 := cell_on hb6 s2; have n4 := cell_on hb6 s3; have n5 := cell_on hb6 s4; have n6 := cell_on hb6 u0; have n7 := cell_on hb6 u1; have n8 := cell_on hb6 u2; have n9 := cell_on hb6 u3; have n10 := cell_on hb6 u4; clear hb6))
        clear n0 n1 n2 n3 n4 n5 n6 n7 n8 n9 n10 z4 s0 s1 s2 s3 s4 u0 u1 u2 u3 u4
        go_wp2_with fail
        go_roundw
        case rel => exact ⟨k + 1, by omega, by go_num, BL.out.trans ((D3.out.mono he).trans (((drew_below W).trans B6.out).mono (by have := D3.out.size; rw [HQ.out] at this; omega)))⟩
        case measure => simp [intOf]; omega
       ·obtain ⟨m, hm9⟩ : ∃ m, k = na + m := ⟨k - na, by omega⟩
        have za : ¬ (k : Int) < (na : Int) := by omega
        have ht2 : Lb[m]? = some t := by rw [← ht, hm9, List.getElem?_append_right (by rw [HNA.out]; omega), HNA.out, Nat.add_sub_cancel_left]
        have zm : (0 : Int) ≤ (m : Int) ∧ (m : Int) < (nb : Int) := ⟨by omega, by omega⟩
        have zs : (k : Int) - (na : Int) = (m : Int) := by omega
        clear hm9
        clear XX
        go_upto_region 19 with fail
        have VX2 := hidden (VX.out.alloc (.cells #[.int .i64 0, .int .i64 0, .int .i64 0, .string ⟨#[]⟩, .slice none 0 0] 25))
        have VY2 := hidden (VY.out.alloc (.cells #[.int .i64 0, .int .i64 0, .int .i64 0, .string ⟨#[]⟩, .slice none 0 0] 25))
        have VZ2 := hidden (VZ.out.alloc (.cells #[.int .i64 0, .int .i64 0, .int .i64 0, .string ⟨#[]⟩, .slice none 0 0] 25))
        have U2 := hidden (B5.new wr 0 0 0 ⟨#[]⟩ (.slice none 0 0))
        have X2 := hidden (RL.alloc (XY.mono (Q := fun g => g < wr.heap.size) (fun g _ hl => hl)) (.cells #[.int .i64 0, .int .i64 0, .int .i64 0, .string ⟨#[]⟩, .slice none 0 0] 25))
        have Z2 := hidden (RL.alloc (XZ.mono (Q := fun g => g < wr.heap.size) (fun g _ hl => hl)) (.cells #[.int .i64 0, .int .i64 0, .int .i64 0, .string ⟨#[]⟩, .slice none 0 0] 25))
        have lx := VX.out.lt
        have ly := VY.out.lt
        have lz := VZ.out.lt
        have D2 := hidden ((Below.refl wr.heap.size wr).alloc (Nat.le_refl _) (.cells #[.int .i64 0, .int .i64 0, .int .i64 0, .string ⟨#[]⟩, .slice none 0 0] 25))
        clear x4 y4 z4 VX VY VZ XY XZ
        generalize wr.alloc (.cells #[.int .i64 0, .int .i64 0, .int .i64 0, .string ⟨#[]⟩, .slice none 0 0] 25) = wq at *
        obtain ⟨q, hq⟩ : ∃ q, wr.heap.size = q := ⟨_, rfl⟩
        rw [hq] at U2 X2 Z2 lx ly lz D2 he ⊢
        have HQ := hidden hq
        clear hq
        obtain ⟨x0, x1, x2, x3, x4, xf⟩ := VX2.out.cells
        obtain ⟨y0, y1, y2, y3, y4, yf⟩ := VY2.out.cells
        rw [HNA.out] at x4
        rw [HNB.out] at y4
        clear x0 x1 x2 x3 xf y0 y1 y2 y3 yf
        have hX := X2.out
        obtain ⟨aos2, cps2, hh, hr⟩ := hX
        obtain ⟨g1, rfl, _, t0, t1, t2, t3, t4⟩ := hh m t ht2
        have lg : g1 < wq.heap.size := cell_lt t0
        have lq : q < wq.heap.size := U2.out.lt
        obtain ⟨u0, u1, u2, u3, u4, uf⟩ := U2.out.cells
        have R2 := hidden (hr m t ht2)
        clear hh hr ht
        go_upto_region 22 with fail
        obtain ⟨W, hW⟩ : ∃ W, fill5 wq q t.kind ((plS b) t.pl) t.N ⟨t.S.toArray⟩ (.slice (aos2 m) t.L.length (cps2 m)) = W := ⟨_, rfl⟩
        have U3 := hidden (U2.out.fill t.kind ((plS b) t.pl) t.N ⟨t.S.toArray⟩ (.slice (aos2 m) t.L.length (cps2 m)))
        have VZ3 : Hid (B5 (fill5 wq q t.kind ((plS b) t.pl) t.N ⟨t.S.toArray⟩ (.slice (aos2 m) t.L.length (cps2 m))) w50.heap.size 211 0 0 ⟨#[]⟩ (.slice zo L.length cz)) := (fill5_blk wq (by omega) _ _ _ _ _).trans VZ2.out
        have Z3 := hidden (Z2.out.fill5 (fun g hg => Nat.ne_of_lt hg) t.kind ((plS b) t.pl) t.N ⟨t.S.toArray⟩ (.slice (aos2 m) t.L.length (cps2 m)))
        have R3 := hidden (R2.out.fill5 (fun g hg => Nat.ne_of_lt hg) t.kind ((plS b) t.pl) t.N ⟨t.S.toArray⟩ (.slice (aos2 m) t.L.length (cps2 m)))
        have D3 : Hid (Below q wr (fill5 wq q t.kind ((plS b) t.pl) t.N ⟨t.S.toArray⟩ (.slice (aos2 m) t.L.length (cps2 m)))) := below_fill5 D2.out (Nat.le_refl _) _ _ _ _ _
        clear x4 y4 u0 u1 u2 u3 u4 uf t0 t1 t2 t3 t4
        rw [hW] at U3 VZ3 Z3 R3 D3
        unfold fill5 at hW
        rw [hW]
        clear hW
        obtain ⟨u0, u1, u2, u3, u4, uf⟩ := U3.out.cells
        obtain ⟨z0, z1, z2, z3, z4, zf⟩ := VZ3.out.cells
        rw [HNL.out] at z4
        clear z0 z1 z2 z3 zf uf
        have hZ := Z3.out
        obtain ⟨aos, cps, hh, hr⟩ := hZ
        have R1 := hidden (hr k s HS.out)
        obtain ⟨g0, rfl, _, s0, s1, s2, s3, s4⟩ := hh k s HS.out
        clear hh hr
        have HI := hidden (fun w r r' => same8 (P := fun g => g < q) (P' := fun g => g < q) (HST.out (plS os) (plS b)) w (aos k) (aos2 m) (cps k) (cps2 m) ((plS os) s.pl) ((plS b) t.pl) (fun e => by cases e) r r')
        go_region_held3 (fun w' => w'.cell? ⟨w50.heap.size, 4, none⟩ = some (.slice (some ⟨g0, 0, none⟩) (na + nb) cz) ∧ w'.cell? ⟨g0, k * 5, none⟩ = some (.int .i64 s.kind) ∧ w'.cell? ⟨g0, k * 5 + 1, none⟩ = some (.int .i64 (plS os s.pl)) ∧ w'.cell? ⟨g0, k * 5 + 2, none⟩ = some (.int .i64 s.N) ∧ w'.cell? ⟨g0, k * 5 + 3, none⟩ = some (.string ⟨s.S.toArray⟩) ∧ w'.cell? ⟨g0, k * 5 + 4, none⟩ = some (.slice (aos k) s.L.length (cps k)) ∧ w'.cell? ⟨q, 0, none⟩ = some (.int .i64 t.kind) ∧ w'.cell? ⟨q, 1, none⟩ = some (.int .i64 ((plS b) t.pl)) ∧ w'.cell? ⟨q, 2, none⟩ = some (.int .i64 t.N) ∧ w'.cell? ⟨q, 3, none⟩ = some (.string ⟨t.S.toArray⟩) ∧ w'.cell? ⟨q, 4, none⟩ = some (.slice (aos2 m) t.L.length (cps2 m))) (go_keep) (first | (go_at_call 10; refine (HI.out _ (R1.out.beneath (drew_below W) (Nat.le_refl _)) (R3.out.beneath (drew_below W) (Nat.le_refl _))).mono ?_; rintro e w6 ⟨rfl, hb6⟩; have B6 := hidden hb6; have n0 := cell_on hb6 z4; have n1 := cell_on hb6 s0; have n2 := cell_on hb6 s1; have n3 := cell_on hb6 s2; have n4 := cell_on hb6 s3; have n5 := cell_on hb6 s4; have n6 := cell_on hb6 u0; have n7 := cell_on hb6 u1; have n8 := cell_on hb6 u2; have n9 := cell_on hb6 u3; have n10 := cell_on hb6 u4; clear hb6))
        clear n0 n1 n2 n3 n4 n5 n6 n7 n8 n9 n10 z4 s0 s1 s2 s3 s4 u0 u1 u2 u3 u4
        go_wp2_with fail
        go_roundw
        case rel => exact ⟨k + 1, by omega, by go_num, BL.out.trans ((D3.out.mono he).trans (((drew_below W).trans B6.out).mono (by have := D3.out.size; rw [HQ.out] at this; omega)))⟩
        case measure => simp [intOf]; omega
      ·have zz : ¬ (k : Int) < ((na + nb : Nat) : Int) := by omega
       have zz2 : ¬ (k : Int) < (na : Int) + (nb : Int) := by omega
       clear XX XY XZ
       go_wp2_with fail
       go_ret
       exact ⟨rfl, Bz.out.trans (BL.out.mono hd)⟩
    ·have HZ : Hid (parseR os = .error (3, 0)) := (HLaw.out (by omega)).2 (by omega)
     clear HLaw
     refine (parse_err w4 HZ.out mo.out).mono ?_
     rintro e w50 ⟨rfl, hb⟩
     have hb2 := hb.alloc (by have := hb.size; omega) (.cells #[.int .i64 0, .int .i64 0, .int .i64 0, .string ⟨#[]⟩, .slice none 0 0] 25)
     have Bz := hidden (B4.out.trans (hb2.mono B4.out.size))
     have Va5 := hidden (Va4.out.below hb2 (Nat.le_refl _))
     have Xa5 := hidden (Xa4.out.keep (fun q _ hlt => hb2.block q hlt))
     have Vb5 := hidden (Vb4.out.below hb2 (Nat.le_refl _))
     have Xb5 := hidden (Xb4.out.keep (fun q _ hlt => hb2.block q hlt))
     clear hb hb2
     go_upto_region 11 with fail
     generalize w50.alloc (.cells #[.int .i64 0, .int .i64 0, .int .i64 0, .string ⟨#[]⟩, .slice none 0 0] 25) = w5 at *
     obtain ⟨x0, x1, x2, x3, x4, xf⟩ := Va5.out.cells
     obtain ⟨y0, y1, y2, y3, y4, yf⟩ := Vb5.out.cells
     have q0 : decide ((4096 : Int) < (a.size : Int) + (b.size : Int) + 1) = false := decide_eq_false (by omega)
     have e1 : IntKind.i64.wrap ((a.size : Int) + (b.size : Int)) = (a.size : Int) + (b.size : Int) := wrapId _ (by omega) (by omega)
     have e2 : IntKind.i64.wrap ((a.size : Int) + (b.size : Int) + 1) = (a.size : Int) + (b.size : Int) + 1 := wrapId _ (by omega) (by omega)
     obtain ⟨ca, hca⟩ : ∃ n, 1 + cntL La = n := ⟨_, rfl⟩
     obtain ⟨cb, hcb2⟩ : ∃ n, 1 + cntL Lb = n := ⟨_, rfl⟩
     have HKa := hidden (fun w r => cnt_call (f := plS a) (P := fun g => w1.heap.size ≤ g) (L := La) (w := w) (ao := ao) (cp := cp) HCa.out r)
     have HKb := hidden (fun w r => cnt_call (f := plS b) (P := fun g => w2.heap.size ≤ g) (L := Lb) (w := w) (ao := bo) (cp := cq) HCb.out r)
     have hc1 := HCa.out
     have hc2 := HCb.out
     rw [hca] at HKa hc1
     rw [hcb2] at HKb hc2
     have q3b : decide ((4096 : Int) < (ca : Int) + (cb : Int) - 1) = true := decide_eq_true (by omega)
     have e3 : IntKind.i64.wrap ((ca : Int) + (cb : Int)) = (ca : Int) + (cb : Int) := wrapId _ (by omega) (by omega)
     have e4 : IntKind.i64.wrap ((ca : Int) + (cb : Int) - 1) = (ca : Int) + (cb : Int) - 1 := wrapId _ (by omega) (by omega)
     clear hca hcb2 xf yf
     go_wp2_with fail
     refine region_till (S := (fun w' => w'.cell? ⟨w20.heap.size, 0, none⟩ = some (.int .i64 211) ∧ w'.cell? ⟨w20.heap.size, 1, none⟩ = some (.int .i64 0) ∧ w'.cell? ⟨w20.heap.size, 2, none⟩ = some (.int .i64 0) ∧ w'.cell? ⟨w20.heap.size, 3, none⟩ = some (.string ⟨#[]⟩) ∧ w'.cell? ⟨w20.heap.size, 4, none⟩ = some (.slice ao La.length cp) ∧ w'.cell? ⟨w30.heap.size, 0, none⟩ = some (.int .i64 211) ∧ w'.cell? ⟨w30.heap.size, 1, none⟩ = some (.int .i64 0) ∧ w'.cell? ⟨w30.heap.size, 2, none⟩ = some (.int .i64 0) ∧ w'.cell? ⟨w30.heap.size, 3, none⟩ = some (.string ⟨#[]⟩) ∧ w'.cell? ⟨w30.heap.size, 4, none⟩ = some (.slice bo Lb.length cq))) (kz := 16) (by kernel_rfl) ⟨x0, x1, x2, x3, x4, y0, y1, y2, y3, y4⟩ (fun hHeld => ?_)
     refine AnyTill.tk (i := 0) (v := ?_) hHeld ?_ ?_
     rotate_left
     ·(intro w hSw; (try dsimp only at hSw); go_simp; (try with_reducible rfl))
     (try simp only [Act.put, q4, q5, q6, q1, q2, q3])
     refine AnyTill.tk (i := 1) (v := ?_) hHeld ?_ ?_
     rotate_left
     ·(intro w hSw; (try dsimp only at hSw); go_simp; (try with_reducible rfl))
     (try simp only [Act.put, q4, q5, q6, q1, q2, q3])
     refine AnyTill.tk (i := 2) (v := ?_) hHeld ?_ ?_
     rotate_left
     ·(intro w hSw; (try dsimp only at hSw); go_simp; (try with_reducible rfl))
     (try simp only [Act.put, q4, q5, q6, q1, q2, q3])
     refine AnyTill.tk (i := 3) (v := ?_) hHeld ?_ ?_
     rotate_left
     ·(intro w hSw; (try dsimp only at hSw); go_simp; (try with_reducible rfl))
     (try simp only [Act.put, q4, q5, q6, q1, q2, q3])
     refine AnyTill.tk (i := 4) (v := ?_) hHeld ?_ ?_
     rotate_left
     ·(intro w hSw; (try dsimp only at hSw); go_simp; (try with_reducible rfl))
     (try simp only [Act.put, q4, q5, q6, q1, q2, q3])
     refine AnyTill.tk (i := 5) (v := ?_) hHeld ?_ ?_
     rotate_left
     ·(intro w hSw; (try dsimp only at hSw); go_simp; (try with_reducible rfl))
     (try simp only [Act.put, q4, q5, q6, q1, q2, q3])
     refine AnyTill.tk (i := 6) (v := ?_) hHeld ?_ ?_
     rotate_left
     ·(intro w hSw; (try dsimp only at hSw); go_simp; (try with_reducible rfl))
     (try simp only [Act.put, q4, q5, q6, q1, q2, q3])
     (try simp only [e1, e2, q0])
     refine AnyTill.tk (i := 7) (v := ?_) hHeld ?_ ?_
     rotate_left
     ·(intro w hSw; (try dsimp only at hSw); go_simp; (try with_reducible rfl))
     (try simp only [Act.put, q4, q5, q6, q1, q2, q3])
     refine AnyTill.tk (i := 8) (v := ?_) hHeld ?_ ?_
     rotate_left
     ·(intro w hSw; (try dsimp only at hSw); go_simp; (try with_reducible rfl))
     (try simp only [Act.put, q4, q5, q6, q1, q2, q3])
     refine AnyTill.tk (i := 10) (v := ?_) hHeld ?_ ?_
     rotate_left
     ·(intro w hSw; (try dsimp only at hSw); go_simp; (try with_reducible rfl))
     (try simp only [Act.put, q4, q5, q6, q1, q2, q3])
     refine AnyTill.one (i := 9) (by kernel_rfl) rfl (fun K hK => ?_)
     (try simp only [q1, q2, q3])
     go_simp
     refine (HKa.out _ (Xa5.out.beneath (drew_below w5) (Nat.le_refl _))).mono ?_
     rintro e w6 ⟨rfl, hb6⟩
     have B6 := hidden hb6
     have Y6 := hidden (Xb5.out.beneath ((drew_below w5).trans hb6) (Nat.le_refl _))
     refine hK.out _ _ (fun _ => ⟨cell_on hb6 x0, cell_on hb6 x1, cell_on hb6 x2, cell_on hb6 x3, cell_on hb6 x4, cell_on hb6 y0, cell_on hb6 y1, cell_on hb6 y2, cell_on hb6 y3, cell_on hb6 y4⟩) ?_
     have HS6 := hidden (fun h => (⟨cell_on hb6 x0, cell_on hb6 x1, cell_on hb6 x2, cell_on hb6 x3, cell_on hb6 x4, cell_on hb6 y0, cell_on hb6 y1, cell_on hb6 y2, cell_on hb6 y3, cell_on hb6 y4⟩ : (fun w' => w'.cell? ⟨w20.heap.size, 0, none⟩ = some (.int .i64 211) ∧ w'.cell? ⟨w20.heap.size, 1, none⟩ = some (.int .i64 0) ∧ w'.cell? ⟨w20.heap.size, 2, none⟩ = some (.int .i64 0) ∧ w'.cell? ⟨w20.heap.size, 3, none⟩ = some (.string ⟨#[]⟩) ∧ w'.cell? ⟨w20.heap.size, 4, none⟩ = some (.slice ao La.length cp) ∧ w'.cell? ⟨w30.heap.size, 0, none⟩ = some (.int .i64 211) ∧ w'.cell? ⟨w30.heap.size, 1, none⟩ = some (.int .i64 0) ∧ w'.cell? ⟨w30.heap.size, 2, none⟩ = some (.int .i64 0) ∧ w'.cell? ⟨w30.heap.size, 3, none⟩ = some (.string ⟨#[]⟩) ∧ w'.cell? ⟨w30.heap.size, 4, none⟩ = some (.slice bo Lb.length cq)) w6) : True → _)
     clear hHeld hb6
     clear hK K
     (try simp only [Act.put, q4, q5, q6, q1, q2, q3])
     refine AnyTill.one (i := 11) (by kernel_rfl) rfl (fun K hK => ?_)
     (try simp only [q1, q2, q3])
     go_simp
     refine (HKb.out _ Y6.out).mono ?_
     rintro e w7 ⟨rfl, hb7⟩
     have B7 := hidden hb7
     have HS7 := (HS6.out trivial)
     have H7 : Hid (w7.cell? ⟨w20.heap.size, 0, none⟩ = some (.int .i64 211) ∧ w7.cell? ⟨w20.heap.size, 1, none⟩ = some (.int .i64 0) ∧ w7.cell? ⟨w20.heap.size, 2, none⟩ = some (.int .i64 0) ∧ w7.cell? ⟨w20.heap.size, 3, none⟩ = some (.string ⟨#[]⟩) ∧ w7.cell? ⟨w20.heap.size, 4, none⟩ = some (.slice ao La.length cp) ∧ w7.cell? ⟨w30.heap.size, 0, none⟩ = some (.int .i64 211) ∧ w7.cell? ⟨w30.heap.size, 1, none⟩ = some (.int .i64 0) ∧ w7.cell? ⟨w30.heap.size, 2, none⟩ = some (.int .i64 0) ∧ w7.cell? ⟨w30.heap.size, 3, none⟩ = some (.string ⟨#[]⟩) ∧ w7.cell? ⟨w30.heap.size, 4, none⟩ = some (.slice bo Lb.length cq)) := ⟨cell_to hb7 HS7.1, cell_to hb7 HS7.2.1, cell_to hb7 HS7.2.2.1, cell_to hb7 HS7.2.2.2.1, cell_to hb7 HS7.2.2.2.2.1, cell_to hb7 HS7.2.2.2.2.2.1, cell_to hb7 HS7.2.2.2.2.2.2.1, cell_to hb7 HS7.2.2.2.2.2.2.2.1, cell_to hb7 HS7.2.2.2.2.2.2.2.2.1, cell_to hb7 HS7.2.2.2.2.2.2.2.2.2⟩
     refine hK.out _ _ (fun _ => H7.out) ?_
     clear hb7 HS7
     clear hK K
     (try simp only [Act.put, q4, q5, q6, q1, q2, q3])
     refine AnyTill.one (i := 12) (by kernel_rfl) rfl (fun K hK => ?_)
     (try simp only [q1, q2, q3])
     go_simp
     refine hK.out _ _ (fun _ => H7.out) ?_
     clear hK K
     (try simp only [Act.put, q4, q5, q6, q1, q2, q3])
     (try simp only [e3, e4, q3b])
     refine AnyTill.one (i := 13) (by kernel_rfl) rfl (fun K hK => ?_)
     (try simp only [q1, q2, q3])
     go_simp
     refine hK.out _ _ (fun _ => H7.out) ?_
     clear hK K
     (try simp only [Act.put, q4, q5, q6, q1, q2, q3])
     (try simp only [e3, e4, q3b])
     refine AnyTill.one (i := 14) (by kernel_rfl) rfl (fun K hK => ?_)
     (try simp only [q1, q2, q3])
     go_simp
     refine hK.out _ _ (fun _ => H7.out) ?_
     clear hK K
     (try simp only [Act.put, q4, q5, q6, q1, q2, q3])
     (try simp only [e3, e4, q3b])
     refine AnyTill.one (i := 15) (by kernel_rfl) rfl (fun K hK => ?_)
     (try simp only [q1, q2, q3])
     go_simp
     refine hK.out _ _ (fun _ => H7.out) ?_
     clear hK K
     (try simp only [Act.put, q4, q5, q6, q1, q2, q3])
     (try simp only [e3, e4, q3b])
     refine AnyTill.one (i := 16) (by kernel_rfl) rfl (fun K hK => ?_)
     (try simp only [q1, q2, q3])
     go_simp
     refine hK.out _ _ (fun h => absurd rfl h) ?_
     clear hK K
     (try simp only [Act.put, q4, q5, q6, q1, q2, q3])
     refine AnyTill.done (by kernel_rfl) ?_ _
     (try simp only [Act.put, q4, q5, q6, q1, q2, q3])
     go_wp2_with fail
     go_ret
     exact ⟨rfl, Bz.out.trans ((((drew_below w5).trans B6.out).trans (B7.out.mono (by have := B6.out.size; exact this))).mono Bz.out.size)⟩
end Go.Proofs.YthjmakjhidjbaabGreat
