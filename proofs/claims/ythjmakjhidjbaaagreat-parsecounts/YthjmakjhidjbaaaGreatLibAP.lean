/-
  Several small texts in one; each tells at its head what it proves, and on what condition.
-/
import Derived.Test.YthjmakjhidjbaaaGreatLibAO
import Derived.Test.YthjmakjhidjbaaaGreatLibAI
import Derived.Test.YthjmakjhidjbaaaGreatP8H

/-
 Layer 8, the program's parser: rules' methods. Condition: the rules that they are made of do as the grammar says.
-/
namespace Go.Proofs.YthjmakjhidjbaaaGreat
open Go.ChangeShapes Go.WideShapes Go.ChangeAt Go.RowKit Go.Deep
set_option linter.unusedVariables false
set_option linter.unusedSimpArgs false
set_option maxHeartbeats 2000000
set_option maxRecDepth 20000
attribute [local go_sem ↓] Go.wp_at_zero Go.wp_at_succ

section
variable {c : PC} {w : World} {i : Nat}
theorem tatom_fine {ts : List Tk} {i j : Nat} {x : Tr} (hi : i ≤ ts.length) (h : tatomR ts i = .ok (x, j)) : j ≤ ts.length ∧ i < j := by
 unfold tatomR at h
 cases hs : isS [40] (tk ts i) with
 | true =>
  have hlt := isS_in hs
  have e2 := ex_eat (kt := fun _ => .call .ty fun x => .must [41] (.ret x)) (ex_yes (R := .ok (x, j)) h.symm hs) hlt
  have hf := reads_fine (ts := ts) .ty (i := i + 1) hlt
  cases hx : reads ts .ty (i + 1) with
  | error m => have := ex_err e2 hx; cases this
  | ok xj =>
   obtain ⟨y, m⟩ := xj
   rw [hx] at hf
   have h1 : i + 1 ≤ m := hf.1
   have e3 := ex_ok e2 hx
   cases h2 : isS [41] (tk ts m) with
   | false => have := ex_mustN e3 h2; cases this
   | true =>
    have e4 := ex_ret (ex_must e3 h2)
    simp only [Except.ok.injEq, Prod.mk.injEq] at e4
    have := isS_in h2
    omega
 | false =>
  have e2 := ex_no (R := .ok (x, j)) h.symm hs
  cases hk : isK 3 (tk ts i) with
  | false => have := ex_tokenN e2 hk; cases this
  | true =>
   have e4 := ex_ret (ex_token e2 hk (by decide))
   simp only [Except.ok.injEq, Prod.mk.injEq] at e4
   have := isK_in hk (by decide)
   omega
theorem app_stop {ts : List Tk} {R : Res} {x : Tr} {j : Nat} (hj : j ≤ ts.length) (h : R = exec ts (reads ts) (.call .appR fun r => .ret (match r.L with | [] => x | y :: l => .mk 16 x.pl 0 [] (x :: y :: l))) j) (e : postAhead (tk ts j) = false) : R = .ok (x, j) := by
 have hb : reads ts .appR j = .ok (lst [], j) := by
  rw [reads_eq .appR hj]
  exact ex_no (p := postAhead) (y := .call .post fun y => .call .appR fun r => .ret (lst (y :: r.L))) rfl e
 exact ex_ok h hb
theorem m_tpost (hi : i ≤ c.ts.length) (ih : Beh c i) : Rule c 128 .tpost i := by
 intro w h
 obtain ⟨R, hR⟩ : ∃ R, R = reads c.ts .tpost i := ⟨_, rfl⟩
 rw [← hR]
 have E0 := hidden (hR.trans (tpost_eq hi))
 have S0 := hidden (St.new h)
 have fl := fld0
 obtain ⟨Rl, hRl⟩ : ∃ Rl, Rl = tatomR c.ts i := ⟨_, rfl⟩
 rw [← hRl] at E0
 have HRl := hidden hRl
 clear h hR hRl
 go_enter Tryz.func128, Tryz.ntmps128
 go_wp2_with fail
 refine (m_tatom S0.out.ps hi ih HRl.out).mono ?_
 intro e w1 hg
 cases hL : Rl with
 | error m =>
  rw [hL] at hg
  obtain ⟨rfl, ho⟩ := hg
  exact ⟨rfl, S0.out.stop ho (by rw [E0.out, hL])⟩
 | ok xj =>
  obtain ⟨x1, j1⟩ := xj
  rw [hL] at hg
  obtain ⟨ao1, cp1, rfl, hl, hp, ho⟩ := hg
  have E1 := hidden (show R = reads c.ts (.tpostR _) _ by rw [E0.out, hL])
  have X1 := hidden (Has.of hl S0.out)
  have S1 := hidden (S0.out.only ho hp)
  clear hl hp ho
  have bj : j1 ≤ c.ts.length ∧ i < j1 := tatom_fine hi (HRl.out.symm.trans hL)
  clear hL
  go_wp2_with fail
  have U2 := hidden (Va.new S1.out X1.out cp1)
  go_loopg [] (c.ts.length + 1 - (j1)) (fun gk wr => InV c w (i + 1) (fun x k => R = reads c.ts (.tpostR x) k) w1.heap.size gk wr)
  case atStart => exact ⟨_, _, _, _, by omega, by omega, rfl, U2.out, E1.out⟩
  case round =>
   obtain ⟨k3, x3, ao3, cp3, kb3, ka3, kg3, hm, hE⟩ := hrel
   have U3 := hidden hm
   have E3 := hidden hE
   clear hm hE
   have EE : Hid (R = exec c.ts (reads c.ts) (.test (isK 3) (.eat fun t => .call (.tpostR (.mk 202 k3 0 t.S [x3])) .ret) (.ret x3)) k3) := E3.out.trans (reads_eq _ kb3)
   go_wp2_with fail
   refine (next_any U3.out.st.ps (by omega)).mono ?_
   rintro e w4 ⟨rfl, hb⟩
   have U4 := hidden (U3.out.below hb)
   clear hb
   cases hk : isK 3 (tk c.ts k3) with
   | false =>
    have z : ((tk c.ts k3).kind == 3) = false := hk
    have E9 := hidden (ex_no EE.out hk)
    clear hk
    obtain ⟨y0, y1, y2, y3, y4, yf⟩ := U4.out.n.cells
    obtain ⟨z0, z1, z2, z3, z4, zf⟩ := U4.out.st.zc
    clear yf
    go_wp2_with fail
    refine bodyPost_ret (results_cell_row rfl _ _ w.heap.size 25 #[.int .i64 x3.kind, .int .i64 (c.pl x3.pl), .int .i64 x3.N, .string ⟨x3.S.toArray⟩, .slice ao3 x3.L.length cp3] (0, 0) _ rfl (U4.out.st.row _ _ _ _ _) Tryz.underlying25 rfl (by kernel_rfl)) rfl ?_
    exact U4.out.ret (E9.out) rfl
   | true =>
    have z : ((tk c.ts k3).kind == 3) = true := hk
    have hlt := isK_in hk (by decide)
    have h4 : (tk c.ts k3).kind ≠ 1 := by unfold isK at hk; have := eq_of_beq hk; omega
    have E9 := hidden (ex_eat (ex_yes EE.out hk) hlt)
    clear hk
    obtain ⟨y0, y1, y2, y3, y4, yf⟩ := U4.out.n.cells
    have yl := U4.out.n.lt
    have yn := Nat.ne_of_lt yl
    go_wp2_with fail
    clear y0 y1 y2 y3 y4 yf yl yn z
    have VO := hidden (Lc.new U4.out.st x3.kind (c.pl x3.pl) x3.N ⟨x3.S.toArray⟩ (.slice ao3 x3.L.length cp3))
    have vlt := U4.out.n.lt
    refine (leafS (U4.out.alloc _).st.ps 202 (by omega) h4).mono ?_
    rintro e w5 ⟨rfl, hp, ho⟩
    have VO_5 := hidden (VO.out.only (U4.out.alloc _).st ho)
    have U5 := hidden ((U4.out.alloc _).only ho hp)
    clear hp ho
    obtain ⟨o0, o1, o2, o3, o4, of_⟩ := VO_5.out.n.cells
    have ol := VO_5.out.n.lt
    have on := Nat.ne_of_lt ol
    have oq := Nat.ne_of_lt vlt
    have oq2 := oq.symm
    obtain ⟨y0, y1, y2, y3, y4, yf⟩ := U5.out.n.cells
    have yl := U5.out.n.lt
    have yn := Nat.ne_of_lt yl
    go_wp2_with fail
    clear o0 o1 o2 o3 o4 of_ ol on oq oq2 y0 y1 y2 y3 y4 yf yl yn
    go_roundg (c.ts.length + 1 - (k3 + 1))
    case rel => exact ⟨_, _, _, _, by omega, by omega, rfl, (U5.out.wrap2 202 k3 0 (tk c.ts k3).S), ex_end E9.out⟩
    case measure => omega
end
end Go.Proofs.YthjmakjhidjbaaaGreat

/-
 Layer 8, the program's parser: rules' methods. Condition: the rules that they are made of do as the grammar says.
-/
namespace Go.Proofs.YthjmakjhidjbaaaGreat
open Go.ChangeShapes Go.WideShapes Go.ChangeAt Go.RowKit Go.Deep
set_option linter.unusedVariables false
set_option linter.unusedSimpArgs false
set_option maxHeartbeats 2000000
set_option maxRecDepth 20000
attribute [local go_sem ↓] Go.wp_at_zero Go.wp_at_succ

section
variable {c : PC} {w : World} {i : Nat}
theorem m_app {R : Res} (h : PS c w i) (hi : i ≤ c.ts.length) (hP : Rule c 180 .post i) (ih : Beh c i) (hE : R = exec c.ts (reads c.ts) (.skip [114, 97, 105, 115, 101] (.call .post fun x => .ret (.mk 25 i 0 [] [x])) (.test (isK 4) (.eat fun t => .test postAhead (.call .post fun x => .ret (.mk 6 i 0 t.S [x])) (.ret (.mk 6 i 0 t.S []))) (.call .post fun x => .call .appR fun r => .ret (match r.L with | [] => x | y :: l => .mk 16 x.pl 0 [] (x :: y :: l))))) (i)) : Calls Tryz.prog 179 #[.pointer (some ⟨c.b, 0, none⟩)] w fun e w' => Got8 c R w e w' := by
 have E0 := hidden hE
 have S0 := hidden (St.new h)
 have fl0 := fld0
 have fl1 := fld1
 clear h hE
 go_enter Tryz.func179, Tryz.ntmps179
 go_wp2_with fail
 cases hs : isS [114, 97, 105, 115, 101] (tk c.ts (i)) with
 | true =>
  have t1 := isS_in hs
  have E1 := hidden (ex_skip E0.out hs)
  refine (comesR1 S0.out.ps (by omega) [114, 97, 105, 115, 101] (by decide) hs (by first | exact nblk_alloc _ _ | rfl | simp only [nblk_alloc, nblk_setCell])).mono ?_
  rintro e w1 ⟨rfl, hb⟩
  have S1 := hidden (S0.out.below hb)
  clear hb hs
  go_wp2_with fail
  refine (take8 S1.out.ps (by omega)).mono ?_
  rintro e w2 ⟨rfl, hp, ho⟩
  have S2 := hidden (S1.out.only ho hp)
  clear hp ho
  go_wp2_with fail
  refine ((ih .post (i + 1) (by omega) (by omega) : Rule c 180 .post (i + 1)) _ S2.out.ps).mono ?_
  intro e w3 hg
  cases hx : reads c.ts .post (i + 1) with
  | error m =>
   rw [hx] at hg
   obtain ⟨rfl, ho⟩ := hg
   exact ⟨rfl, S2.out.stop ho (ex_err E1.out hx)⟩
  | ok xj =>
   obtain ⟨x3, j3⟩ := xj
   have f3 := reads_fine (ts := c.ts) .post (i := i + 1) (by omega)
   rw [hx] at hg f3
   obtain ⟨ao3, cp3, rfl, hl, hp, ho⟩ := hg
   have E3 := hidden (ex_ok E1.out hx)
   have b3 : j3 ≤ c.ts.length := f3.2.1
   have a3 : i + 1 < j3 := f3.2.2 _ _ rfl rfl
   have X3 := hidden (Has.of hl S2.out)
   have S3 := hidden (S2.out.only ho hp)
   clear hl hp ho hx f3
   obtain ⟨z0, z1, z2, z3, z4, zf⟩ := S3.out.zc
   have zl := S3.out.size
   have zn := Nat.ne_of_lt zl
   go_wp2_with fail
   refine bodyPost_ret (results_cell_row rfl _ _ w.heap.size 25 #[.int .i64 25, .int .i64 (c.pl i), .int .i64 0, .string ⟨[].toArray⟩, .slice (some ⟨w3.heap.size, 0, none⟩) 1 1] (0, 0) _ rfl (S3.out.row1 _ _ _ _ _ _) Tryz.underlying25 rfl (by kernel_rfl)) rfl ?_
   exact S3.out.ret1 X3.out _ _ _ _ (E3.out) rfl
 | false =>
  have E1 := hidden (ex_skipN E0.out hs)
  refine (comesR1 S0.out.ps (by omega) [114, 97, 105, 115, 101] (by decide) hs (by first | exact nblk_alloc _ _ | rfl | simp only [nblk_alloc, nblk_setCell])).mono ?_
  rintro e w1 ⟨rfl, hb⟩
  have S1 := hidden (S0.out.below hb)
  clear hb hs
  go_wp2_with fail
  refine (next_any S1.out.ps (by omega)).mono ?_
  rintro e w4 ⟨rfl, hb⟩
  have S4 := hidden (S1.out.below hb)
  clear hb
  cases hk : isK 4 (tk c.ts i) with
  | true =>
   have z : ((tk c.ts i).kind == 4) = true := hk
   have hlt := isK_in hk (by decide)
   have h4 : (tk c.ts i).kind ≠ 1 := by unfold isK at hk; have := eq_of_beq hk; omega
   have E9 := hidden (ex_eat (ex_yes E1.out hk) hlt)
   clear hk
   go_wp2_with fail
   refine (leafS S4.out.ps 6 (by omega) h4).mono ?_
   rintro e w5 ⟨rfl, hp, ho⟩
   have S5 := hidden (S4.out.only ho hp)
   clear hp ho
   have M6 := hidden (Mk.zero S5.out 6 (c.pl i) 0 ⟨(tk c.ts i).S.toArray⟩)
   go_wp2_with fail
   have hb := begPost M6.out.st.ps (by omega)
   cases hs : postAhead (tk c.ts (i + 1)) with
   | true =>
    rw [hs] at hb
    have E7 := hidden (ex_yes E9.out hs)
    refine hb.mono ?_
    clear hb
    rintro e w7 ⟨rfl, hb⟩
    have M7 := hidden (M6.out.below hb)
    clear hb hs
    go_wp2_with fail
    refine ((ih .post (i + 1) (by omega) (by omega) : Rule c 180 .post (i + 1)) _ M7.out.st.ps).mono ?_
    intro e w8 hg
    cases hx : reads c.ts .post (i + 1) with
    | error m =>
     rw [hx] at hg
     obtain ⟨rfl, ho⟩ := hg
     exact ⟨rfl, M7.out.st.stop ho (ex_err E7.out hx)⟩
    | ok xj =>
     obtain ⟨x8, j8⟩ := xj
     have f8 := reads_fine (ts := c.ts) .post (i := i + 1) (by omega)
     rw [hx] at hg f8
     obtain ⟨ao8, cp8, rfl, hl, hp, ho⟩ := hg
     have E8 := hidden (ex_ok E7.out hx)
     have b8 : j8 ≤ c.ts.length := f8.2.1
     have a8 : i + 1 < j8 := f8.2.2 _ _ rfl rfl
     have X8 := hidden (M7.out.fresh hl)
     have M8 := hidden (M7.out.only ho hp)
     clear hl hp ho hx f8
     obtain ⟨y0, y1, y2, y3, y4, yf⟩ := M8.out.n.cells
     have yl := M8.out.n.lt
     have yn := Nat.ne_of_lt yl
     obtain ⟨z0, z1, z2, z3, z4, zf⟩ := M8.out.st.zc
     have zl := M8.out.st.size
     have zn := Nat.ne_of_lt zl
     have zq := M8.out.hq
     have zq2 := Nat.ne_of_lt zq
     have zq3 := (Nat.ne_of_lt zq).symm
     go_wp2_with fail
     refine bodyPost_ret (results_cell_row rfl _ _ w.heap.size 25 #[.int .i64 6, .int .i64 (c.pl i), .int .i64 0, .string ⟨(tk c.ts i).S.toArray⟩, .slice (some ⟨w8.heap.size, 0, none⟩) 1 1] (0, 0) _ rfl (M8.out.row1 _ _ _ _ _ _ _) Tryz.underlying25 rfl (by kernel_rfl)) rfl ?_
     exact M8.out.ret1 (s := (tk c.ts i).S) X8.out (E8.out) rfl
   | false =>
    rw [hs] at hb
    have E7 := hidden (ex_no E9.out hs)
    refine hb.mono ?_
    clear hb
    rintro e w7 ⟨rfl, hb⟩
    have M7 := hidden (M6.out.below hb)
    clear hb hs
    obtain ⟨y0, y1, y2, y3, y4, yf⟩ := M7.out.n.cells
    obtain ⟨z0, z1, z2, z3, z4, zf⟩ := M7.out.st.zc
    clear yf
    go_wp2_with fail
    refine bodyPost_ret (results_cell_row rfl _ _ w.heap.size 25 #[.int .i64 6, .int .i64 (c.pl i), .int .i64 0, .string ⟨(tk c.ts i).S.toArray⟩, (.slice none 0 0)] (0, 0) _ rfl (M7.out.st.row _ _ _ _ _) Tryz.underlying25 rfl (by kernel_rfl)) rfl ?_
    exact M7.out.ret (s := (tk c.ts i).S) (E7.out) rfl
  | false =>
   have z : ((tk c.ts i).kind == 4) = false := hk
   have E9 := hidden (ex_no E1.out hk)
   clear hk
   go_wp2_with fail
   refine (hP _ S4.out.ps).mono ?_
   intro e w10 hg
   cases hx : reads c.ts .post (i) with
   | error m =>
    rw [hx] at hg
    obtain ⟨rfl, ho⟩ := hg
    exact ⟨rfl, S4.out.stop ho (ex_err E9.out hx)⟩
   | ok xj =>
    obtain ⟨x10, j10⟩ := xj
    have f10 := reads_fine (ts := c.ts) .post (i := i) (by omega)
    rw [hx] at hg f10
    obtain ⟨ao10, cp10, rfl, hl, hp, ho⟩ := hg
    have E10 := hidden (ex_ok E9.out hx)
    have b10 : j10 ≤ c.ts.length := f10.2.1
    have a10 : i < j10 := f10.2.2 _ _ rfl rfl
    have X10 := hidden (Has.of hl S4.out)
    have S10 := hidden (S4.out.only ho hp)
    clear hl hp ho hx f10
    go_wp2_with fail
    clear z
    have U11 := hidden (Va.new S10.out X10.out cp10)
    go_wp2_with fail
    have hb := begPost U11.out.st.ps (by omega)
    cases hs : postAhead (tk c.ts (j10)) with
    | true =>
     rw [hs] at hb
     have E12 := hidden ((fun h hs => app_start (by omega) h hs : R = exec c.ts (reads c.ts) (.call .appR fun r => .ret (match r.L with | [] => x10 | y :: l => .mk 16 x10.pl 0 [] (x10 :: y :: l))) j10 → _ → _) E10.out hs)
     refine hb.mono ?_
     clear hb
     rintro e w12 ⟨rfl, hb⟩
     have U12 := hidden (U11.out.below hb)
     clear hb hs
     obtain ⟨y0, y1, y2, y3, y4, yf⟩ := U12.out.n.cells
     have yl := U12.out.n.lt
     have yn := Nat.ne_of_lt yl
     go_wp2_with fail
     clear y0 y1 y2 y3 y4 yf yl yn
     have M13 := hidden (U12.out.toMk 16 (c.pl x10.pl) 0 ⟨#[]⟩)
     go_loopg [] (c.ts.length + 1 - (j10)) (fun gk wr => InM c w (i + 1) R .appR (fun l => .ret (.mk 16 x10.pl 0 [] l)) w10.heap.size 16 (c.pl x10.pl) 0 ⟨#[]⟩ gk wr)
     case atStart => exact ⟨_, _, _, _, _, by omega, by omega, (by simp; omega), rfl, M13.out, E12.out⟩
     case round =>
      obtain ⟨k14, ao14, n14, cp14, L14, kb14, ka14, kl14, kg14, hm, hE⟩ := hrel
      have M14 := hidden hm
      have E14 := hidden hE
      clear hm hE
      go_wp2_with fail
      have hb := begPost M14.out.st.ps (by omega)
      cases hs : postAhead (tk c.ts (k14)) with
      | true =>
       rw [hs] at hb
       have E15 := hidden (tail_test (T := .appR) (C := fun l => .ret (.mk 16 x10.pl 0 [] l)) (acc := L14.map ND.t) rfl kb14 E14.out hs)
       refine hb.mono ?_
       clear hb
       rintro e w15 ⟨rfl, hb⟩
       have M15 := hidden (M14.out.below hb)
       clear hb hs
       go_wp2_with fail
       refine region_till (S := (fun w' => w'.cell? ⟨w10.heap.size, 4, none⟩ = some (.slice ao14 n14 cp14))) (kz := 7) (by kernel_rfl) M15.out.cell (fun hHeld => ?_)
       refine AnyTill.tk (i := 0) (v := ?_) hHeld ?_ ?_
       rotate_left
       ·(intro w hSw; (try dsimp only at hSw); go_simp; (try with_reducible rfl))
       (try simp only [Act.put, q4, q5, q6, q1, q2, q3])
       refine AnyTill.tk (i := 1) (v := ?_) hHeld ?_ ?_
       rotate_left
       ·(intro w hSw; (try dsimp only at hSw); go_simp; (try with_reducible rfl))
       (try simp only [Act.put, q4, q5, q6, q1, q2, q3])
       refine AnyTill.tk (i := 2) (v := ?_) hHeld ?_ ?_
       rotate_left
       ·(intro w hSw; (try dsimp only at hSw); go_simp; (try with_reducible rfl))
       (try simp only [Act.put, q4, q5, q6, q1, q2, q3])
       refine AnyTill.one (i := 3) (by kernel_rfl) rfl (fun K hK => ?_)
       (try simp only [q1, q2, q3])
       go_simp
       refine ((ih .post (k14) (by omega) (by omega) : Rule c 180 .post (k14)) _ (M15.out.drew).st.ps).mono ?_
       intro e w16 hg
       cases hx : reads c.ts .post (k14) with
       | error m =>
        rw [hx] at hg
        obtain ⟨rfl, ho⟩ := hg
        exact ⟨rfl, (M15.out.drew).st.stop ho (ex_err E15.out hx)⟩
       | ok xj =>
        obtain ⟨x16, j16⟩ := xj
        have f16 := reads_fine (ts := c.ts) .post (i := k14) (by omega)
        rw [hx] at hg f16
        obtain ⟨ao16, cp16, rfl, hl, hp, ho⟩ := hg
        have E16 := hidden (ex_ok E15.out hx)
        have b16 : j16 ≤ c.ts.length := f16.2.1
        have a16 : k14 < j16 := f16.2.2 _ _ rfl rfl
        have X16 := hidden ((M15.out.drew).fresh hl)
        have M16 := hidden ((M15.out.drew).only ho hp)
        clear hl hp ho hx f16
        refine hK.out _ _ (fun _ => M16.out.cell) ?_
        clear hHeld
        clear hK K
        (try simp only [Act.put, q4, q5, q6, q1, q2, q3])
        refine AnyTill.one (i := 4) (by kernel_rfl) rfl (fun K hK => ?_)
        (try simp only [q1, q2, q3])
        go_simp
        refine hK.out _ _ (fun _ => (M16.out.alloc _).cell) ?_
        clear hK K
        (try simp only [Act.put, q4, q5, q6, q1, q2, q3])
        refine AnyTill.one (i := 5) (by kernel_rfl) rfl (fun K hK => ?_)
        refine step_nodes rfl (.tmp 42) (.tmp 45) rfl (.slice ao14 n14 cp14) L14 [⟨x16, ao16, cp16⟩] (by simp [Act.eval]) (M16.out.alloc _).v (by have := (M16.out.alloc (.cells #[.int .i64 x16.kind, .int .i64 (c.pl x16.pl), .int .i64 x16.N, .string ⟨x16.S.toArray⟩, .slice ao16 x16.L.length cp16] 25)).n.lt; omega) w16.heap.size 1 (by simp [Act.eval]) (news_one (blk_alloc_new _ _)) (fun d hd => by rw [List.mem_singleton.1 hd]; exact X16.out.alloc _) (by simp) (by have := c.small; have := c.tm.len; simp; omega) (by have := M16.out.st.size; rw [nblk_alloc]; omega) ?_
        intro va17 vn17 vc17 w17 hv hgr
        have N17 := hidden ((M16.out.alloc _).n.grown hgr M16.out.v.ne)
        have M17 := hidden ((M16.out.alloc _).grown hgr hv)
        obtain ⟨n0, n1, n2, n3, n4, nf⟩ := N17.out.cells
        clear n0 n1 n2 n3
        have G17 := hidden ((M16.out.alloc _).gone hgr hv)
        clear hv hgr
        refine hK.out _ _ (fun _ => n4) ?_
        clear hK K
        (try simp only [Act.put, q4, q5, q6, q1, q2, q3])
        refine AnyTill.one (i := 6) (by kernel_rfl) rfl (fun K hK => ?_)
        (try simp only [q1, q2, q3])
        go_simp
        refine hK.out _ _ (fun _ => n4) ?_
        clear hK K
        (try simp only [Act.put, q4, q5, q6, q1, q2, q3])
        refine AnyTill.one (i := 7) (by kernel_rfl) rfl (fun K hK => ?_)
        (try simp only [q1, q2, q3])
        go_simp
        refine hK.out _ _ (fun h => absurd rfl h) ?_
        clear n4 nf
        clear hK K
        (try simp only [Act.put, q4, q5, q6, q1, q2, q3])
        refine AnyTill.done (by kernel_rfl) ?_ _
        (try simp only [Act.put, q4, q5, q6, q1, q2, q3])
        go_wp2_with fail
        go_roundg (c.ts.length + 1 - (j16))
        case rel => exact ⟨_, _, _, _, _, by omega, by omega, by simp; omega, rfl, M17.out, by rw [List.map_append]; exact E16.out⟩
        case measure => omega
      | false =>
       rw [hs] at hb
       have E15 := hidden (tail_testN (T := .appR) (C := fun l => .ret (.mk 16 x10.pl 0 [] l)) (acc := L14.map ND.t) rfl kb14 E14.out hs)
       refine hb.mono ?_
       clear hb
       rintro e w15 ⟨rfl, hb⟩
       have M15 := hidden (M14.out.below hb)
       clear hb hs
       obtain ⟨y0, y1, y2, y3, y4, yf⟩ := M15.out.n.cells
       obtain ⟨z0, z1, z2, z3, z4, zf⟩ := M15.out.st.zc
       clear yf
       go_wp2_with fail
       refine bodyPost_ret (results_cell_row rfl _ _ w.heap.size 25 #[.int .i64 16, .int .i64 (c.pl x10.pl), .int .i64 0, .string ⟨[].toArray⟩, (.slice ao14 n14 cp14)] (0, 0) _ rfl (M15.out.st.row _ _ _ _ _) Tryz.underlying25 rfl (by kernel_rfl)) rfl ?_
       exact M15.out.ret (s := []) (E15.out) rfl
    | false =>
     rw [hs] at hb
     have E12 := hidden ((fun h hs => app_stop (by omega) h hs : R = exec c.ts (reads c.ts) (.call .appR fun r => .ret (match r.L with | [] => x10 | y :: l => .mk 16 x10.pl 0 [] (x10 :: y :: l))) j10 → _ → R = .ok (x10, j10)) E10.out hs)
     refine hb.mono ?_
     clear hb
     rintro e w12 ⟨rfl, hb⟩
     have U12 := hidden (U11.out.below hb)
     clear hb hs
     obtain ⟨y0, y1, y2, y3, y4, yf⟩ := U12.out.n.cells
     obtain ⟨z0, z1, z2, z3, z4, zf⟩ := U12.out.st.zc
     clear yf
     go_wp2_with fail
     refine bodyPost_ret (results_cell_row rfl _ _ w.heap.size 25 #[.int .i64 x10.kind, .int .i64 (c.pl x10.pl), .int .i64 x10.N, .string ⟨x10.S.toArray⟩, .slice ao10 x10.L.length cp10] (0, 0) _ rfl (U12.out.st.row _ _ _ _ _) Tryz.underlying25 rfl (by kernel_rfl)) rfl ?_
     exact U12.out.ret (E12.out) rfl
end
end Go.Proofs.YthjmakjhidjbaaaGreat

/-
 Layer 8, the program's parser: rules' methods. Condition: the rules that they are made of do as the grammar says.
-/
namespace Go.Proofs.YthjmakjhidjbaaaGreat
open Go.ChangeShapes Go.WideShapes Go.ChangeAt Go.RowKit Go.Deep
set_option linter.unusedVariables false
set_option linter.unusedSimpArgs false
set_option maxHeartbeats 2000000
set_option maxRecDepth 20000
attribute [local go_sem ↓] Go.wp_at_zero Go.wp_at_succ

section
variable {c : PC} {w : World} {i : Nat}
theorem m_tup (hi : i ≤ c.ts.length) (r0 : Rule c 163 (.join 0) i) (ih : Beh c i) : Rule c 157 .tup i := by
 intro w h
 obtain ⟨R, hR⟩ : ∃ R, R = reads c.ts .tup i := ⟨_, rfl⟩
 rw [← hR]
 have HR := hidden hR
 have S0 := hidden (St.new h)
 have hmf : ∀ (fn : Fn) (first cap : Array Value) (w : World), (Instr.makeFunc fn first cap).run Tryz.prog w = .ok (.func fn first cap) w := fun _ _ _ _ => rfl
 have r1 : ∀ j, i ≤ j → j ≤ c.ts.length → Rule c 163 (.join 0) j := fun j h1 h2 => by
  rcases Nat.lt_or_ge i j with h3 | h3
  ·exact ih (.join 0) j h3 h2
  ·have : j = i := by omega
   subst this
   exact r0
 have H1 := hidden r1
 clear h hR r0 r1
 go_enter Tryz.func157, Tryz.ntmps157
 go_wp2_with fail
 have zz : (w.alloc (.cells #[.int .i64 0, .int .i64 0, .int .i64 0, .string ⟨#[]⟩, .slice none 0 0] 25)).heap.size = w.heap.size + 1 := nblk_alloc _ _
 obtain ⟨W0, hW⟩ : ∃ W0, w.alloc (.cells #[.int .i64 0, .int .i64 0, .int .i64 0, .string ⟨#[]⟩, .slice none 0 0] 25) = W0 := ⟨_, rfl⟩
 rw [hW] at S0 zz ⊢
 clear hW
 refine (inF c W0 _ 7 [44]).mono ?_
 rintro e w2 ⟨s, rfl, hf, hz, hb⟩
 have HF := hidden hf
 have S2 := hidden (S0.out.below hb)
 clear hf hb
 go_wp2_with fail
 have sb : c.b < s := by have := S0.out.ps.lt; omega
 have e1 : EntersF 163 := (enters_of Tryz.func163 (by kernel_rfl) rfl)
 have hh : hard (.join 0) = true := rfl
 have hx := m_inRow1 (T := .tupR) S2.out.ps hi HF.out sb (by decide) hh rfl e1 H1.out (HR.out.trans (in_of rfl rfl hi))
 have HX := hidden hx
 clear hx e1 hh
 refine (HX.out).mono ?_
 intro e w3 hg
 cases hR : R with
 | error m =>
  rw [hR] at hg
  obtain ⟨rfl, ho⟩ := hg
  exact ⟨rfl, S2.out.stop ho hR⟩
 | ok xj =>
  obtain ⟨x3, j3⟩ := xj
  rw [hR] at hg
  obtain ⟨ao3, cp3, rfl, hl, hp, ho⟩ := hg
  have X3 := hidden (Has.of hl S2.out)
  have HR := hidden hR
  have S3 := hidden (S2.out.only ho hp)
  clear hl hp ho hR
  obtain ⟨z0, z1, z2, z3, z4, zf⟩ := S3.out.zc
  go_wp2_with fail
  refine bodyPost_ret (results_cell_row rfl _ _ w.heap.size 25 #[.int .i64 x3.kind, .int .i64 (c.pl x3.pl), .int .i64 x3.N, .string ⟨x3.S.toArray⟩, .slice ao3 x3.L.length cp3] (0, 0) _ rfl (S3.out.row _ _ _ _ _) Tryz.underlying25 rfl (by kernel_rfl)) rfl ?_
  exact S3.out.ret X3.out HR.out rfl
theorem m_ptup (hi : i ≤ c.ts.length) (r0 : Rule c 154 .pcons i) (ih : Beh c i) : Rule c 138 .ptup i := by
 intro w h
 obtain ⟨R, hR⟩ : ∃ R, R = reads c.ts .ptup i := ⟨_, rfl⟩
 rw [← hR]
 have HR := hidden hR
 have S0 := hidden (St.new h)
 have hmf : ∀ (fn : Fn) (first cap : Array Value) (w : World), (Instr.makeFunc fn first cap).run Tryz.prog w = .ok (.func fn first cap) w := fun _ _ _ _ => rfl
 have r1 : ∀ j, i ≤ j → j ≤ c.ts.length → Rule c 154 .pcons j := fun j h1 h2 => by
  rcases Nat.lt_or_ge i j with h3 | h3
  ·exact ih .pcons j h3 h2
  ·have : j = i := by omega
   subst this
   exact r0
 have H1 := hidden r1
 clear h hR r0 r1
 go_enter Tryz.func138, Tryz.ntmps138
 go_wp2_with fail
 have zz : (w.alloc (.cells #[.int .i64 0, .int .i64 0, .int .i64 0, .string ⟨#[]⟩, .slice none 0 0] 25)).heap.size = w.heap.size + 1 := nblk_alloc _ _
 obtain ⟨W0, hW⟩ : ∃ W0, w.alloc (.cells #[.int .i64 0, .int .i64 0, .int .i64 0, .string ⟨#[]⟩, .slice none 0 0] 25) = W0 := ⟨_, rfl⟩
 rw [hW] at S0 zz ⊢
 clear hW
 refine (inF c W0 _ 108 [44]).mono ?_
 rintro e w2 ⟨s, rfl, hf, hz, hb⟩
 have HF := hidden hf
 have S2 := hidden (S0.out.below hb)
 clear hf hb
 go_wp2_with fail
 have sb : c.b < s := by have := S0.out.ps.lt; omega
 have e1 : EntersF 154 := (enters_of Tryz.func154 (by kernel_rfl) rfl)
 have hh : hard .pcons = true := rfl
 have hx := m_inRow1 (T := .ptupR) S2.out.ps hi HF.out sb (by decide) hh rfl e1 H1.out (HR.out.trans (in_of rfl rfl hi))
 have HX := hidden hx
 clear hx e1 hh
 refine (HX.out).mono ?_
 intro e w3 hg
 cases hR : R with
 | error m =>
  rw [hR] at hg
  obtain ⟨rfl, ho⟩ := hg
  exact ⟨rfl, S2.out.stop ho hR⟩
 | ok xj =>
  obtain ⟨x3, j3⟩ := xj
  rw [hR] at hg
  obtain ⟨ao3, cp3, rfl, hl, hp, ho⟩ := hg
  have X3 := hidden (Has.of hl S2.out)
  have HR := hidden hR
  have S3 := hidden (S2.out.only ho hp)
  clear hl hp ho hR
  obtain ⟨z0, z1, z2, z3, z4, zf⟩ := S3.out.zc
  go_wp2_with fail
  refine bodyPost_ret (results_cell_row rfl _ _ w.heap.size 25 #[.int .i64 x3.kind, .int .i64 (c.pl x3.pl), .int .i64 x3.N, .string ⟨x3.S.toArray⟩, .slice ao3 x3.L.length cp3] (0, 0) _ rfl (S3.out.row _ _ _ _ _) Tryz.underlying25 rfl (by kernel_rfl)) rfl ?_
  exact S3.out.ret X3.out HR.out rfl
theorem m_tprod (hi : i ≤ c.ts.length) (r0 : Rule c 128 .tpost i) (ih : Beh c i) : Rule c 113 .tprod i := by
 intro w h
 obtain ⟨R, hR⟩ : ∃ R, R = reads c.ts .tprod i := ⟨_, rfl⟩
 rw [← hR]
 have HR := hidden hR
 have S0 := hidden (St.new h)
 have hmf : ∀ (fn : Fn) (first cap : Array Value) (w : World), (Instr.makeFunc fn first cap).run Tryz.prog w = .ok (.func fn first cap) w := fun _ _ _ _ => rfl
 have r1 : ∀ j, i ≤ j → j ≤ c.ts.length → Rule c 128 .tpost j := fun j h1 h2 => by
  rcases Nat.lt_or_ge i j with h3 | h3
  ·exact ih .tpost j h3 h2
  ·have : j = i := by omega
   subst this
   exact r0
 have H1 := hidden r1
 clear h hR r0 r1
 go_enter Tryz.func113, Tryz.ntmps113
 go_wp2_with fail
 have zz : (w.alloc (.cells #[.int .i64 0, .int .i64 0, .int .i64 0, .string ⟨#[]⟩, .slice none 0 0] 25)).heap.size = w.heap.size + 1 := nblk_alloc _ _
 obtain ⟨W0, hW⟩ : ∃ W0, w.alloc (.cells #[.int .i64 0, .int .i64 0, .int .i64 0, .string ⟨#[]⟩, .slice none 0 0] 25) = W0 := ⟨_, rfl⟩
 rw [hW] at S0 zz ⊢
 clear hW
 refine (inF c W0 _ 204 [42]).mono ?_
 rintro e w2 ⟨s, rfl, hf, hz, hb⟩
 have HF := hidden hf
 have S2 := hidden (S0.out.below hb)
 clear hf hb
 go_wp2_with fail
 have sb : c.b < s := by have := S0.out.ps.lt; omega
 have e1 : EntersF 128 := (enters_of Tryz.func128 (by kernel_rfl) rfl)
 have hh : hard .tpost = true := rfl
 have hx := m_inRow1 (T := .tprodR) S2.out.ps hi HF.out sb (by decide) hh rfl e1 H1.out (HR.out.trans (in_of rfl rfl hi))
 have HX := hidden hx
 clear hx e1 hh
 refine (HX.out).mono ?_
 intro e w3 hg
 cases hR : R with
 | error m =>
  rw [hR] at hg
  obtain ⟨rfl, ho⟩ := hg
  exact ⟨rfl, S2.out.stop ho hR⟩
 | ok xj =>
  obtain ⟨x3, j3⟩ := xj
  rw [hR] at hg
  obtain ⟨ao3, cp3, rfl, hl, hp, ho⟩ := hg
  have X3 := hidden (Has.of hl S2.out)
  have HR := hidden hR
  have S3 := hidden (S2.out.only ho hp)
  clear hl hp ho hR
  obtain ⟨z0, z1, z2, z3, z4, zf⟩ := S3.out.zc
  go_wp2_with fail
  refine bodyPost_ret (results_cell_row rfl _ _ w.heap.size 25 #[.int .i64 x3.kind, .int .i64 (c.pl x3.pl), .int .i64 x3.N, .string ⟨x3.S.toArray⟩, .slice ao3 x3.L.length cp3] (0, 0) _ rfl (S3.out.row _ _ _ _ _) Tryz.underlying25 rfl (by kernel_rfl)) rfl ?_
  exact S3.out.ret X3.out HR.out rfl
end
end Go.Proofs.YthjmakjhidjbaaaGreat
