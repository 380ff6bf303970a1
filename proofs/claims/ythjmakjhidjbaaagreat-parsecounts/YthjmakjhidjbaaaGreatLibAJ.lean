/-
  Several small texts in one; each tells at its head what it proves, and on what condition.
-/
import Derived.Test.YthjmakjhidjbaaaGreatLibAG
import Derived.Test.YthjmakjhidjbaaaGreatLibAI
import Derived.Test.YthjmakjhidjbaaaGreatLibAC

/-
 Layer 8, the program's parser: rules' methods. Condition: the rules that they are made of do as the grammar says.
-/
namespace Go.Proofs.YthjmakjhidjbaaaGreat
open Go.ChangeShapes Go.WideShapes Go.ChangeAt Go.RowKit Go.Deep
set_option linter.unusedVariables false
set_option linter.unusedSimpArgs false
set_option maxHeartbeats 2000000
set_option maxRecDepth 20000
attribute [local go_sem ↓] Go.wp_at_zero Go.wp_at_succ

section
variable {c : PC} {w : World} {i : Nat}
theorem m_count {R : Res} (h : PS c w i) (hi : i < c.ts.length) (ih : Beh c i) (hE : R = exec c.ts (reads c.ts) (.token 3 fun t => .must [61] (.call .expr fun x => .skip [116, 111] (.call .expr fun y => .must [100, 111] (.call .seq fun z => .must [100, 111, 110, 101] (.ret (.mk 27 i 1 t.S [x, y, z])))) (.must [100, 111, 119, 110, 116, 111] (.call .expr fun y => .must [100, 111] (.call .seq fun z => .must [100, 111, 110, 101] (.ret (.mk 27 i 0 t.S [x, y, z]))))))) (i + 1)) : Calls Tryz.prog 148 #[.pointer (some ⟨c.b, 0, none⟩)] w fun e w' => Got8 c R w e w' := by
 have E0 := hidden hE
 have S0 := hidden (St.new h)
 have fl0 := fld1
 have fl1 := fld3
 clear h hE
 go_enter Tryz.func148, Tryz.ntmps148
 go_wp2_with fail
 refine (take8 S0.out.ps (by omega)).mono ?_
 rintro e w1 ⟨rfl, hp, ho⟩
 have S1 := hidden (S0.out.only ho hp)
 clear hp ho
 go_wp2_with fail
 cases hs : isK 3 (tk c.ts (i + 1)) with
 | false =>
  refine (mustBe_no S1.out.ps (by omega) 3 hs).mono ?_
  rintro e w' ⟨rfl, ho⟩
  exact ⟨rfl, S1.out.stop ho (ex_tokenN E0.out hs)⟩
 | true =>
  have t2 := isK_in hs (by decide)
  have E2 := hidden (ex_token E0.out hs (by decide))
  refine (mustBe_yes S1.out.ps 3 (by decide) hs).mono ?_
  rintro e w2 ⟨rfl, hp, ho⟩
  have S2 := hidden (S1.out.only ho hp)
  clear hp ho hs
  have M3 := hidden (Mk.zero S2.out 27 (c.pl i) 0 ⟨(tk c.ts (i + 1)).S.toArray⟩)
  go_wp2_with fail
  cases hs : isS [61] (tk c.ts (i + 1 + 1)) with
  | false =>
   refine (must_no M3.out.st.ps (by omega) [61] (by decide) hs).mono ?_
   rintro e w' ⟨rfl, ho⟩
   exact ⟨rfl, M3.out.st.stop ho (ex_mustN E2.out hs)⟩
  | true =>
   have t4 := isS_in hs
   have E4 := hidden (ex_must E2.out hs)
   refine (must_yes M3.out.st.ps [61] (by decide) hs).mono ?_
   rintro e w4 ⟨rfl, hp, ho⟩
   have M4 := hidden (M3.out.only ho hp)
   clear hp ho hs
   go_wp2_with fail
   refine ((ih .expr (i + 1 + 1 + 1) (by omega) (by omega) : Rule c 125 .expr (i + 1 + 1 + 1)) _ M4.out.st.ps).mono ?_
   intro e w5 hg
   cases hx : reads c.ts .expr (i + 1 + 1 + 1) with
   | error m =>
    rw [hx] at hg
    obtain ⟨rfl, ho⟩ := hg
    exact ⟨rfl, M4.out.st.stop ho (ex_err E4.out hx)⟩
   | ok xj =>
    obtain ⟨x5, j5⟩ := xj
    have f5 := reads_fine (ts := c.ts) .expr (i := i + 1 + 1 + 1) (by omega)
    rw [hx] at hg f5
    obtain ⟨ao5, cp5, rfl, hl, hp, ho⟩ := hg
    have E5 := hidden (ex_ok E4.out hx)
    have b5 : j5 ≤ c.ts.length := f5.2.1
    have a5 : i + 1 + 1 + 1 < j5 := f5.2.2 _ _ rfl rfl
    have X5 := hidden (M4.out.fresh hl)
    have M5 := hidden (M4.out.only ho hp)
    clear hl hp ho hx f5
    go_wp2_with fail
    have VA := hidden (Lq.new M5.out x5.kind (c.pl x5.pl) x5.N ⟨x5.S.toArray⟩ (.slice ao5 x5.L.length cp5))
    have HVA := hidden (HasM.of X5.out)
    cases hs : isS [116, 111] (tk c.ts (j5)) with
    | true =>
     have t6 := isS_in hs
     have E6 := hidden (ex_skip E5.out hs)
     refine (comesR1 (M5.out.alloc _).st.ps (by omega) [116, 111] (by decide) hs (by first | exact nblk_alloc _ _ | rfl | simp only [nblk_alloc, nblk_setCell] | omega)).mono ?_
     rintro e w6 ⟨rfl, hb⟩
     have VA_6 := hidden (VA.out.below hb)
     have HVA_6 := hidden ((HVA.out.alloc _).below hb)
     have M6 := hidden ((M5.out.alloc _).below hb)
     clear hb hs
     obtain ⟨y0, y1, y2, y3, y4, yf⟩ := M6.out.n.cells
     have yl := M6.out.n.lt
     have yn := Nat.ne_of_lt yl
     go_wp2_with fail
     clear y0 y1 y2 y3 y4 yf yl yn
     refine (take8 (M6.out.setN 1).st.ps (by omega)).mono ?_
     rintro e w7 ⟨rfl, hp, ho⟩
     have VA_7 := hidden ((VA_6.out.setq 2 (.int .i64 1)).only (M6.out.setN 1).st ho)
     have HVA_7 := hidden ((HVA_6.out.setq 2 (.int .i64 1)).only (M6.out.setN 1).st ho)
     have M7 := hidden ((M6.out.setN 1).only ho hp)
     clear hp ho
     go_wp2_with fail
     refine ((ih .expr (j5 + 1) (by omega) (by omega) : Rule c 125 .expr (j5 + 1)) _ M7.out.st.ps).mono ?_
     intro e w8 hg
     cases hx : reads c.ts .expr (j5 + 1) with
     | error m =>
      rw [hx] at hg
      obtain ⟨rfl, ho⟩ := hg
      exact ⟨rfl, M7.out.st.stop ho (ex_err E6.out hx)⟩
     | ok xj =>
      obtain ⟨x8, j8⟩ := xj
      have f8 := reads_fine (ts := c.ts) .expr (i := j5 + 1) (by omega)
      rw [hx] at hg f8
      obtain ⟨ao8, cp8, rfl, hl, hp, ho⟩ := hg
      have E8 := hidden (ex_ok E6.out hx)
      have b8 : j8 ≤ c.ts.length := f8.2.1
      have a8 : j5 + 1 < j8 := f8.2.2 _ _ rfl rfl
      have X8 := hidden (M7.out.fresh hl)
      have VA_8 := hidden (VA_7.out.only M7.out.st ho)
      have HVA_8 := hidden (HVA_7.out.only M7.out.st ho)
      have M8 := hidden (M7.out.only ho hp)
      clear hl hp ho hx f8
      go_wp2_with fail
      have zs := M8.out.st.size
      have HVB := hidden (HasM.of X8.out)
      have M9 := hidden (M8.out.alloc (.cells #[.int .i64 x8.kind, .int .i64 (c.pl x8.pl), .int .i64 x8.N, .string ⟨x8.S.toArray⟩, .slice ao8 x8.L.length cp8] 25))
      have VA_9 := hidden (VA_8.out.alloc (.cells #[.int .i64 x8.kind, .int .i64 (c.pl x8.pl), .int .i64 x8.N, .string ⟨x8.S.toArray⟩, .slice ao8 x8.L.length cp8] 25))
      have HVA_9 := hidden (HVA_8.out.alloc (.cells #[.int .i64 x8.kind, .int .i64 (c.pl x8.pl), .int .i64 x8.N, .string ⟨x8.S.toArray⟩, .slice ao8 x8.L.length cp8] 25))
      have HVB_9 := hidden (HVB.out.alloc (.cells #[.int .i64 x8.kind, .int .i64 (c.pl x8.pl), .int .i64 x8.N, .string ⟨x8.S.toArray⟩, .slice ao8 x8.L.length cp8] 25))
      have VB_9 := hidden (Lq.new M8.out x8.kind (c.pl x8.pl) x8.N ⟨x8.S.toArray⟩ (.slice ao8 x8.L.length cp8))
      obtain ⟨w9, hW⟩ : ∃ W, World.alloc w8 (.cells #[.int .i64 x8.kind, .int .i64 (c.pl x8.pl), .int .i64 x8.N, .string ⟨x8.S.toArray⟩, .slice ao8 x8.L.length cp8] 25) = W := ⟨_, rfl⟩
      rw [hW] at M9 VA_9 HVA_9 HVB_9 VB_9 ⊢
      clear hW
      obtain ⟨Rl, hRl⟩ : ∃ Rl, Rl = loopR c.ts (j8) := ⟨_, rfl⟩
      have HRl := hidden hRl
      have EL := hidden (loop_eq (f := fun z => .mk 27 i 1 (tk c.ts (i + 1)).S [x5, x8, z]) E8.out)
      rw [← hRl] at EL
      clear hRl
      obtain ⟨a0, a1, a2, a3, a4, af⟩ := VA_9.out.l.n.cells
      obtain ⟨b0, b1, b2, b3, b4, bf⟩ := VB_9.out.l.n.cells
      refine region_till (S := (fun w' => w'.cell? ⟨w5.heap.size, 0, none⟩ = some (.int .i64 x5.kind) ∧ w'.cell? ⟨w5.heap.size, 1, none⟩ = some (.int .i64 (c.pl x5.pl)) ∧ w'.cell? ⟨w5.heap.size, 2, none⟩ = some (.int .i64 x5.N) ∧ w'.cell? ⟨w5.heap.size, 3, none⟩ = some (.string ⟨x5.S.toArray⟩) ∧ w'.cell? ⟨w5.heap.size, 4, none⟩ = some (.slice ao5 x5.L.length cp5) ∧ w'.cell? ⟨w8.heap.size, 0, none⟩ = some (.int .i64 x8.kind) ∧ w'.cell? ⟨w8.heap.size, 1, none⟩ = some (.int .i64 (c.pl x8.pl)) ∧ w'.cell? ⟨w8.heap.size, 2, none⟩ = some (.int .i64 x8.N) ∧ w'.cell? ⟨w8.heap.size, 3, none⟩ = some (.string ⟨x8.S.toArray⟩) ∧ w'.cell? ⟨w8.heap.size, 4, none⟩ = some (.slice ao8 x8.L.length cp8))) (kz := 6) (by kernel_rfl) ⟨a0, a1, a2, a3, a4, b0, b1, b2, b3, b4⟩ (fun hHeld => ?_)
      refine AnyTill.tk (i := 0) (v := ?_) hHeld ?_ ?_
      rotate_left
      ·(intro w hSw; (try dsimp only at hSw); go_simp; (try with_reducible rfl))
      (try simp only [Act.put, q4, q5, q6, q1, q2, q3])
      refine AnyTill.tk (i := 1) (v := ?_) hHeld ?_ ?_
      rotate_left
      ·(intro w hSw; (try dsimp only at hSw); go_simp; (try with_reducible rfl))
      (try simp only [Act.put, q4, q5, q6, q1, q2, q3])
      refine AnyTill.tk (i := 2) (v := ?_) hHeld ?_ ?_
      rotate_left
      ·(intro w hSw; (try dsimp only at hSw); go_simp; (try with_reducible rfl))
      (try simp only [Act.put, q4, q5, q6, q1, q2, q3])
      clear af bf
      refine AnyTill.one (i := 3) (by kernel_rfl) rfl (fun K hK => ?_)
      (try simp only [q1, q2, q3])
      go_simp
      refine (m_loop (C := .ret) (M9.out.drew).st.ps (by omega) (fun n j h1 h2 => ih n j (by omega) h2) HRl.out).mono ?_
      intro e w10 hg
      cases hL : Rl with
      | error m =>
       rw [hL] at hg
       obtain ⟨rfl, ho⟩ := hg
       exact ⟨rfl, (M9.out.drew).st.stop ho (by rw [EL.out, hL])⟩
      | ok xj =>
       obtain ⟨x10, j10⟩ := xj
       rw [hL] at hg
       obtain ⟨ao10, cp10, rfl, hl, hp, ho⟩ := hg
       have E10 := hidden (show R = .ok (.mk 27 i 1 (tk c.ts (i + 1)).S [x5, x8, _], _) by rw [EL.out, hL])
       have X10 := hidden ((M9.out.drew).fresh hl)
       have VA_10 := hidden ((VA_9.out.drw).only (M9.out.drew).st ho)
       have HVA_10 := hidden ((HVA_9.out.drw).only (M9.out.drew).st ho)
       have HVB_10 := hidden ((HVB_9.out.drw).only (M9.out.drew).st ho)
       have VB_10 := hidden ((VB_9.out.drw).only (M9.out.drew).st ho)
       have M10 := hidden ((M9.out.drew).only ho hp)
       clear hl hp ho
       clear hL hHeld
       obtain ⟨a0, a1, a2, a3, a4, af⟩ := VA_10.out.l.n.cells
       obtain ⟨b0, b1, b2, b3, b4, bf⟩ := VB_10.out.l.n.cells
       refine hK.out _ _ (fun _ => ⟨a0, a1, a2, a3, a4, b0, b1, b2, b3, b4⟩) ?_
       clear hK K
       (try simp only [Act.put, q4, q5, q6, q1, q2, q3])
       clear af bf
       refine AnyTill.one (i := 4) (by kernel_rfl) rfl (fun K hK => ?_)
       (try simp only [q1, q2, q3])
       go_simp
       obtain ⟨a0, a1, a2, a3, a4, af⟩ := (VA_10.out.alloc (.cells #[.int .i64 x5.kind, .int .i64 (c.pl x5.pl), .int .i64 x5.N, .string ⟨x5.S.toArray⟩, .slice ao5 x5.L.length cp5, .int .i64 x8.kind, .int .i64 (c.pl x8.pl), .int .i64 x8.N, .string ⟨x8.S.toArray⟩, .slice ao8 x8.L.length cp8, .int .i64 x10.kind, .int .i64 (c.pl x10.pl), .int .i64 x10.N, .string ⟨x10.S.toArray⟩, .slice ao10 x10.L.length cp10] 25)).l.n.cells
       obtain ⟨b0, b1, b2, b3, b4, bf⟩ := (VB_10.out.alloc (.cells #[.int .i64 x5.kind, .int .i64 (c.pl x5.pl), .int .i64 x5.N, .string ⟨x5.S.toArray⟩, .slice ao5 x5.L.length cp5, .int .i64 x8.kind, .int .i64 (c.pl x8.pl), .int .i64 x8.N, .string ⟨x8.S.toArray⟩, .slice ao8 x8.L.length cp8, .int .i64 x10.kind, .int .i64 (c.pl x10.pl), .int .i64 x10.N, .string ⟨x10.S.toArray⟩, .slice ao10 x10.L.length cp10] 25)).l.n.cells
       refine hK.out _ _ (fun _ => ⟨a0, a1, a2, a3, a4, b0, b1, b2, b3, b4⟩) ?_
       clear hK K
       (try simp only [Act.put, q4, q5, q6, q1, q2, q3])
       obtain ⟨y0, y1, y2, y3, y4, yf⟩ := M10.out.n.cells
       have yl := M10.out.n.lt
       have yn := Nat.ne_of_lt yl
       refine AnyTill.one (i := 5) (by kernel_rfl) rfl (fun K hK => ?_)
       (try simp only [q1, q2, q3])
       go_simp
       refine hK.out _ _ (fun _ => ⟨a0, a1, a2, a3, a4, b0, b1, b2, b3, b4⟩) ?_
       clear hK K
       (try simp only [Act.put, q4, q5, q6, q1, q2, q3])
       refine AnyTill.one (i := 6) (by kernel_rfl) rfl (fun K hK => ?_)
       (try simp only [q1, q2, q3])
       go_simp
       refine hK.out _ _ (fun h => absurd rfl h) ?_
       clear hK K
       (try simp only [Act.put, q4, q5, q6, q1, q2, q3])
       refine AnyTill.done (by kernel_rfl) ?_ _
       (try simp only [Act.put, q4, q5, q6, q1, q2, q3])
       clear a0 a1 a2 a3 a4 af b0 b1 b2 b3 b4 bf
       obtain ⟨z0, z1, z2, z3, z4, zf⟩ := M10.out.st.zc
       have zl := M10.out.st.size
       have zn := Nat.ne_of_lt zl
       have zq := M10.out.hq
       have zq2 := Nat.ne_of_lt zq
       have zq3 := (Nat.ne_of_lt zq).symm
       go_wp2_with fail
       refine bodyPost_ret (results_cell_row rfl _ _ w.heap.size 25 #[.int .i64 27, .int .i64 (c.pl i), .int .i64 1, .string ⟨(tk c.ts (i + 1)).S.toArray⟩, .slice (some ⟨w10.heap.size, 0, none⟩) 3 3] (0, 0) _ rfl (M10.out.row1 _ _ _ _ _ _ _) Tryz.underlying25 rfl (by kernel_rfl)) rfl ?_
       exact M10.out.ret3 (s := (tk c.ts (i + 1)).S) HVA_10.out HVB_10.out X10.out E10.out rfl
    | false =>
     have E6 := hidden (ex_skipN E5.out hs)
     refine (comesR1 (M5.out.alloc _).st.ps (by omega) [116, 111] (by decide) hs (by first | exact nblk_alloc _ _ | rfl | simp only [nblk_alloc, nblk_setCell] | omega)).mono ?_
     rintro e w6 ⟨rfl, hb⟩
     have VA_6 := hidden (VA.out.below hb)
     have HVA_6 := hidden ((HVA.out.alloc _).below hb)
     have M6 := hidden ((M5.out.alloc _).below hb)
     clear hb hs
     go_wp2_with fail
     cases hs : isS [100, 111, 119, 110, 116, 111] (tk c.ts (j5)) with
     | true =>
      have t11 := isS_in hs
      have E11 := hidden (ex_must E6.out hs)
      refine (comesR1 M6.out.st.ps (by omega) [100, 111, 119, 110, 116, 111] (by decide) hs (by first | exact nblk_alloc _ _ | rfl | simp only [nblk_alloc, nblk_setCell] | omega)).mono ?_
      rintro e w11 ⟨rfl, hb⟩
      have VA_11 := hidden (VA_6.out.below hb)
      have HVA_11 := hidden (HVA_6.out.below hb)
      have M11 := hidden (M6.out.below hb)
      clear hb hs
      go_wp2_with fail
      refine (take8 M11.out.st.ps (by omega)).mono ?_
      rintro e w12 ⟨rfl, hp, ho⟩
      have VA_12 := hidden (VA_11.out.only M11.out.st ho)
      have HVA_12 := hidden (HVA_11.out.only M11.out.st ho)
      have M12 := hidden (M11.out.only ho hp)
      clear hp ho
      go_wp2_with fail
      refine ((ih .expr (j5 + 1) (by omega) (by omega) : Rule c 125 .expr (j5 + 1)) _ M12.out.st.ps).mono ?_
      intro e w13 hg
      cases hx : reads c.ts .expr (j5 + 1) with
      | error m =>
       rw [hx] at hg
       obtain ⟨rfl, ho⟩ := hg
       exact ⟨rfl, M12.out.st.stop ho (ex_err E11.out hx)⟩
      | ok xj =>
       obtain ⟨x13, j13⟩ := xj
       have f13 := reads_fine (ts := c.ts) .expr (i := j5 + 1) (by omega)
       rw [hx] at hg f13
       obtain ⟨ao13, cp13, rfl, hl, hp, ho⟩ := hg
       have E13 := hidden (ex_ok E11.out hx)
       have b13 : j13 ≤ c.ts.length := f13.2.1
       have a13 : j5 + 1 < j13 := f13.2.2 _ _ rfl rfl
       have X13 := hidden (M12.out.fresh hl)
       have VA_13 := hidden (VA_12.out.only M12.out.st ho)
       have HVA_13 := hidden (HVA_12.out.only M12.out.st ho)
       have M13 := hidden (M12.out.only ho hp)
       clear hl hp ho hx f13
       go_wp2_with fail
       have zs := M13.out.st.size
       have HVB := hidden (HasM.of X13.out)
       have M14 := hidden (M13.out.alloc (.cells #[.int .i64 x13.kind, .int .i64 (c.pl x13.pl), .int .i64 x13.N, .string ⟨x13.S.toArray⟩, .slice ao13 x13.L.length cp13] 25))
       have VA_14 := hidden (VA_13.out.alloc (.cells #[.int .i64 x13.kind, .int .i64 (c.pl x13.pl), .int .i64 x13.N, .string ⟨x13.S.toArray⟩, .slice ao13 x13.L.length cp13] 25))
       have HVA_14 := hidden (HVA_13.out.alloc (.cells #[.int .i64 x13.kind, .int .i64 (c.pl x13.pl), .int .i64 x13.N, .string ⟨x13.S.toArray⟩, .slice ao13 x13.L.length cp13] 25))
       have HVB_14 := hidden (HVB.out.alloc (.cells #[.int .i64 x13.kind, .int .i64 (c.pl x13.pl), .int .i64 x13.N, .string ⟨x13.S.toArray⟩, .slice ao13 x13.L.length cp13] 25))
       have VB_14 := hidden (Lq.new M13.out x13.kind (c.pl x13.pl) x13.N ⟨x13.S.toArray⟩ (.slice ao13 x13.L.length cp13))
       obtain ⟨w14, hW⟩ : ∃ W, World.alloc w13 (.cells #[.int .i64 x13.kind, .int .i64 (c.pl x13.pl), .int .i64 x13.N, .string ⟨x13.S.toArray⟩, .slice ao13 x13.L.length cp13] 25) = W := ⟨_, rfl⟩
       rw [hW] at M14 VA_14 HVA_14 HVB_14 VB_14 ⊢
       clear hW
       obtain ⟨Rl, hRl⟩ : ∃ Rl, Rl = loopR c.ts (j13) := ⟨_, rfl⟩
       have HRl := hidden hRl
       have EL := hidden (loop_eq (f := fun z => .mk 27 i 0 (tk c.ts (i + 1)).S [x5, x13, z]) E13.out)
       rw [← hRl] at EL
       clear hRl
       obtain ⟨a0, a1, a2, a3, a4, af⟩ := VA_14.out.l.n.cells
       obtain ⟨b0, b1, b2, b3, b4, bf⟩ := VB_14.out.l.n.cells
       refine region_till (S := (fun w' => w'.cell? ⟨w5.heap.size, 0, none⟩ = some (.int .i64 x5.kind) ∧ w'.cell? ⟨w5.heap.size, 1, none⟩ = some (.int .i64 (c.pl x5.pl)) ∧ w'.cell? ⟨w5.heap.size, 2, none⟩ = some (.int .i64 x5.N) ∧ w'.cell? ⟨w5.heap.size, 3, none⟩ = some (.string ⟨x5.S.toArray⟩) ∧ w'.cell? ⟨w5.heap.size, 4, none⟩ = some (.slice ao5 x5.L.length cp5) ∧ w'.cell? ⟨w13.heap.size, 0, none⟩ = some (.int .i64 x13.kind) ∧ w'.cell? ⟨w13.heap.size, 1, none⟩ = some (.int .i64 (c.pl x13.pl)) ∧ w'.cell? ⟨w13.heap.size, 2, none⟩ = some (.int .i64 x13.N) ∧ w'.cell? ⟨w13.heap.size, 3, none⟩ = some (.string ⟨x13.S.toArray⟩) ∧ w'.cell? ⟨w13.heap.size, 4, none⟩ = some (.slice ao13 x13.L.length cp13))) (kz := 6) (by kernel_rfl) ⟨a0, a1, a2, a3, a4, b0, b1, b2, b3, b4⟩ (fun hHeld => ?_)
       refine AnyTill.tk (i := 0) (v := ?_) hHeld ?_ ?_
       rotate_left
       ·(intro w hSw; (try dsimp only at hSw); go_simp; (try with_reducible rfl))
       (try simp only [Act.put, q4, q5, q6, q1, q2, q3])
       refine AnyTill.tk (i := 1) (v := ?_) hHeld ?_ ?_
       rotate_left
       ·(intro w hSw; (try dsimp only at hSw); go_simp; (try with_reducible rfl))
       (try simp only [Act.put, q4, q5, q6, q1, q2, q3])
       refine AnyTill.tk (i := 2) (v := ?_) hHeld ?_ ?_
       rotate_left
       ·(intro w hSw; (try dsimp only at hSw); go_simp; (try with_reducible rfl))
       (try simp only [Act.put, q4, q5, q6, q1, q2, q3])
       clear af bf
       refine AnyTill.one (i := 3) (by kernel_rfl) rfl (fun K hK => ?_)
       (try simp only [q1, q2, q3])
       go_simp
       refine (m_loop (C := .ret) (M14.out.drew).st.ps (by omega) (fun n j h1 h2 => ih n j (by omega) h2) HRl.out).mono ?_
       intro e w15 hg
       cases hL : Rl with
       | error m =>
        rw [hL] at hg
        obtain ⟨rfl, ho⟩ := hg
        exact ⟨rfl, (M14.out.drew).st.stop ho (by rw [EL.out, hL])⟩
       | ok xj =>
        obtain ⟨x15, j15⟩ := xj
        rw [hL] at hg
        obtain ⟨ao15, cp15, rfl, hl, hp, ho⟩ := hg
        have E15 := hidden (show R = .ok (.mk 27 i 0 (tk c.ts (i + 1)).S [x5, x13, _], _) by rw [EL.out, hL])
        have X15 := hidden ((M14.out.drew).fresh hl)
        have VA_15 := hidden ((VA_14.out.drw).only (M14.out.drew).st ho)
        have HVA_15 := hidden ((HVA_14.out.drw).only (M14.out.drew).st ho)
        have HVB_15 := hidden ((HVB_14.out.drw).only (M14.out.drew).st ho)
        have VB_15 := hidden ((VB_14.out.drw).only (M14.out.drew).st ho)
        have M15 := hidden ((M14.out.drew).only ho hp)
        clear hl hp ho
        clear hL hHeld
        obtain ⟨a0, a1, a2, a3, a4, af⟩ := VA_15.out.l.n.cells
        obtain ⟨b0, b1, b2, b3, b4, bf⟩ := VB_15.out.l.n.cells
        refine hK.out _ _ (fun _ => ⟨a0, a1, a2, a3, a4, b0, b1, b2, b3, b4⟩) ?_
        clear hK K
        (try simp only [Act.put, q4, q5, q6, q1, q2, q3])
        clear af bf
        refine AnyTill.one (i := 4) (by kernel_rfl) rfl (fun K hK => ?_)
        (try simp only [q1, q2, q3])
        go_simp
        obtain ⟨a0, a1, a2, a3, a4, af⟩ := (VA_15.out.alloc (.cells #[.int .i64 x5.kind, .int .i64 (c.pl x5.pl), .int .i64 x5.N, .string ⟨x5.S.toArray⟩, .slice ao5 x5.L.length cp5, .int .i64 x13.kind, .int .i64 (c.pl x13.pl), .int .i64 x13.N, .string ⟨x13.S.toArray⟩, .slice ao13 x13.L.length cp13, .int .i64 x15.kind, .int .i64 (c.pl x15.pl), .int .i64 x15.N, .string ⟨x15.S.toArray⟩, .slice ao15 x15.L.length cp15] 25)).l.n.cells
        obtain ⟨b0, b1, b2, b3, b4, bf⟩ := (VB_15.out.alloc (.cells #[.int .i64 x5.kind, .int .i64 (c.pl x5.pl), .int .i64 x5.N, .string ⟨x5.S.toArray⟩, .slice ao5 x5.L.length cp5, .int .i64 x13.kind, .int .i64 (c.pl x13.pl), .int .i64 x13.N, .string ⟨x13.S.toArray⟩, .slice ao13 x13.L.length cp13, .int .i64 x15.kind, .int .i64 (c.pl x15.pl), .int .i64 x15.N, .string ⟨x15.S.toArray⟩, .slice ao15 x15.L.length cp15] 25)).l.n.cells
        refine hK.out _ _ (fun _ => ⟨a0, a1, a2, a3, a4, b0, b1, b2, b3, b4⟩) ?_
        clear hK K
        (try simp only [Act.put, q4, q5, q6, q1, q2, q3])
        obtain ⟨y0, y1, y2, y3, y4, yf⟩ := M15.out.n.cells
        have yl := M15.out.n.lt
        have yn := Nat.ne_of_lt yl
        refine AnyTill.one (i := 5) (by kernel_rfl) rfl (fun K hK => ?_)
        (try simp only [q1, q2, q3])
        go_simp
        refine hK.out _ _ (fun _ => ⟨a0, a1, a2, a3, a4, b0, b1, b2, b3, b4⟩) ?_
        clear hK K
        (try simp only [Act.put, q4, q5, q6, q1, q2, q3])
        refine AnyTill.one (i := 6) (by kernel_rfl) rfl (fun K hK => ?_)
        (try simp only [q1, q2, q3])
        go_simp
        refine hK.out _ _ (fun h => absurd rfl h) ?_
        clear hK K
        (try simp only [Act.put, q4, q5, q6, q1, q2, q3])
        refine AnyTill.done (by kernel_rfl) ?_ _
        (try simp only [Act.put, q4, q5, q6, q1, q2, q3])
        clear a0 a1 a2 a3 a4 af b0 b1 b2 b3 b4 bf
        obtain ⟨z0, z1, z2, z3, z4, zf⟩ := M15.out.st.zc
        have zl := M15.out.st.size
        have zn := Nat.ne_of_lt zl
        have zq := M15.out.hq
        have zq2 := Nat.ne_of_lt zq
        have zq3 := (Nat.ne_of_lt zq).symm
        go_wp2_with fail
        refine bodyPost_ret (results_cell_row rfl _ _ w.heap.size 25 #[.int .i64 27, .int .i64 (c.pl i), .int .i64 0, .string ⟨(tk c.ts (i + 1)).S.toArray⟩, .slice (some ⟨w15.heap.size, 0, none⟩) 3 3] (0, 0) _ rfl (M15.out.row1 _ _ _ _ _ _ _) Tryz.underlying25 rfl (by kernel_rfl)) rfl ?_
        exact M15.out.ret3 (s := (tk c.ts (i + 1)).S) HVA_15.out HVB_15.out X15.out E15.out rfl
     | false =>
      have E11 := hidden (ex_mustN E6.out hs)
      refine (comesR1 M6.out.st.ps (by omega) [100, 111, 119, 110, 116, 111] (by decide) hs (by first | exact nblk_alloc _ _ | rfl | simp only [nblk_alloc, nblk_setCell] | omega)).mono ?_
      rintro e w11 ⟨rfl, hb⟩
      have VA_11 := hidden (VA_6.out.below hb)
      have HVA_11 := hidden (HVA_6.out.below hb)
      have M11 := hidden (M6.out.below hb)
      clear hb hs
      go_wp2_with fail
      refine (giveUp8 M11.out.st.ps (by omega)).mono ?_
      rintro e w' ⟨rfl, ho⟩
      exact ⟨rfl, M11.out.st.stop ho (E11.out)⟩
end
end Go.Proofs.YthjmakjhidjbaaaGreat

/-
 Layer 8, the program's parser: rules' methods. Condition: the rules that they are made of do as the grammar says.
-/
namespace Go.Proofs.YthjmakjhidjbaaaGreat
open Go.ChangeShapes Go.WideShapes Go.ChangeAt Go.RowKit Go.Deep
set_option linter.unusedVariables false
set_option linter.unusedSimpArgs false
set_option maxHeartbeats 2000000
set_option maxRecDepth 20000
attribute [local go_sem ↓] Go.wp_at_zero Go.wp_at_succ

/-- A part of a tree, in a row. -/
structure Pt (c : PC) (w0 w : World) (g o : Nat) (t : Tr) (ao : Option Addr) (cp : Nat) : Prop where
 cells : w.cell? ⟨g, o, none⟩ = some (.int .i64 t.kind) ∧ w.cell? ⟨g, o + 1, none⟩ = some (.int .i64 (c.pl t.pl)) ∧ w.cell? ⟨g, o + 2, none⟩ = some (.int .i64 t.N) ∧ w.cell? ⟨g, o + 3, none⟩ = some (.string ⟨t.S.toArray⟩) ∧ w.cell? ⟨g, o + 4, none⟩ = some (.slice ao t.L.length cp)
 ge : w0.heap.size + 1 ≤ g
section
variable {c : PC} {w0 w w' : World} {i g o : Nat} {t : Tr} {ao : Option Addr} {cp : Nat}
theorem Pt.keep (h : Pt c w0 w g o t ao cp) (k : g < w.heap.size → w'.heap[g]? = w.heap[g]?) : Pt c w0 w' g o t ao cp := by
 have hc : ∀ o, w'.cell? ⟨g, o, none⟩ = w.cell? ⟨g, o, none⟩ := fun o => World.cell?_of_block (a := ⟨g, o, none⟩) (k (cell_lt h.cells.1))
 refine ⟨?_, h.ge⟩
 rw [hc, hc, hc, hc, hc]
 exact h.cells
theorem Pt.only (h : Pt c w0 w g o t ao cp) (hs : St c w0 w i) (ho : OnlyB c.b w w') : Pt c w0 w' g o t ao cp := h.keep (fun hl => ho.block g hl (by have := hs.b0; have := h.ge; intro (e : g = c.b); omega))
theorem Pt.below (h : Pt c w0 w g o t ao cp) (hb : Below w.heap.size w w') : Pt c w0 w' g o t ao cp := h.keep (fun hl => hb.block g hl)
theorem Pt.alloc (h : Pt c w0 w g o t ao cp) (ob : Obj) : Pt c w0 (w.alloc ob) g o t ao cp := h.keep (fun hl => blk_alloc_lt _ _ _ hl)
theorem Pt.drw (h : Pt c w0 w g o t ao cp) : Pt c w0 w.drew g o t ao cp := h.keep (fun _ => rfl)
theorem parts_of {a : Tr} {l : List Tr} (h : Has c w0 w (a :: l) ao) : ∃ g, ao = some ⟨g, 0, none⟩ ∧ ∀ k t, (a :: l)[k]? = some t → ∃ ao' cp', Pt c w0 w g (k * 5) t ao' cp' ∧ Has c w0 w t.L ao' := by
 obtain ⟨aos, cps, hc, hr⟩ := h
 obtain ⟨g, e, _⟩ := hc 0 a rfl
 refine ⟨g, e, fun k t hk => ⟨aos k, cps k, ?_, hr k t hk⟩⟩
 obtain ⟨g', e', hg, h0, h1, h2, h3, h4⟩ := hc k t hk
 rw [e] at e'
 simp only [Option.some.injEq, Addr.mk.injEq, and_true] at e'
 subst e'
 exact ⟨⟨h0, h1, h2, h3, h4⟩, hg⟩
theorem St.rowB (h : St c w0 w i) (ob : Obj) (a b d : Int) (s : ByteArray) (v : Value) : B5 ((fill5 w w0.heap.size a b d s v).alloc ob) w0.heap.size a b d s v := (h.z.fill a b d s v).alloc ob
theorem St.ret2 (h : St c w0 w i) {x y : Tr} {ao ao' : Option Addr} {cp cp' : Nat} (hx : Has c w0 w x.L ao) (hy : Has c w0 w y.L ao') {k : Int} {pl : Nat} {N : Int} {s : List UInt8} {R : Res} (hR : R = .ok (.mk k pl N s [x, y], i)) {e : Ending} (he : e = .returned (.agg #[.int .i64 k, .int .i64 (c.pl pl), .int .i64 N, .string ⟨s.toArray⟩, .slice (some ⟨w.heap.size, 0, none⟩) 2 2])) : Got8 c R w0 e ((fill5 w w0.heap.size k (c.pl pl) N ⟨s.toArray⟩ (.slice (some ⟨w.heap.size, 0, none⟩) 2 2)).alloc (.cells #[.int .i64 x.kind, .int .i64 (c.pl x.pl), .int .i64 x.N, .string ⟨x.S.toArray⟩, .slice ao x.L.length cp, .int .i64 y.kind, .int .i64 (c.pl y.pl), .int .i64 y.N, .string ⟨y.S.toArray⟩, .slice ao' y.L.length cp'] 25)) := by
 have hs := h.size
 rw [← fill5_alloc _ _ hs]
 exact (h.alloc _).ret (x := .mk k pl N s [x, y]) (ao := some ⟨w.heap.size, 0, none⟩) (cp := 2) (RL.two (blk_alloc_new _ _) (by omega) (RL.alloc hx _) (RL.alloc hy _)) hR he
theorem St.ret3 (h : St c w0 w i) {x y z : Tr} {ao ao' ao'' : Option Addr} {cp cp' cp'' : Nat} (hx : Has c w0 w x.L ao) (hy : Has c w0 w y.L ao') (hz : Has c w0 w z.L ao'') {k : Int} {pl : Nat} {N : Int} {s : List UInt8} {R : Res} (hR : R = .ok (.mk k pl N s [x, y, z], i)) {e : Ending} (he : e = .returned (.agg #[.int .i64 k, .int .i64 (c.pl pl), .int .i64 N, .string ⟨s.toArray⟩, .slice (some ⟨w.heap.size, 0, none⟩) 3 3])) : Got8 c R w0 e ((fill5 w w0.heap.size k (c.pl pl) N ⟨s.toArray⟩ (.slice (some ⟨w.heap.size, 0, none⟩) 3 3)).alloc (.cells #[.int .i64 x.kind, .int .i64 (c.pl x.pl), .int .i64 x.N, .string ⟨x.S.toArray⟩, .slice ao x.L.length cp, .int .i64 y.kind, .int .i64 (c.pl y.pl), .int .i64 y.N, .string ⟨y.S.toArray⟩, .slice ao' y.L.length cp', .int .i64 z.kind, .int .i64 (c.pl z.pl), .int .i64 z.N, .string ⟨z.S.toArray⟩, .slice ao'' z.L.length cp''] 25)) := by
 have hs := h.size
 rw [← fill5_alloc _ _ hs]
 exact (h.alloc _).ret (x := .mk k pl N s [x, y, z]) (ao := some ⟨w.heap.size, 0, none⟩) (cp := 3) (RL.three (blk_alloc_new _ _) (by omega) (RL.alloc hx _) (RL.alloc hy _) (RL.alloc hz _)) hR he
end
section
variable {c : PC} {w : World} {i : Nat}
theorem signR (h : PS c w i) (hi : i ≤ c.ts.length) {s : List UInt8} (hs : signT (tk c.ts i) = s) : Calls Tryz.prog 69 #[.pointer (some ⟨c.b, 0, none⟩)] w fun e w' => e = .returned (.string ⟨s.toArray⟩) ∧ Below w.heap.size w w' := hs ▸ sign8 h hi
theorem m_put {R : Res} (h : PS c w i) (hi : i ≤ c.ts.length) (hT : Rule c 157 .tup i) (ih : Beh c i) (hE : R = exec c.ts (reads c.ts) (.call .tup fun x => .here fun to => .skip [58, 61] (.call .expr fun y => .ret (.mk 29 to 0 [58, 61] [x, y])) (.test (isS [60, 45]) (if x.kind = 12 then .eat fun _ => .call .expr fun y => .ret (.mk 13 to 0 x.S (x.L ++ [y])) else if x.kind = 14 then .eat fun _ => .call .expr fun y => .ret (.mk 15 to 0 [] (x.L ++ [y])) else .bad) (.ret x))) i) : Calls Tryz.prog 149 #[.pointer (some ⟨c.b, 0, none⟩)] w fun e w' => Got8 c R w e w' := by
 have E0 := hidden hE
 have S0 := hidden (St.new h)
 have fl := fld1
 clear h hE
 go_enter Tryz.func149, Tryz.ntmps149
 go_wp2_with fail
 refine (hT _ S0.out.ps).mono ?_
 intro e w1 hg
 cases hx : reads c.ts .tup (i) with
 | error m =>
  rw [hx] at hg
  obtain ⟨rfl, ho⟩ := hg
  exact ⟨rfl, S0.out.stop ho (ex_err E0.out hx)⟩
 | ok xj =>
  obtain ⟨x1, j1⟩ := xj
  have f1 := reads_fine (ts := c.ts) .tup (i := i) (by omega)
  rw [hx] at hg f1
  obtain ⟨ao1, cp1, rfl, hl, hp, ho⟩ := hg
  have E1 := hidden (ex_ok E0.out hx)
  have HX0 := hidden hx
  have b1 : j1 ≤ c.ts.length := f1.2.1
  have a1 : i < j1 := f1.2.2 _ _ rfl rfl
  have X1 := hidden (Has.of hl S0.out)
  have S1 := hidden (S0.out.only ho hp)
  clear hl hp ho hx f1
  go_wp2_with fail
  have V1 := hidden (Lc.new S1.out x1.kind (c.pl x1.pl) x1.N ⟨x1.S.toArray⟩ (.slice ao1 x1.L.length cp1))
  go_wp2_with fail
  cases hs0 : isS [58, 61] (tk c.ts (j1)) with
  | true =>
   refine (signR (S1.out.alloc _).ps (by omega) (signT_is hs0)).mono ?_
   have t2 := isS_in hs0
   rintro e w2 ⟨rfl, hb⟩
   have X1_2 := hidden ((X1.out.alloc _).below hb)
   have V1_2 := hidden (V1.out.below hb)
   have S2 := hidden ((S1.out.alloc _).below hb)
   clear hb
   have E8 := hidden (ex_skip E1.out hs0)
   have hlt := isS_in hs0
   have HS := hidden hs0
   clear hs0
   go_wp2_with fail
   obtain ⟨n0, n1, n2, n3, n4, nf⟩ := V1_2.out.n.cells
   refine region_till (S := (fun w' => w'.cell? ⟨w1.heap.size, 0, none⟩ = some (.int .i64 x1.kind) ∧ w'.cell? ⟨w1.heap.size, 1, none⟩ = some (.int .i64 (c.pl x1.pl)) ∧ w'.cell? ⟨w1.heap.size, 2, none⟩ = some (.int .i64 x1.N) ∧ w'.cell? ⟨w1.heap.size, 3, none⟩ = some (.string ⟨x1.S.toArray⟩) ∧ w'.cell? ⟨w1.heap.size, 4, none⟩ = some (.slice ao1 x1.L.length cp1))) (kz := 6) (by kernel_rfl) ⟨n0, n1, n2, n3, n4⟩ (fun hHeld => ?_)
   refine AnyTill.tk (i := 0) (v := ?_) hHeld ?_ ?_
   rotate_left
   ·(intro w hSw; (try dsimp only at hSw); go_simp; (try with_reducible rfl))
   (try simp only [Act.put, q4, q5, q6, q1, q2, q3])
   refine AnyTill.tk (i := 2) (v := ?_) hHeld ?_ ?_
   rotate_left
   ·(intro w hSw; (try dsimp only at hSw); go_simp; (try with_reducible rfl))
   (try simp only [Act.put, q4, q5, q6, q1, q2, q3])
   refine AnyTill.tk (i := 3) (v := ?_) hHeld ?_ ?_
   rotate_left
   ·(intro w hSw; (try dsimp only at hSw); go_simp; (try with_reducible rfl))
   (try simp only [Act.put, q4, q5, q6, q1, q2, q3])
   clear nf
   refine AnyTill.one (i := 1) (by kernel_rfl) rfl (fun K hK => ?_)
   (try simp only [q1, q2, q3])
   go_simp
   refine (take8 (S2.out.drew).ps (by omega)).mono ?_
   rintro e w3 ⟨rfl, hp, ho⟩
   have X1_3 := hidden ((X1_2.out.drw).only (S2.out.drew) ho)
   have V1_3 := hidden ((V1_2.out.drw).only (S2.out.drew) ho)
   have S3 := hidden ((S2.out.drew).only ho hp)
   clear hp ho
   obtain ⟨n0, n1, n2, n3, n4, nf⟩ := V1_3.out.n.cells
   refine hK.out _ _ (fun _ => ⟨n0, n1, n2, n3, n4⟩) ?_
   clear hK K
   (try simp only [Act.put, q4, q5, q6, q1, q2, q3])
   clear nf hHeld
   refine AnyTill.one (i := 4) (by kernel_rfl) rfl (fun K hK => ?_)
   (try simp only [q1, q2, q3])
   go_simp
   refine ((ih .expr (j1 + 1) (by omega) (by omega) : Rule c 125 .expr (j1 + 1)) _ S3.out.ps).mono ?_
   intro e w4 hg
   cases hx : reads c.ts .expr (j1 + 1) with
   | error m =>
    rw [hx] at hg
    obtain ⟨rfl, ho⟩ := hg
    exact ⟨rfl, S3.out.stop ho (ex_err E8.out hx)⟩
   | ok xj =>
    obtain ⟨x4, j4⟩ := xj
    have f4 := reads_fine (ts := c.ts) .expr (i := j1 + 1) (by omega)
    rw [hx] at hg f4
    obtain ⟨ao4, cp4, rfl, hl, hp, ho⟩ := hg
    have E4 := hidden (ex_ok E8.out hx)
    have b4 : j4 ≤ c.ts.length := f4.2.1
    have a4 : j1 + 1 < j4 := f4.2.2 _ _ rfl rfl
    have X4 := hidden (Has.of hl S3.out)
    have X1_4 := hidden (X1_3.out.only S3.out ho)
    have V1_4 := hidden (V1_3.out.only S3.out ho)
    have S4 := hidden (S3.out.only ho hp)
    clear hl hp ho hx f4
    obtain ⟨n0, n1, n2, n3, n4, nf⟩ := V1_4.out.n.cells
    refine hK.out _ _ (fun _ => ⟨n0, n1, n2, n3, n4⟩) ?_
    clear hK K
    (try simp only [Act.put, q4, q5, q6, q1, q2, q3])
    clear nf
    refine AnyTill.one (i := 5) (by kernel_rfl) rfl (fun K hK => ?_)
    (try simp only [q1, q2, q3])
    go_simp
    refine (binary8 c w4 (fun g => w.heap.size + 1 ≤ g) _ _ (tk c.ts (j1)).S (j1) x1 x4 ao1 ao4 cp1 cp4 trivial X1_4.out X4.out).mono ?_
    rintro e w5 ⟨ao5, cp5, rfl, hl, hb⟩
    have XB := hidden (hl.mono (Q := fun g => w.heap.size + 1 ≤ g) (fun g hg _ => by have := S4.out.size; omega))
    have X1_5 := hidden (X1_4.out.below hb)
    have V1_5 := hidden (V1_4.out.below hb)
    have S5 := hidden (S4.out.below hb)
    clear hl hb
    obtain ⟨n0, n1, n2, n3, n4, nf⟩ := V1_5.out.n.cells
    refine hK.out _ _ (fun _ => ⟨n0, n1, n2, n3, n4⟩) ?_
    clear hK K
    (try simp only [Act.put, q4, q5, q6, q1, q2, q3])
    obtain ⟨z0, z1, z2, z3, z4, zf⟩ := S5.out.zc
    refine AnyTill.one (i := 6) (by kernel_rfl) rfl (fun K hK => ?_)
    (try simp only [q1, q2, q3])
    go_simp
    refine hK.out _ _ (fun h => absurd rfl h) ?_
    clear hK K
    (try simp only [Act.put, q4, q5, q6, q1, q2, q3])
    refine AnyTill.done (by kernel_rfl) ?_ _
    (try simp only [Act.put, q4, q5, q6, q1, q2, q3])
    go_wp2_with fail
    refine bodyPost_ret (results_cell_row rfl _ _ w.heap.size 25 #[.int .i64 29, .int .i64 (c.pl (j1)), .int .i64 0, .string ⟨(tk c.ts (j1)).S.toArray⟩, .slice ao5 2 cp5] (0, 0) _ rfl (S5.out.row _ _ _ _ _) Tryz.underlying25 rfl (by kernel_rfl)) rfl ?_
    exact S5.out.ret (x := .mk 29 (j1) 0 (tk c.ts (j1)).S [x1, x4]) XB.out (by rw [(isS_is HS.out).1]; exact E4.out) rfl
  | false =>
   have E2_0 := hidden (ex_skipN E1.out hs0)
   have z2_0 := signT_no hs0 (by decide)
   clear hs0
   cases hs1 : isS [60, 45] (tk c.ts (j1)) with
   | true =>
    refine (signR (S1.out.alloc _).ps (by omega) (signT_is hs1)).mono ?_
    have t2 := isS_in hs1
    rintro e w2 ⟨rfl, hb⟩
    have X1_2 := hidden ((X1.out.alloc _).below hb)
    have V1_2 := hidden (V1.out.below hb)
    have S2 := hidden ((S1.out.alloc _).below hb)
    clear hb
    have EA := hidden (ex_yes E2_0.out hs1)
    have hlt := isS_in hs1
    clear hs1
    have hgk : GK x1 := reads_gk HX0.out
    by_cases h12 : x1.kind = 12
    ·obtain ⟨a, ha⟩ := hgk.1 h12
     have hlen : x1.L.length = 1 := by rw [ha]; rfl
     have HXl := X1_2.out
     rw [ha] at HXl
     obtain ⟨gp, hgp, hpt⟩ := parts_of HXl
     have hao : ao1 = some ⟨gp, 0, none⟩ := hgp
     obtain ⟨ao_a, cp_a, hp_a, hh_a⟩ := hpt 0 a rfl
     have Pa := hidden hp_a
     have Qa := hidden hh_a
     clear hpt HXl hgp hp_a hh_a
     have z12 : (x1.kind == 12) = true := by rw [h12]; rfl
     have E8 : Hid (R = exec c.ts (reads c.ts) (.call .expr fun y => .ret (.mk 13 (j1) 0 x1.S ([a] ++ [y]))) (j1 + 1)) := by show _ = _; have h9 := EA.out; rw [if_pos h12, ha] at h9; exact ex_eat h9 hlt
     obtain ⟨n0, n1, n2, n3, n4, nf⟩ := V1_2.out.n.cells
     clear nf
     go_wp2_with fail
     clear n0 n1 n2 n3 n4 z12
     obtain ⟨n0, n1, n2, n3, n4, nf⟩ := V1_2.out.n.cells
     rw [hlen, hao] at n4
     clear nf
     obtain ⟨a0, a1, a2, a3, a4⟩ := Pa.out.cells
     refine region_till (S := (fun w' => w'.cell? ⟨w1.heap.size, 0, none⟩ = some (.int .i64 x1.kind) ∧ w'.cell? ⟨w1.heap.size, 1, none⟩ = some (.int .i64 (c.pl x1.pl)) ∧ w'.cell? ⟨w1.heap.size, 2, none⟩ = some (.int .i64 x1.N) ∧ w'.cell? ⟨w1.heap.size, 3, none⟩ = some (.string ⟨x1.S.toArray⟩) ∧ w'.cell? ⟨w1.heap.size, 4, none⟩ = some (.slice (some ⟨gp, 0, none⟩) 1 cp1) ∧ w'.cell? ⟨gp, 0, none⟩ = some (.int .i64 a.kind) ∧ w'.cell? ⟨gp, 1, none⟩ = some (.int .i64 (c.pl a.pl)) ∧ w'.cell? ⟨gp, 2, none⟩ = some (.int .i64 a.N) ∧ w'.cell? ⟨gp, 3, none⟩ = some (.string ⟨a.S.toArray⟩) ∧ w'.cell? ⟨gp, 4, none⟩ = some (.slice ao_a a.L.length cp_a))) (kz := 13) (by kernel_rfl) ⟨n0, n1, n2, n3, n4, a0, a1, a2, a3, a4⟩ (fun hHeld => ?_)
     refine AnyTill.tk (i := 0) (v := ?_) hHeld ?_ ?_
     rotate_left
     ·(intro w hSw; (try dsimp only at hSw); go_simp; (try with_reducible rfl))
     (try simp only [Act.put, q4, q5, q6, q1, q2, q3])
     refine AnyTill.tk (i := 3) (v := ?_) hHeld ?_ ?_
     rotate_left
     ·(intro w hSw; (try dsimp only at hSw); go_simp; (try with_reducible rfl))
     (try simp only [Act.put, q4, q5, q6, q1, q2, q3])
     refine AnyTill.tk (i := 4) (v := ?_) hHeld ?_ ?_
     rotate_left
     ·(intro w hSw; (try dsimp only at hSw); go_simp; (try with_reducible rfl))
     (try simp only [Act.put, q4, q5, q6, q1, q2, q3])
     refine AnyTill.tk (i := 5) (v := ?_) hHeld ?_ ?_
     rotate_left
     ·(intro w hSw; (try dsimp only at hSw); go_simp; (try with_reducible rfl))
     (try simp only [Act.put, q4, q5, q6, q1, q2, q3])
     refine AnyTill.tk (i := 6) (v := ?_) hHeld ?_ ?_
     rotate_left
     ·(intro w hSw; (try dsimp only at hSw); go_simp; (try with_reducible rfl))
     (try simp only [Act.put, q4, q5, q6, q1, q2, q3])
     refine AnyTill.tk (i := 7) (v := ?_) hHeld ?_ ?_
     rotate_left
     ·(intro w hSw; (try dsimp only at hSw); go_simp; (try with_reducible rfl))
     (try simp only [Act.put, q4, q5, q6, q1, q2, q3])
     refine AnyTill.tk (i := 8) (v := ?_) hHeld ?_ ?_
     rotate_left
     ·(intro w hSw; (try dsimp only at hSw); go_simp; (try with_reducible rfl))
     (try simp only [Act.put, q4, q5, q6, q1, q2, q3])
     refine AnyTill.tk (i := 9) (v := ?_) hHeld ?_ ?_
     rotate_left
     ·(intro w hSw; (try dsimp only at hSw); go_simp; (try with_reducible rfl))
     (try simp only [Act.put, q4, q5, q6, q1, q2, q3])
     refine AnyTill.one (i := 1) (by kernel_rfl) rfl (fun K hK => ?_)
     (try simp only [q1, q2, q3])
     go_simp
     refine (take8 (S2.out.drew).ps (by omega)).mono ?_
     rintro e w6 ⟨rfl, hp, ho⟩
     have X1_6 := hidden ((X1_2.out.drw).only (S2.out.drew) ho)
     have V1_6 := hidden ((V1_2.out.drw).only (S2.out.drew) ho)
     have Pa_6 := hidden ((Pa.out.drw).only (S2.out.drew) ho)
     have Qa_6 := hidden ((Qa.out.drw).only (S2.out.drew) ho)
     have S6 := hidden ((S2.out.drew).only ho hp)
     clear hp ho
     obtain ⟨n0, n1, n2, n3, n4, nf⟩ := V1_6.out.n.cells
     rw [hlen, hao] at n4
     clear nf
     obtain ⟨a0, a1, a2, a3, a4⟩ := Pa_6.out.cells
     refine hK.out _ _ (fun _ => ⟨n0, n1, n2, n3, n4, a0, a1, a2, a3, a4⟩) ?_
     clear hK K
     (try simp only [Act.put, q4, q5, q6, q1, q2, q3])
     refine AnyTill.take (i := 2) (v := ?_) rfl (by kernel_rfl) (by kernel_rfl) (by kernel_rfl) (by kernel_rfl) (fun _ _ _ h => h) (Or.inl ⟨by rfl, ?_⟩) ⟨n0, n1, n2, n3, n4, a0, a1, a2, a3, a4⟩ ?_
     rotate_left
     ·(intro w hSw; (try dsimp only at hSw); go_simp; (try with_reducible rfl))
     (try simp only [Act.put, q4, q5, q6, q1, q2, q3])
     clear hHeld
     refine AnyTill.one (i := 10) (by kernel_rfl) rfl (fun K hK => ?_)
     (try simp only [q1, q2, q3])
     go_simp
     refine ((ih .expr (j1 + 1) (by omega) (by omega) : Rule c 125 .expr (j1 + 1)) _ S6.out.ps).mono ?_
     intro e w7 hg
     cases hx : reads c.ts .expr (j1 + 1) with
     | error m =>
      rw [hx] at hg
      obtain ⟨rfl, ho⟩ := hg
      exact ⟨rfl, S6.out.stop ho (ex_err E8.out hx)⟩
     | ok xj =>
      obtain ⟨x7, j7⟩ := xj
      have f7 := reads_fine (ts := c.ts) .expr (i := j1 + 1) (by omega)
      rw [hx] at hg f7
      obtain ⟨ao7, cp7, rfl, hl, hp, ho⟩ := hg
      have E7 := hidden (ex_ok E8.out hx)
      have b7 : j7 ≤ c.ts.length := f7.2.1
      have a7 : j1 + 1 < j7 := f7.2.2 _ _ rfl rfl
      have X7 := hidden (Has.of hl S6.out)
      have X1_7 := hidden (X1_6.out.only S6.out ho)
      have V1_7 := hidden (V1_6.out.only S6.out ho)
      have Pa_7 := hidden (Pa_6.out.only S6.out ho)
      have Qa_7 := hidden (Qa_6.out.only S6.out ho)
      have S7 := hidden (S6.out.only ho hp)
      clear hl hp ho hx f7
      obtain ⟨n0, n1, n2, n3, n4, nf⟩ := V1_7.out.n.cells
      rw [hlen, hao] at n4
      clear nf
      obtain ⟨a0, a1, a2, a3, a4⟩ := Pa_7.out.cells
      refine hK.out _ _ (fun _ => ⟨n0, n1, n2, n3, n4, a0, a1, a2, a3, a4⟩) ?_
      clear hK K
      (try simp only [Act.put, q4, q5, q6, q1, q2, q3])
      refine AnyTill.one (i := 11) (by kernel_rfl) rfl (fun K hK => ?_)
      (try simp only [q1, q2, q3])
      go_simp
      obtain ⟨n0, n1, n2, n3, n4, nf⟩ := (V1_7.out.alloc (.cells #[.int .i64 a.kind, .int .i64 (c.pl a.pl), .int .i64 a.N, .string ⟨a.S.toArray⟩, .slice ao_a a.L.length cp_a, .int .i64 x7.kind, .int .i64 (c.pl x7.pl), .int .i64 x7.N, .string ⟨x7.S.toArray⟩, .slice ao7 x7.L.length cp7] 25)).n.cells
      rw [hlen, hao] at n4
      obtain ⟨a0, a1, a2, a3, a4⟩ := (Pa_7.out.alloc (.cells #[.int .i64 a.kind, .int .i64 (c.pl a.pl), .int .i64 a.N, .string ⟨a.S.toArray⟩, .slice ao_a a.L.length cp_a, .int .i64 x7.kind, .int .i64 (c.pl x7.pl), .int .i64 x7.N, .string ⟨x7.S.toArray⟩, .slice ao7 x7.L.length cp7] 25)).cells
      refine hK.out _ _ (fun _ => ⟨n0, n1, n2, n3, n4, a0, a1, a2, a3, a4⟩) ?_
      clear hK K
      (try simp only [Act.put, q4, q5, q6, q1, q2, q3])
      refine AnyTill.take (i := 12) (v := ?_) rfl (by kernel_rfl) (by kernel_rfl) (by kernel_rfl) (by kernel_rfl) (fun _ _ _ h => h) (Or.inl ⟨by rfl, ?_⟩) ⟨n0, n1, n2, n3, n4, a0, a1, a2, a3, a4⟩ ?_
      rotate_left
      ·(intro w hSw; (try dsimp only at hSw); go_simp; (try with_reducible rfl))
      (try simp only [Act.put, q4, q5, q6, q1, q2, q3])
      obtain ⟨z0, z1, z2, z3, z4, zf⟩ := S7.out.zc
      have zl := S7.out.size
      have zn := Nat.ne_of_lt zl
      refine AnyTill.one (i := 13) (by kernel_rfl) rfl (fun K hK => ?_)
      (try simp only [q1, q2, q3])
      go_simp
      refine hK.out _ _ (fun h => absurd rfl h) ?_
      clear hK K
      (try simp only [Act.put, q4, q5, q6, q1, q2, q3])
      refine AnyTill.done (by kernel_rfl) ?_ _
      (try simp only [Act.put, q4, q5, q6, q1, q2, q3])
      clear n0 n1 n2 n3 n4 nf a0 a1 a2 a3 a4
      go_wp2_with fail
      refine bodyPost_ret (results_cell_row rfl _ _ w.heap.size 25 #[.int .i64 13, .int .i64 (c.pl (j1)), .int .i64 0, .string ⟨x1.S.toArray⟩, .slice (some ⟨w7.heap.size, 0, none⟩) 2 2] (0, 0) _ rfl (S7.out.rowB _ _ _ _ _ _) Tryz.underlying25 rfl (by kernel_rfl)) rfl ?_
      exact S7.out.ret2 Qa_7.out X7.out (k := 13) (pl := j1) (N := 0) (s := x1.S) E7.out rfl
    ·by_cases h14 : x1.kind = 14
     ·obtain ⟨a, b, ha⟩ := hgk.2 h14
      have hlen : x1.L.length = 2 := by rw [ha]; rfl
      have HXl := X1_2.out
      rw [ha] at HXl
      obtain ⟨gp, hgp, hpt⟩ := parts_of HXl
      have hao : ao1 = some ⟨gp, 0, none⟩ := hgp
      obtain ⟨ao_a, cp_a, hp_a, hh_a⟩ := hpt 0 a rfl
      have Pa := hidden hp_a
      have Qa := hidden hh_a
      obtain ⟨ao_b, cp_b, hp_b, hh_b⟩ := hpt 1 b rfl
      have Pb := hidden hp_b
      have Qb := hidden hh_b
      clear hpt HXl hgp hp_a hh_a hp_b hh_b
      have z12 : (x1.kind == 12) = false := by simpa using h12
      have z14 : (x1.kind == 14) = true := by rw [h14]; rfl
      have E8 : Hid (R = exec c.ts (reads c.ts) (.call .expr fun y => .ret (.mk 15 (j1) 0 [] ([a, b] ++ [y]))) (j1 + 1)) := by show _ = _; have h9 := EA.out; rw [if_neg h12, if_pos h14, ha] at h9; exact ex_eat h9 hlt
      obtain ⟨n0, n1, n2, n3, n4, nf⟩ := V1_2.out.n.cells
      clear nf
      go_wp2_with fail
      clear n0 n1 n2 n3 n4 z12 z14
      obtain ⟨n0, n1, n2, n3, n4, nf⟩ := V1_2.out.n.cells
      rw [hlen, hao] at n4
      clear nf
      obtain ⟨a0, a1, a2, a3, a4⟩ := Pa.out.cells
      obtain ⟨b0, b1, b2, b3, b4⟩ := Pb.out.cells
      refine region_till (S := (fun w' => w'.cell? ⟨w1.heap.size, 0, none⟩ = some (.int .i64 x1.kind) ∧ w'.cell? ⟨w1.heap.size, 1, none⟩ = some (.int .i64 (c.pl x1.pl)) ∧ w'.cell? ⟨w1.heap.size, 2, none⟩ = some (.int .i64 x1.N) ∧ w'.cell? ⟨w1.heap.size, 3, none⟩ = some (.string ⟨x1.S.toArray⟩) ∧ w'.cell? ⟨w1.heap.size, 4, none⟩ = some (.slice (some ⟨gp, 0, none⟩) 2 cp1) ∧ w'.cell? ⟨gp, 0, none⟩ = some (.int .i64 a.kind) ∧ w'.cell? ⟨gp, 1, none⟩ = some (.int .i64 (c.pl a.pl)) ∧ w'.cell? ⟨gp, 2, none⟩ = some (.int .i64 a.N) ∧ w'.cell? ⟨gp, 3, none⟩ = some (.string ⟨a.S.toArray⟩) ∧ w'.cell? ⟨gp, 4, none⟩ = some (.slice ao_a a.L.length cp_a) ∧ w'.cell? ⟨gp, 5, none⟩ = some (.int .i64 b.kind) ∧ w'.cell? ⟨gp, 6, none⟩ = some (.int .i64 (c.pl b.pl)) ∧ w'.cell? ⟨gp, 7, none⟩ = some (.int .i64 b.N) ∧ w'.cell? ⟨gp, 8, none⟩ = some (.string ⟨b.S.toArray⟩) ∧ w'.cell? ⟨gp, 9, none⟩ = some (.slice ao_b b.L.length cp_b))) (kz := 15) (by kernel_rfl) ⟨n0, n1, n2, n3, n4, a0, a1, a2, a3, a4, b0, b1, b2, b3, b4⟩ (fun hHeld => ?_)
      refine AnyTill.tk (i := 0) (v := ?_) hHeld ?_ ?_
      rotate_left
      ·(intro w hSw; (try dsimp only at hSw); go_simp; (try with_reducible rfl))
      (try simp only [Act.put, q4, q5, q6, q1, q2, q3])
      refine AnyTill.tk (i := 3) (v := ?_) hHeld ?_ ?_
      rotate_left
      ·(intro w hSw; (try dsimp only at hSw); go_simp; (try with_reducible rfl))
      (try simp only [Act.put, q4, q5, q6, q1, q2, q3])
      refine AnyTill.tk (i := 4) (v := ?_) hHeld ?_ ?_
      rotate_left
      ·(intro w hSw; (try dsimp only at hSw); go_simp; (try with_reducible rfl))
      (try simp only [Act.put, q4, q5, q6, q1, q2, q3])
      refine AnyTill.tk (i := 5) (v := ?_) hHeld ?_ ?_
      rotate_left
      ·(intro w hSw; (try dsimp only at hSw); go_simp; (try with_reducible rfl))
      (try simp only [Act.put, q4, q5, q6, q1, q2, q3])
      refine AnyTill.tk (i := 6) (v := ?_) hHeld ?_ ?_
      rotate_left
      ·(intro w hSw; (try dsimp only at hSw); go_simp; (try with_reducible rfl))
      (try simp only [Act.put, q4, q5, q6, q1, q2, q3])
      refine AnyTill.tk (i := 7) (v := ?_) hHeld ?_ ?_
      rotate_left
      ·(intro w hSw; (try dsimp only at hSw); go_simp; (try with_reducible rfl))
      (try simp only [Act.put, q4, q5, q6, q1, q2, q3])
      refine AnyTill.tk (i := 8) (v := ?_) hHeld ?_ ?_
      rotate_left
      ·(intro w hSw; (try dsimp only at hSw); go_simp; (try with_reducible rfl))
      (try simp only [Act.put, q4, q5, q6, q1, q2, q3])
      refine AnyTill.tk (i := 9) (v := ?_) hHeld ?_ ?_
      rotate_left
      ·(intro w hSw; (try dsimp only at hSw); go_simp; (try with_reducible rfl))
      (try simp only [Act.put, q4, q5, q6, q1, q2, q3])
      refine AnyTill.tk (i := 10) (v := ?_) hHeld ?_ ?_
      rotate_left
      ·(intro w hSw; (try dsimp only at hSw); go_simp; (try with_reducible rfl))
      (try simp only [Act.put, q4, q5, q6, q1, q2, q3])
      refine AnyTill.tk (i := 11) (v := ?_) hHeld ?_ ?_
      rotate_left
      ·(intro w hSw; (try dsimp only at hSw); go_simp; (try with_reducible rfl))
      (try simp only [Act.put, q4, q5, q6, q1, q2, q3])
      refine AnyTill.one (i := 1) (by kernel_rfl) rfl (fun K hK => ?_)
      (try simp only [q1, q2, q3])
      go_simp
      refine (take8 (S2.out.drew).ps (by omega)).mono ?_
      rintro e w8 ⟨rfl, hp, ho⟩
      have X1_8 := hidden ((X1_2.out.drw).only (S2.out.drew) ho)
      have V1_8 := hidden ((V1_2.out.drw).only (S2.out.drew) ho)
      have Pa_8 := hidden ((Pa.out.drw).only (S2.out.drew) ho)
      have Qa_8 := hidden ((Qa.out.drw).only (S2.out.drew) ho)
      have Pb_8 := hidden ((Pb.out.drw).only (S2.out.drew) ho)
      have Qb_8 := hidden ((Qb.out.drw).only (S2.out.drew) ho)
      have S8 := hidden ((S2.out.drew).only ho hp)
      clear hp ho
      obtain ⟨n0, n1, n2, n3, n4, nf⟩ := V1_8.out.n.cells
      rw [hlen, hao] at n4
      clear nf
      obtain ⟨a0, a1, a2, a3, a4⟩ := Pa_8.out.cells
      obtain ⟨b0, b1, b2, b3, b4⟩ := Pb_8.out.cells
      refine hK.out _ _ (fun _ => ⟨n0, n1, n2, n3, n4, a0, a1, a2, a3, a4, b0, b1, b2, b3, b4⟩) ?_
      clear hK K
      (try simp only [Act.put, q4, q5, q6, q1, q2, q3])
      refine AnyTill.take (i := 2) (v := ?_) rfl (by kernel_rfl) (by kernel_rfl) (by kernel_rfl) (by kernel_rfl) (fun _ _ _ h => h) (Or.inl ⟨by rfl, ?_⟩) ⟨n0, n1, n2, n3, n4, a0, a1, a2, a3, a4, b0, b1, b2, b3, b4⟩ ?_
      rotate_left
      ·(intro w hSw; (try dsimp only at hSw); go_simp; (try with_reducible rfl))
      (try simp only [Act.put, q4, q5, q6, q1, q2, q3])
      clear hHeld
      refine AnyTill.one (i := 12) (by kernel_rfl) rfl (fun K hK => ?_)
      (try simp only [q1, q2, q3])
      go_simp
      refine ((ih .expr (j1 + 1) (by omega) (by omega) : Rule c 125 .expr (j1 + 1)) _ S8.out.ps).mono ?_
      intro e w9 hg
      cases hx : reads c.ts .expr (j1 + 1) with
      | error m =>
       rw [hx] at hg
       obtain ⟨rfl, ho⟩ := hg
       exact ⟨rfl, S8.out.stop ho (ex_err E8.out hx)⟩
      | ok xj =>
       obtain ⟨x9, j9⟩ := xj
       have f9 := reads_fine (ts := c.ts) .expr (i := j1 + 1) (by omega)
       rw [hx] at hg f9
       obtain ⟨ao9, cp9, rfl, hl, hp, ho⟩ := hg
       have E9 := hidden (ex_ok E8.out hx)
       have b9 : j9 ≤ c.ts.length := f9.2.1
       have a9 : j1 + 1 < j9 := f9.2.2 _ _ rfl rfl
       have X9 := hidden (Has.of hl S8.out)
       have X1_9 := hidden (X1_8.out.only S8.out ho)
       have V1_9 := hidden (V1_8.out.only S8.out ho)
       have Pa_9 := hidden (Pa_8.out.only S8.out ho)
       have Qa_9 := hidden (Qa_8.out.only S8.out ho)
       have Pb_9 := hidden (Pb_8.out.only S8.out ho)
       have Qb_9 := hidden (Qb_8.out.only S8.out ho)
       have S9 := hidden (S8.out.only ho hp)
       clear hl hp ho hx f9
       obtain ⟨n0, n1, n2, n3, n4, nf⟩ := V1_9.out.n.cells
       rw [hlen, hao] at n4
       clear nf
       obtain ⟨a0, a1, a2, a3, a4⟩ := Pa_9.out.cells
       obtain ⟨b0, b1, b2, b3, b4⟩ := Pb_9.out.cells
       refine hK.out _ _ (fun _ => ⟨n0, n1, n2, n3, n4, a0, a1, a2, a3, a4, b0, b1, b2, b3, b4⟩) ?_
       clear hK K
       (try simp only [Act.put, q4, q5, q6, q1, q2, q3])
       refine AnyTill.one (i := 13) (by kernel_rfl) rfl (fun K hK => ?_)
       (try simp only [q1, q2, q3])
       go_simp
       obtain ⟨n0, n1, n2, n3, n4, nf⟩ := (V1_9.out.alloc (.cells #[.int .i64 a.kind, .int .i64 (c.pl a.pl), .int .i64 a.N, .string ⟨a.S.toArray⟩, .slice ao_a a.L.length cp_a, .int .i64 b.kind, .int .i64 (c.pl b.pl), .int .i64 b.N, .string ⟨b.S.toArray⟩, .slice ao_b b.L.length cp_b, .int .i64 x9.kind, .int .i64 (c.pl x9.pl), .int .i64 x9.N, .string ⟨x9.S.toArray⟩, .slice ao9 x9.L.length cp9] 25)).n.cells
       rw [hlen, hao] at n4
       obtain ⟨a0, a1, a2, a3, a4⟩ := (Pa_9.out.alloc (.cells #[.int .i64 a.kind, .int .i64 (c.pl a.pl), .int .i64 a.N, .string ⟨a.S.toArray⟩, .slice ao_a a.L.length cp_a, .int .i64 b.kind, .int .i64 (c.pl b.pl), .int .i64 b.N, .string ⟨b.S.toArray⟩, .slice ao_b b.L.length cp_b, .int .i64 x9.kind, .int .i64 (c.pl x9.pl), .int .i64 x9.N, .string ⟨x9.S.toArray⟩, .slice ao9 x9.L.length cp9] 25)).cells
       obtain ⟨b0, b1, b2, b3, b4⟩ := (Pb_9.out.alloc (.cells #[.int .i64 a.kind, .int .i64 (c.pl a.pl), .int .i64 a.N, .string ⟨a.S.toArray⟩, .slice ao_a a.L.length cp_a, .int .i64 b.kind, .int .i64 (c.pl b.pl), .int .i64 b.N, .string ⟨b.S.toArray⟩, .slice ao_b b.L.length cp_b, .int .i64 x9.kind, .int .i64 (c.pl x9.pl), .int .i64 x9.N, .string ⟨x9.S.toArray⟩, .slice ao9 x9.L.length cp9] 25)).cells
       refine hK.out _ _ (fun _ => ⟨n0, n1, n2, n3, n4, a0, a1, a2, a3, a4, b0, b1, b2, b3, b4⟩) ?_
       clear hK K
       (try simp only [Act.put, q4, q5, q6, q1, q2, q3])
       refine AnyTill.take (i := 14) (v := ?_) rfl (by kernel_rfl) (by kernel_rfl) (by kernel_rfl) (by kernel_rfl) (fun _ _ _ h => h) (Or.inl ⟨by rfl, ?_⟩) ⟨n0, n1, n2, n3, n4, a0, a1, a2, a3, a4, b0, b1, b2, b3, b4⟩ ?_
       rotate_left
       ·(intro w hSw; (try dsimp only at hSw); go_simp; (try with_reducible rfl))
       (try simp only [Act.put, q4, q5, q6, q1, q2, q3])
       obtain ⟨z0, z1, z2, z3, z4, zf⟩ := S9.out.zc
       have zl := S9.out.size
       have zn := Nat.ne_of_lt zl
       refine AnyTill.one (i := 15) (by kernel_rfl) rfl (fun K hK => ?_)
       (try simp only [q1, q2, q3])
       go_simp
       refine hK.out _ _ (fun h => absurd rfl h) ?_
       clear hK K
       (try simp only [Act.put, q4, q5, q6, q1, q2, q3])
       refine AnyTill.done (by kernel_rfl) ?_ _
       (try simp only [Act.put, q4, q5, q6, q1, q2, q3])
       clear n0 n1 n2 n3 n4 nf a0 a1 a2 a3 a4 b0 b1 b2 b3 b4
       go_wp2_with fail
       refine bodyPost_ret (results_cell_row rfl _ _ w.heap.size 25 #[.int .i64 15, .int .i64 (c.pl (j1)), .int .i64 0, .string ⟨[].toArray⟩, .slice (some ⟨w9.heap.size, 0, none⟩) 3 3] (0, 0) _ rfl (S9.out.rowB _ _ _ _ _ _) Tryz.underlying25 rfl (by kernel_rfl)) rfl ?_
       exact S9.out.ret3 Qa_9.out Qb_9.out X9.out (k := 15) (pl := j1) (N := 0) (s := []) E9.out rfl
     ·have z12 : (x1.kind == 12) = false := by simpa using h12
      have z14 : (x1.kind == 14) = false := by simpa using h14
      have EB : Hid (R = .error (j1)) := by show _ = _; have h9 := EA.out; rw [if_neg h12, if_neg h14] at h9; exact ex_bad h9
      obtain ⟨n0, n1, n2, n3, n4, nf⟩ := V1_2.out.n.cells
      go_wp2_with fail
      refine (giveUp8 S2.out.ps (by omega)).mono ?_
      rintro e w' ⟨rfl, ho⟩
      exact ⟨rfl, S2.out.stop ho (EB.out)⟩
   | false =>
    have HF0 := hidden hs1
    have z2_1 := signT_no hs1 (by decide)
    clear hs1
    refine (sign8 (S1.out.alloc _).ps (by omega)).mono ?_
    rintro e w2 ⟨rfl, hb⟩
    have X1_2 := hidden ((X1.out.alloc _).below hb)
    have V1_2 := hidden (V1.out.below hb)
    have S2 := hidden ((S1.out.alloc _).below hb)
    clear hb
    generalize (⟨(signT (tk c.ts (j1))).toArray⟩ : ByteArray) = sv2 at *
    skip
    obtain ⟨y0, y1, y2, y3, y4, yf⟩ := V1_2.out.n.cells
    obtain ⟨z0, z1, z2, z3, z4, zf⟩ := S2.out.zc
    clear yf
    go_wp2_with fail
    refine bodyPost_ret (results_cell_row rfl _ _ w.heap.size 25 #[.int .i64 x1.kind, .int .i64 (c.pl x1.pl), .int .i64 x1.N, .string ⟨x1.S.toArray⟩, .slice ao1 x1.L.length cp1] (0, 0) _ rfl (S2.out.row _ _ _ _ _) Tryz.underlying25 rfl (by kernel_rfl)) rfl ?_
    exact S2.out.ret X1_2.out (ex_ret (ex_no E2_0.out HF0.out)) rfl
end
end Go.Proofs.YthjmakjhidjbaaaGreat
