/-
  Several small texts in one; each tells at its head what it proves, and on what condition.
-/
import Derived.Test.YthjmakjhidjbaaaGreatLibAG
import Derived.Test.YthjmakjhidjbaaaGreatP8H
import Derived.Test.YthjmakjhidjbaaaGreatLibAF

/-
 Layer 8, the program's parser: rules' methods. Condition: the rules that they are made of do as the grammar says.
-/
namespace Go.Proofs.YthjmakjhidjbaaaGreat
open Go.ChangeShapes Go.WideShapes Go.ChangeAt Go.RowKit Go.Deep
set_option linter.unusedVariables false
set_option linter.unusedSimpArgs false
set_option maxHeartbeats 2000000
set_option maxRecDepth 20000
attribute [local go_sem ↓] Go.wp_at_zero Go.wp_at_succ

section
variable {c : PC} {w : World} {i : Nat}
theorem m_bindsN {R : Res} (h : PS c w i) {kd : Int} (hi : i < c.ts.length) (ih : Beh c i) (hE : R = exec c.ts (reads c.ts) (body (.letN kd i)) (i + 1)) : Calls Tryz.prog 70 #[.pointer (some ⟨c.b, 0, none⟩), .int .i64 kd] w fun e w' => GotN c R w e w' := by
 have E0 := hidden hE
 have S0 := hidden (St.new h)
 have fl0 := fld1
 clear h hE
 go_enter Tryz.func70, Tryz.ntmps70
 go_wp2_with fail
 refine (take8 S0.out.ps (by omega)).mono ?_
 rintro e w1 ⟨rfl, hp, ho⟩
 have S1 := hidden (S0.out.only ho hp)
 clear hp ho
 have M2 := hidden (Mk.zero S1.out kd (c.pl i) 0 ⟨#[]⟩)
 go_wp2_with fail
 cases hs : isS [114, 101, 99] (tk c.ts (i + 1)) with
 | true =>
  have t3 := isS_in hs
  have E3 := hidden (ex_skip E0.out hs)
  refine (has_yes M2.out.st.ps [114, 101, 99] (by decide) hs).mono ?_
  rintro e w3 ⟨rfl, hp, ho⟩
  have M3 := hidden (M2.out.only ho hp)
  clear hp ho hs
  obtain ⟨y0, y1, y2, y3, y4, yf⟩ := M3.out.n.cells
  have yl := M3.out.n.lt
  have yn := Nat.ne_of_lt yl
  go_wp2_with fail
  clear y0 y1 y2 y3 y4 yf yl yn
  refine ((ih .bind (i + 1 + 1) (by omega) (by omega) : Rule c 93 .bind (i + 1 + 1)) _ (M3.out.setN 1).st.ps).mono ?_
  intro e w4 hg
  cases hx : reads c.ts .bind (i + 1 + 1) with
  | error m =>
   rw [hx] at hg
   obtain ⟨rfl, ho⟩ := hg
   exact ⟨rfl, (M3.out.setN 1).st.stopN ho (ex_err E3.out hx)⟩
  | ok xj =>
   obtain ⟨x4, j4⟩ := xj
   have f4 := reads_fine (ts := c.ts) .bind (i := i + 1 + 1) (by omega)
   rw [hx] at hg f4
   obtain ⟨ao4, cp4, rfl, hl, hp, ho⟩ := hg
   have E4 := hidden (ex_ok E3.out hx)
   have b4 : j4 ≤ c.ts.length := f4.2.1
   have a4 : i + 1 + 1 < j4 := f4.2.2 _ _ rfl rfl
   have X4 := hidden ((M3.out.setN 1).fresh hl)
   have M4 := hidden ((M3.out.setN 1).only ho hp)
   clear hl hp ho hx f4
   obtain ⟨y0, y1, y2, y3, y4, yf⟩ := M4.out.n.cells
   have yl := M4.out.n.lt
   have yn := Nat.ne_of_lt yl
   go_wp2_with fail
   clear y0 y1 y2 y3 y4 yf yl yn
   go_loopg [] (c.ts.length + 1 - (j4)) (fun gk wr => InM c w (i + 1) R .ands (fun l => .ret (.mk kd i 1 [] l)) w1.heap.size kd (c.pl i) 1 ⟨#[]⟩ gk wr)
   case atStart => exact ⟨_, _, _, _, _, by omega, by omega, (by simp; omega), rfl, (M4.out.setL cp4 X4.out), E4.out⟩
   case round =>
    obtain ⟨k5, ao5, n5, cp5, L5, kb5, ka5, kl5, kg5, hm, hE⟩ := hrel
    have M5 := hidden hm
    have E5 := hidden hE
    clear hm hE
    go_wp2_with fail
    cases hs : isS [97, 110, 100] (tk c.ts (k5)) with
    | true =>
     have t6 := isS_in hs
     have E6 := hidden (tail_skip (T := .ands) (C := fun l => .ret (.mk kd i 1 [] l)) (acc := L5.map ND.t) rfl kb5 E5.out hs)
     refine (has_yes M5.out.st.ps [97, 110, 100] (by decide) hs).mono ?_
     rintro e w6 ⟨rfl, hp, ho⟩
     have M6 := hidden (M5.out.only ho hp)
     clear hp ho hs
     go_wp2_with fail
     refine region_till (S := (fun w' => w'.cell? ⟨w1.heap.size, 4, none⟩ = some (.slice ao5 n5 cp5))) (kz := 7) (by kernel_rfl) M6.out.cell (fun hHeld => ?_)
     refine AnyTill.tk (i := 0) (v := ?_) hHeld ?_ ?_
     rotate_left
     ·(intro w hSw; (try dsimp only at hSw); go_simp; (try with_reducible rfl))
     (try simp only [Act.put, q4, q5, q6, q1, q2, q3])
     refine AnyTill.tk (i := 1) (v := ?_) hHeld ?_ ?_
     rotate_left
     ·(intro w hSw; (try dsimp only at hSw); go_simp; (try with_reducible rfl))
     (try simp only [Act.put, q4, q5, q6, q1, q2, q3])
     refine AnyTill.tk (i := 2) (v := ?_) hHeld ?_ ?_
     rotate_left
     ·(intro w hSw; (try dsimp only at hSw); go_simp; (try with_reducible rfl))
     (try simp only [Act.put, q4, q5, q6, q1, q2, q3])
     refine AnyTill.one (i := 3) (by kernel_rfl) rfl (fun K hK => ?_)
     (try simp only [q1, q2, q3])
     go_simp
     refine ((ih .bind (k5 + 1) (by omega) (by omega) : Rule c 93 .bind (k5 + 1)) _ (M6.out.drew).st.ps).mono ?_
     intro e w7 hg
     cases hx : reads c.ts .bind (k5 + 1) with
     | error m =>
      rw [hx] at hg
      obtain ⟨rfl, ho⟩ := hg
      exact ⟨rfl, (M6.out.drew).st.stopN ho (ex_err E6.out hx)⟩
     | ok xj =>
      obtain ⟨x7, j7⟩ := xj
      have f7 := reads_fine (ts := c.ts) .bind (i := k5 + 1) (by omega)
      rw [hx] at hg f7
      obtain ⟨ao7, cp7, rfl, hl, hp, ho⟩ := hg
      have E7 := hidden (ex_ok E6.out hx)
      have b7 : j7 ≤ c.ts.length := f7.2.1
      have a7 : k5 + 1 < j7 := f7.2.2 _ _ rfl rfl
      have X7 := hidden ((M6.out.drew).fresh hl)
      have M7 := hidden ((M6.out.drew).only ho hp)
      clear hl hp ho hx f7
      refine hK.out _ _ (fun _ => M7.out.cell) ?_
      clear hHeld
      clear hK K
      (try simp only [Act.put, q4, q5, q6, q1, q2, q3])
      refine AnyTill.one (i := 4) (by kernel_rfl) rfl (fun K hK => ?_)
      (try simp only [q1, q2, q3])
      go_simp
      refine hK.out _ _ (fun _ => (M7.out.alloc _).cell) ?_
      clear hK K
      (try simp only [Act.put, q4, q5, q6, q1, q2, q3])
      refine AnyTill.one (i := 5) (by kernel_rfl) rfl (fun K hK => ?_)
      refine step_nodes rfl (.tmp 21) (.tmp 24) rfl (.slice ao5 n5 cp5) L5 [⟨x7, ao7, cp7⟩] (by simp [Act.eval]) (M7.out.alloc _).v (by have := (M7.out.alloc (.cells #[.int .i64 x7.kind, .int .i64 (c.pl x7.pl), .int .i64 x7.N, .string ⟨x7.S.toArray⟩, .slice ao7 x7.L.length cp7] 25)).n.lt; omega) w7.heap.size 1 (by simp [Act.eval]) (news_one (blk_alloc_new _ _)) (fun d hd => by rw [List.mem_singleton.1 hd]; exact X7.out.alloc _) (by simp) (by have := c.small; have := c.tm.len; simp; omega) (by have := M7.out.st.size; rw [nblk_alloc]; omega) ?_
      intro va8 vn8 vc8 w8 hv hgr
      have N8 := hidden ((M7.out.alloc _).n.grown hgr M7.out.v.ne)
      have M8 := hidden ((M7.out.alloc _).grown hgr hv)
      obtain ⟨n0, n1, n2, n3, n4, nf⟩ := N8.out.cells
      clear n0 n1 n2 n3
      have G8 := hidden ((M7.out.alloc _).gone hgr hv)
      clear hv hgr
      refine hK.out _ _ (fun _ => n4) ?_
      clear hK K
      (try simp only [Act.put, q4, q5, q6, q1, q2, q3])
      refine AnyTill.one (i := 6) (by kernel_rfl) rfl (fun K hK => ?_)
      (try simp only [q1, q2, q3])
      go_simp
      refine hK.out _ _ (fun _ => n4) ?_
      clear hK K
      (try simp only [Act.put, q4, q5, q6, q1, q2, q3])
      refine AnyTill.one (i := 7) (by kernel_rfl) rfl (fun K hK => ?_)
      (try simp only [q1, q2, q3])
      go_simp
      refine hK.out _ _ (fun h => absurd rfl h) ?_
      clear n4 nf
      clear hK K
      (try simp only [Act.put, q4, q5, q6, q1, q2, q3])
      refine AnyTill.done (by kernel_rfl) ?_ _
      (try simp only [Act.put, q4, q5, q6, q1, q2, q3])
      go_wp2_with fail
      go_roundg (c.ts.length + 1 - (j7))
      case rel => exact ⟨_, _, _, _, _, by omega, by omega, by simp; omega, rfl, M8.out, by rw [List.map_append]; exact E7.out⟩
      case measure => omega
    | false =>
     have E6 := hidden (tail_skipN (T := .ands) (C := fun l => .ret (.mk kd i 1 [] l)) (acc := L5.map ND.t) rfl kb5 E5.out hs)
     refine (has_no M5.out.st.ps (by omega) [97, 110, 100] (by decide) hs).mono ?_
     rintro e w6 ⟨rfl, hb⟩
     have M6 := hidden (M5.out.below hb)
     clear hb hs
     obtain ⟨y0, y1, y2, y3, y4, yf⟩ := M6.out.n.cells
     obtain ⟨z0, z1, z2, z3, z4, zf⟩ := M6.out.st.zc
     clear yf
     go_wp2_with fail
     refine bodyPost_ret (results_cell_row rfl _ _ w.heap.size 25 #[.int .i64 kd, .int .i64 (c.pl i), .int .i64 1, .string ⟨[].toArray⟩, (.slice ao5 n5 cp5)] (0, 0) _ rfl (M6.out.st.row _ _ _ _ _) Tryz.underlying25 rfl (by kernel_rfl)) rfl ?_
     exact M6.out.retN (s := []) (E6.out) rfl
 | false =>
  have E3 := hidden (ex_skipN E0.out hs)
  refine (has_no M2.out.st.ps (by omega) [114, 101, 99] (by decide) hs).mono ?_
  rintro e w3 ⟨rfl, hb⟩
  have M3 := hidden (M2.out.below hb)
  clear hb hs
  go_wp2_with fail
  refine ((ih .bind (i + 1) (by omega) (by omega) : Rule c 93 .bind (i + 1)) _ M3.out.st.ps).mono ?_
  intro e w10 hg
  cases hx : reads c.ts .bind (i + 1) with
  | error m =>
   rw [hx] at hg
   obtain ⟨rfl, ho⟩ := hg
   exact ⟨rfl, M3.out.st.stopN ho (ex_err E3.out hx)⟩
  | ok xj =>
   obtain ⟨x10, j10⟩ := xj
   have f10 := reads_fine (ts := c.ts) .bind (i := i + 1) (by omega)
   rw [hx] at hg f10
   obtain ⟨ao10, cp10, rfl, hl, hp, ho⟩ := hg
   have E10 := hidden (ex_ok E3.out hx)
   have b10 : j10 ≤ c.ts.length := f10.2.1
   have a10 : i + 1 < j10 := f10.2.2 _ _ rfl rfl
   have X10 := hidden (M3.out.fresh hl)
   have M10 := hidden (M3.out.only ho hp)
   clear hl hp ho hx f10
   obtain ⟨y0, y1, y2, y3, y4, yf⟩ := M10.out.n.cells
   have yl := M10.out.n.lt
   have yn := Nat.ne_of_lt yl
   go_wp2_with fail
   clear y0 y1 y2 y3 y4 yf yl yn
   go_loopg [] (c.ts.length + 1 - (j10)) (fun gk wr => InM c w (i + 1) R .ands (fun l => .ret (.mk kd i 0 [] l)) w1.heap.size kd (c.pl i) 0 ⟨#[]⟩ gk wr)
   case atStart => exact ⟨_, _, _, _, _, by omega, by omega, (by simp; omega), rfl, (M10.out.setL cp10 X10.out), E10.out⟩
   case round =>
    obtain ⟨k11, ao11, n11, cp11, L11, kb11, ka11, kl11, kg11, hm, hE⟩ := hrel
    have M11 := hidden hm
    have E11 := hidden hE
    clear hm hE
    go_wp2_with fail
    cases hs : isS [97, 110, 100] (tk c.ts (k11)) with
    | true =>
     have t12 := isS_in hs
     have E12 := hidden (tail_skip (T := .ands) (C := fun l => .ret (.mk kd i 0 [] l)) (acc := L11.map ND.t) rfl kb11 E11.out hs)
     refine (has_yes M11.out.st.ps [97, 110, 100] (by decide) hs).mono ?_
     rintro e w12 ⟨rfl, hp, ho⟩
     have M12 := hidden (M11.out.only ho hp)
     clear hp ho hs
     go_wp2_with fail
     refine region_till (S := (fun w' => w'.cell? ⟨w1.heap.size, 4, none⟩ = some (.slice ao11 n11 cp11))) (kz := 7) (by kernel_rfl) M12.out.cell (fun hHeld => ?_)
     refine AnyTill.tk (i := 0) (v := ?_) hHeld ?_ ?_
     rotate_left
     ·(intro w hSw; (try dsimp only at hSw); go_simp; (try with_reducible rfl))
     (try simp only [Act.put, q4, q5, q6, q1, q2, q3])
     refine AnyTill.tk (i := 1) (v := ?_) hHeld ?_ ?_
     rotate_left
     ·(intro w hSw; (try dsimp only at hSw); go_simp; (try with_reducible rfl))
     (try simp only [Act.put, q4, q5, q6, q1, q2, q3])
     refine AnyTill.tk (i := 2) (v := ?_) hHeld ?_ ?_
     rotate_left
     ·(intro w hSw; (try dsimp only at hSw); go_simp; (try with_reducible rfl))
     (try simp only [Act.put, q4, q5, q6, q1, q2, q3])
     refine AnyTill.one (i := 3) (by kernel_rfl) rfl (fun K hK => ?_)
     (try simp only [q1, q2, q3])
     go_simp
     refine ((ih .bind (k11 + 1) (by omega) (by omega) : Rule c 93 .bind (k11 + 1)) _ (M12.out.drew).st.ps).mono ?_
     intro e w13 hg
     cases hx : reads c.ts .bind (k11 + 1) with
     | error m =>
      rw [hx] at hg
      obtain ⟨rfl, ho⟩ := hg
      exact ⟨rfl, (M12.out.drew).st.stopN ho (ex_err E12.out hx)⟩
     | ok xj =>
      obtain ⟨x13, j13⟩ := xj
      have f13 := reads_fine (ts := c.ts) .bind (i := k11 + 1) (by omega)
      rw [hx] at hg f13
      obtain ⟨ao13, cp13, rfl, hl, hp, ho⟩ := hg
      have E13 := hidden (ex_ok E12.out hx)
      have b13 : j13 ≤ c.ts.length := f13.2.1
      have a13 : k11 + 1 < j13 := f13.2.2 _ _ rfl rfl
      have X13 := hidden ((M12.out.drew).fresh hl)
      have M13 := hidden ((M12.out.drew).only ho hp)
      clear hl hp ho hx f13
      refine hK.out _ _ (fun _ => M13.out.cell) ?_
      clear hHeld
      clear hK K
      (try simp only [Act.put, q4, q5, q6, q1, q2, q3])
      refine AnyTill.one (i := 4) (by kernel_rfl) rfl (fun K hK => ?_)
      (try simp only [q1, q2, q3])
      go_simp
      refine hK.out _ _ (fun _ => (M13.out.alloc _).cell) ?_
      clear hK K
      (try simp only [Act.put, q4, q5, q6, q1, q2, q3])
      refine AnyTill.one (i := 5) (by kernel_rfl) rfl (fun K hK => ?_)
      refine step_nodes rfl (.tmp 21) (.tmp 24) rfl (.slice ao11 n11 cp11) L11 [⟨x13, ao13, cp13⟩] (by simp [Act.eval]) (M13.out.alloc _).v (by have := (M13.out.alloc (.cells #[.int .i64 x13.kind, .int .i64 (c.pl x13.pl), .int .i64 x13.N, .string ⟨x13.S.toArray⟩, .slice ao13 x13.L.length cp13] 25)).n.lt; omega) w13.heap.size 1 (by simp [Act.eval]) (news_one (blk_alloc_new _ _)) (fun d hd => by rw [List.mem_singleton.1 hd]; exact X13.out.alloc _) (by simp) (by have := c.small; have := c.tm.len; simp; omega) (by have := M13.out.st.size; rw [nblk_alloc]; omega) ?_
      intro va14 vn14 vc14 w14 hv hgr
      have N14 := hidden ((M13.out.alloc _).n.grown hgr M13.out.v.ne)
      have M14 := hidden ((M13.out.alloc _).grown hgr hv)
      obtain ⟨n0, n1, n2, n3, n4, nf⟩ := N14.out.cells
      clear n0 n1 n2 n3
      have G14 := hidden ((M13.out.alloc _).gone hgr hv)
      clear hv hgr
      refine hK.out _ _ (fun _ => n4) ?_
      clear hK K
      (try simp only [Act.put, q4, q5, q6, q1, q2, q3])
      refine AnyTill.one (i := 6) (by kernel_rfl) rfl (fun K hK => ?_)
      (try simp only [q1, q2, q3])
      go_simp
      refine hK.out _ _ (fun _ => n4) ?_
      clear hK K
      (try simp only [Act.put, q4, q5, q6, q1, q2, q3])
      refine AnyTill.one (i := 7) (by kernel_rfl) rfl (fun K hK => ?_)
      (try simp only [q1, q2, q3])
      go_simp
      refine hK.out _ _ (fun h => absurd rfl h) ?_
      clear n4 nf
      clear hK K
      (try simp only [Act.put, q4, q5, q6, q1, q2, q3])
      refine AnyTill.done (by kernel_rfl) ?_ _
      (try simp only [Act.put, q4, q5, q6, q1, q2, q3])
      go_wp2_with fail
      go_roundg (c.ts.length + 1 - (j13))
      case rel => exact ⟨_, _, _, _, _, by omega, by omega, by simp; omega, rfl, M14.out, by rw [List.map_append]; exact E13.out⟩
      case measure => omega
    | false =>
     have E12 := hidden (tail_skipN (T := .ands) (C := fun l => .ret (.mk kd i 0 [] l)) (acc := L11.map ND.t) rfl kb11 E11.out hs)
     refine (has_no M11.out.st.ps (by omega) [97, 110, 100] (by decide) hs).mono ?_
     rintro e w12 ⟨rfl, hb⟩
     have M12 := hidden (M11.out.below hb)
     clear hb hs
     obtain ⟨y0, y1, y2, y3, y4, yf⟩ := M12.out.n.cells
     obtain ⟨z0, z1, z2, z3, z4, zf⟩ := M12.out.st.zc
     clear yf
     go_wp2_with fail
     refine bodyPost_ret (results_cell_row rfl _ _ w.heap.size 25 #[.int .i64 kd, .int .i64 (c.pl i), .int .i64 0, .string ⟨[].toArray⟩, (.slice ao11 n11 cp11)] (0, 0) _ rfl (M12.out.st.row _ _ _ _ _) Tryz.underlying25 rfl (by kernel_rfl)) rfl ?_
     exact M12.out.retN (s := []) (E12.out) rfl
end
end Go.Proofs.YthjmakjhidjbaaaGreat

/-
 Layer 8, the program's parser: rules' methods. Condition: the rules that they are made of do as the grammar says.
-/
namespace Go.Proofs.YthjmakjhidjbaaaGreat
open Go.ChangeShapes Go.WideShapes Go.ChangeAt Go.RowKit Go.Deep
set_option linter.unusedVariables false
set_option linter.unusedSimpArgs false
set_option maxHeartbeats 2000000
set_option maxRecDepth 20000
attribute [local go_sem ↓] Go.wp_at_zero Go.wp_at_succ

section
variable {c : PC} {w : World} {i : Nat}
theorem m_arms {R : Res} (h : PS c w i) (hi : i ≤ c.ts.length) (hA : Rule c 156 .arm i) (ih : Beh c i) (hE : R = exec c.ts (reads c.ts) (.opt [124] (.call .arm fun x => .call .armsR fun r => .ret (lst (x :: r.L)))) (i)) : Calls Tryz.prog 144 #[.pointer (some ⟨c.b, 0, none⟩)] w fun e w' => GotL c R w e w' := by
 have E0 := hidden hE
 have A0 := hidden (Ro.nil h)
 clear h hE
 go_enter Tryz.func144, Tryz.ntmps144
 go_wp2_with fail
 cases hs : isS [124] (tk c.ts (i)) with
 | true =>
  have t1 := isS_in hs
  have E1 := hidden (ex_opt E0.out hs)
  refine (has_yes A0.out.ps [124] (by decide) hs).mono ?_
  rintro e w1 ⟨rfl, hp, ho⟩
  have A1 := hidden (A0.out.only ho hp)
  clear hp ho hs
  go_wp2_with fail
  refine ((ih .arm (i + 1) (by omega) (by omega) : Rule c 156 .arm (i + 1)) _ A1.out.ps).mono ?_
  intro e w2 hg
  cases hx : reads c.ts .arm (i + 1) with
  | error m =>
   rw [hx] at hg
   obtain ⟨rfl, ho⟩ := hg
   exact ⟨rfl, A1.out.stop ho (ex_err E1.out hx)⟩
  | ok xj =>
   obtain ⟨x2, j2⟩ := xj
   have f2 := reads_fine (ts := c.ts) .arm (i := i + 1) (by omega)
   rw [hx] at hg f2
   obtain ⟨ao2, cp2, rfl, hl, hp, ho⟩ := hg
   have E2 := hidden (ex_ok E1.out hx)
   have b2 : j2 ≤ c.ts.length := f2.2.1
   have a2 : i + 1 < j2 := f2.2.2 _ _ rfl rfl
   have X2 := hidden (A1.out.fresh hl)
   have A2 := hidden (A1.out.only ho hp)
   clear hl hp ho hx f2
   go_wp2_with fail
   go_loopg [3] (c.ts.length + 1 - (j2)) (fun gk v wr => InL c w (i + 1) (fun l k => R = exec c.ts (reads c.ts) (.call .armsR fun r => (fun l => .ret (lst l)) (l ++ r.L)) k) gk v wr)
   case atStart => exact ⟨_, _, _, _, _, by omega, by omega, (by simp; omega), rfl, rfl, (A2.out.one cp2 X2.out), E2.out⟩
   case round =>
    obtain ⟨k3, ao3, n3, cp3, L3, kb3, ka3, kl3, kg3, rfl, hm, hE⟩ := hrel
    have A3 := hidden hm
    have E3 := hidden hE
    clear hm hE
    go_wp2_with fail
    cases hs : isS [124] (tk c.ts (k3)) with
    | true =>
     have t4 := isS_in hs
     have E4 := hidden (tail_skip (T := .armsR) (C := fun l => .ret (lst l)) (acc := L3.map ND.t) rfl kb3 E3.out hs)
     refine (has_yes A3.out.ps [124] (by decide) hs).mono ?_
     rintro e w4 ⟨rfl, hp, ho⟩
     have A4 := hidden (A3.out.only ho hp)
     clear hp ho hs
     go_wp2_with fail
     refine ((ih .arm (k3 + 1) (by omega) (by omega) : Rule c 156 .arm (k3 + 1)) _ A4.out.ps).mono ?_
     intro e w5 hg
     cases hx : reads c.ts .arm (k3 + 1) with
     | error m =>
      rw [hx] at hg
      obtain ⟨rfl, ho⟩ := hg
      exact ⟨rfl, A4.out.stop ho (ex_err E4.out hx)⟩
     | ok xj =>
      obtain ⟨x5, j5⟩ := xj
      have f5 := reads_fine (ts := c.ts) .arm (i := k3 + 1) (by omega)
      rw [hx] at hg f5
      obtain ⟨ao5, cp5, rfl, hl, hp, ho⟩ := hg
      have E5 := hidden (ex_ok E4.out hx)
      have b5 : j5 ≤ c.ts.length := f5.2.1
      have a5 : k3 + 1 < j5 := f5.2.2 _ _ rfl rfl
      have X5 := hidden (A4.out.fresh hl)
      have A5 := hidden (A4.out.only ho hp)
      clear hl hp ho hx f5
      go_wp2_with (at_builtin; refine app_nodes rfl (.tmp 11) (.tmp 14) rfl (.slice ao3 n3 cp3) L3 [⟨x5, ao5, cp5⟩] rfl (A5.out.alloc _).v (by have := A5.out.ps.lt; rw [nblk_alloc]; omega) w5.heap.size 1 rfl (news_one (blk_alloc_new _ _)) (fun d hd => (by rw [List.mem_singleton.1 hd]; exact X5.out.alloc _)) (by simp) (by have := c.small; have := c.tm.len; simp; omega) (by have := A5.out.on.size; rw [nblk_alloc]; omega) ?_; intro va vn vc w9 hv hgr; have A9 := hidden ((A5.out.alloc _).grown hgr hv); clear hv hgr)
      go_roundg (c.ts.length + 1 - (j5))
      case rel => exact ⟨_, _, _, _, _, by omega, by omega, by simp; omega, rfl, rfl, A9.out, by rw [List.map_append]; exact E5.out⟩
      case measure => omega
    | false =>
     have E4 := hidden (tail_skipN (T := .armsR) (C := fun l => .ret (lst l)) (acc := L3.map ND.t) rfl kb3 E3.out hs)
     refine (has_no A3.out.ps (by omega) [124] (by decide) hs).mono ?_
     rintro e w4 ⟨rfl, hb⟩
     have A4 := hidden (A3.out.below hb)
     clear hb hs
     go_wp2_with fail
     go_ret
     exact A4.out.ret (E4.out) rfl
 | false =>
  have E1 := hidden (ex_optN E0.out hs)
  refine (has_no A0.out.ps (by omega) [124] (by decide) hs).mono ?_
  rintro e w1 ⟨rfl, hb⟩
  have A1 := hidden (A0.out.below hb)
  clear hb hs
  go_wp2_with fail
  refine (hA _ A1.out.ps).mono ?_
  intro e w6 hg
  cases hx : reads c.ts .arm (i) with
  | error m =>
   rw [hx] at hg
   obtain ⟨rfl, ho⟩ := hg
   exact ⟨rfl, A1.out.stop ho (ex_err E1.out hx)⟩
  | ok xj =>
   obtain ⟨x6, j6⟩ := xj
   have f6 := reads_fine (ts := c.ts) .arm (i := i) (by omega)
   rw [hx] at hg f6
   obtain ⟨ao6, cp6, rfl, hl, hp, ho⟩ := hg
   have E6 := hidden (ex_ok E1.out hx)
   have b6 : j6 ≤ c.ts.length := f6.2.1
   have a6 : i < j6 := f6.2.2 _ _ rfl rfl
   have X6 := hidden (A1.out.fresh hl)
   have A6 := hidden (A1.out.only ho hp)
   clear hl hp ho hx f6
   go_wp2_with fail
   go_loopg [3] (c.ts.length + 1 - (j6)) (fun gk v wr => InL c w (i + 1) (fun l k => R = exec c.ts (reads c.ts) (.call .armsR fun r => (fun l => .ret (lst l)) (l ++ r.L)) k) gk v wr)
   case atStart => exact ⟨_, _, _, _, _, by omega, by omega, (by simp; omega), rfl, rfl, (A6.out.one cp6 X6.out), E6.out⟩
   case round =>
    obtain ⟨k7, ao7, n7, cp7, L7, kb7, ka7, kl7, kg7, rfl, hm, hE⟩ := hrel
    have A7 := hidden hm
    have E7 := hidden hE
    clear hm hE
    go_wp2_with fail
    cases hs : isS [124] (tk c.ts (k7)) with
    | true =>
     have t8 := isS_in hs
     have E8 := hidden (tail_skip (T := .armsR) (C := fun l => .ret (lst l)) (acc := L7.map ND.t) rfl kb7 E7.out hs)
     refine (has_yes A7.out.ps [124] (by decide) hs).mono ?_
     rintro e w8 ⟨rfl, hp, ho⟩
     have A8 := hidden (A7.out.only ho hp)
     clear hp ho hs
     go_wp2_with fail
     refine ((ih .arm (k7 + 1) (by omega) (by omega) : Rule c 156 .arm (k7 + 1)) _ A8.out.ps).mono ?_
     intro e w9 hg
     cases hx : reads c.ts .arm (k7 + 1) with
     | error m =>
      rw [hx] at hg
      obtain ⟨rfl, ho⟩ := hg
      exact ⟨rfl, A8.out.stop ho (ex_err E8.out hx)⟩
     | ok xj =>
      obtain ⟨x9, j9⟩ := xj
      have f9 := reads_fine (ts := c.ts) .arm (i := k7 + 1) (by omega)
      rw [hx] at hg f9
      obtain ⟨ao9, cp9, rfl, hl, hp, ho⟩ := hg
      have E9 := hidden (ex_ok E8.out hx)
      have b9 : j9 ≤ c.ts.length := f9.2.1
      have a9 : k7 + 1 < j9 := f9.2.2 _ _ rfl rfl
      have X9 := hidden (A8.out.fresh hl)
      have A9 := hidden (A8.out.only ho hp)
      clear hl hp ho hx f9
      go_wp2_with (at_builtin; refine app_nodes rfl (.tmp 11) (.tmp 14) rfl (.slice ao7 n7 cp7) L7 [⟨x9, ao9, cp9⟩] rfl (A9.out.alloc _).v (by have := A9.out.ps.lt; rw [nblk_alloc]; omega) w9.heap.size 1 rfl (news_one (blk_alloc_new _ _)) (fun d hd => (by rw [List.mem_singleton.1 hd]; exact X9.out.alloc _)) (by simp) (by have := c.small; have := c.tm.len; simp; omega) (by have := A9.out.on.size; rw [nblk_alloc]; omega) ?_; intro va vn vc w9 hv hgr; have A9 := hidden ((A9.out.alloc _).grown hgr hv); clear hv hgr)
      go_roundg (c.ts.length + 1 - (j9))
      case rel => exact ⟨_, _, _, _, _, by omega, by omega, by simp; omega, rfl, rfl, A9.out, by rw [List.map_append]; exact E9.out⟩
      case measure => omega
    | false =>
     have E8 := hidden (tail_skipN (T := .armsR) (C := fun l => .ret (lst l)) (acc := L7.map ND.t) rfl kb7 E7.out hs)
     refine (has_no A7.out.ps (by omega) [124] (by decide) hs).mono ?_
     rintro e w8 ⟨rfl, hb⟩
     have A8 := hidden (A7.out.below hb)
     clear hb hs
     go_wp2_with fail
     go_ret
     exact A8.out.ret (E8.out) rfl
end
end Go.Proofs.YthjmakjhidjbaaaGreat

/-
 Layer 8, the program's parser: rules' methods. Condition: the rules that they are made of do as the grammar says.
-/
namespace Go.Proofs.YthjmakjhidjbaaaGreat
open Go.ChangeShapes Go.WideShapes Go.ChangeAt Go.RowKit Go.Deep
set_option linter.unusedVariables false
set_option linter.unusedSimpArgs false
set_option maxHeartbeats 2000000
set_option maxRecDepth 20000
attribute [local go_sem ↓] Go.wp_at_zero Go.wp_at_succ

section
variable {c : PC} {w : World} {i : Nat}
theorem m_cases {R : Res} (h : PS c w i) {kd : Int} (hi : i < c.ts.length) (ih : Beh c i) (hE : R = exec c.ts (reads c.ts) (.call .seq fun x => .must [119, 105, 116, 104] (.call .arms fun l => .ret (.mk kd i 0 [] (x :: l.L)))) (i + 1)) : Calls Tryz.prog 145 #[.pointer (some ⟨c.b, 0, none⟩), .int .i64 kd] w fun e w' => Got8 c R w e w' := by
 have E0 := hidden hE
 have S0 := hidden (St.new h)
 have fl0 := fld1
 clear h hE
 go_enter Tryz.func145, Tryz.ntmps145
 go_wp2_with fail
 refine (take8 S0.out.ps (by omega)).mono ?_
 rintro e w1 ⟨rfl, hp, ho⟩
 have S1 := hidden (S0.out.only ho hp)
 clear hp ho
 go_wp2_with fail
 refine ((ih .seq (i + 1) (by omega) (by omega) : Rule c 111 .seq (i + 1)) _ S1.out.ps).mono ?_
 intro e w2 hg
 cases hx : reads c.ts .seq (i + 1) with
 | error m =>
  rw [hx] at hg
  obtain ⟨rfl, ho⟩ := hg
  exact ⟨rfl, S1.out.stop ho (ex_err E0.out hx)⟩
 | ok xj =>
  obtain ⟨x2, j2⟩ := xj
  have f2 := reads_fine (ts := c.ts) .seq (i := i + 1) (by omega)
  rw [hx] at hg f2
  obtain ⟨ao2, cp2, rfl, hl, hp, ho⟩ := hg
  have E2 := hidden (ex_ok E0.out hx)
  have b2 : j2 ≤ c.ts.length := f2.2.1
  have a2 : i + 1 < j2 := f2.2.2 _ _ rfl rfl
  have X2 := hidden (Has.of hl S1.out)
  have S2 := hidden (S1.out.only ho hp)
  clear hl hp ho hx f2
  have M3 := hidden (Mk.first S2.out cp2 X2.out kd (c.pl i) 0 ⟨#[]⟩)
  go_wp2_with fail
  cases hs : isS [119, 105, 116, 104] (tk c.ts (j2)) with
  | false =>
   refine (must_no M3.out.st.ps (by omega) [119, 105, 116, 104] (by decide) hs).mono ?_
   rintro e w' ⟨rfl, ho⟩
   exact ⟨rfl, M3.out.st.stop ho (ex_mustN E2.out hs)⟩
  | true =>
   have t4 := isS_in hs
   have E4 := hidden (ex_must E2.out hs)
   refine (must_yes M3.out.st.ps [119, 105, 116, 104] (by decide) hs).mono ?_
   rintro e w4 ⟨rfl, hp, ho⟩
   have M4 := hidden (M3.out.only ho hp)
   clear hp ho hs
   go_wp2_with fail
   obtain ⟨Rl, hRl⟩ : ∃ Rl, reads c.ts .arms (j2 + 1) = Rl := ⟨_, rfl⟩
   have HRl := hidden hRl
   have HRe : Hid (Rl = exec c.ts (reads c.ts) (body .arms) (j2 + 1)) := hRl.symm.trans (reads_eq _ (by omega))
   clear hRl
   refine region_till (S := (fun w' => w'.cell? ⟨(w2.heap.size + 1), 4, none⟩ = some (.slice (some ⟨w2.heap.size, 0, none⟩) 1 1))) (kz := 6) (by kernel_rfl) M4.out.cell (fun hHeld => ?_)
   refine AnyTill.tk (i := 0) (v := ?_) hHeld ?_ ?_
   rotate_left
   ·(intro w hSw; (try dsimp only at hSw); go_simp; (try with_reducible rfl))
   (try simp only [Act.put, q4, q5, q6, q1, q2, q3])
   refine AnyTill.tk (i := 1) (v := ?_) hHeld ?_ ?_
   rotate_left
   ·(intro w hSw; (try dsimp only at hSw); go_simp; (try with_reducible rfl))
   (try simp only [Act.put, q4, q5, q6, q1, q2, q3])
   refine AnyTill.tk (i := 2) (v := ?_) hHeld ?_ ?_
   rotate_left
   ·(intro w hSw; (try dsimp only at hSw); go_simp; (try with_reducible rfl))
   (try simp only [Act.put, q4, q5, q6, q1, q2, q3])
   refine AnyTill.one (i := 3) (by kernel_rfl) rfl (fun K hK => ?_)
   (try simp only [q1, q2, q3])
   go_simp
   refine (m_arms (R := Rl) (M4.out.drew).st.ps (by omega) (ih .arm _ (by omega) (by omega)) (fun n j h1 h2 => ih n j (by omega) h2) HRe.out).mono ?_
   intro e w5 hg
   cases hL : Rl with
   | error m =>
    rw [hL] at hg
    obtain ⟨rfl, ho⟩ := hg
    exact ⟨rfl, (M4.out.drew).st.stop ho (ex_err E4.out (HRl.out.trans hL))⟩
   | ok xj =>
    obtain ⟨x5, j5⟩ := xj
    rw [hL] at hg
    obtain ⟨ao5, cp5, rfl, hl, hp, ho⟩ := hg
    have E5 := hidden (ex_ok E4.out (HRl.out.trans hL))
    have X5 := hidden ((M4.out.drew).fresh hl)
    have M5 := hidden ((M4.out.drew).only ho hp)
    clear hl hp ho
    have hne := arms_ne (HRl.out.trans hL) (by omega)
    have hle := arms_le (HRl.out.trans hL)
    have fb := (reads_fine (ts := c.ts) .arms (i := j2 + 1) (by omega))
    rw [HRl.out, hL] at fb
    have bq : j5 ≤ c.ts.length := fb.2.1
    clear hL fb
    obtain ⟨g, D, rfl, hD, hn, hd⟩ := X5.out.nds hne
    have hlen : x5.L.length = D.length := by rw [← hD, List.length_map]
    have h0 : 0 < D.length := by rw [← hlen]; exact List.length_pos_iff.2 hne
    rw [hlen] at hle ⊢
    refine hK.out _ _ (fun _ => M5.out.cell) ?_
    clear hK K
    (try simp only [Act.put, q4, q5, q6, q1, q2, q3])
    refine AnyTill.one (i := 4) (by kernel_rfl) rfl (fun K hK => ?_)
    refine step_nodes rfl (.tmp 17) (.tmp 19) rfl (.slice (some ⟨w2.heap.size, 0, none⟩) 1 1) ([⟨x2, ao2, cp2⟩] : List ND) D (by simp [Act.eval]) M5.out.v M5.out.n.lt g cp5 (by simp [Act.eval]) hn hd h0 (by have := c.small; have := c.tm.len; simp; omega) (by have := M5.out.st.size; omega) ?_
    intro va vn vc w6 hv hgr
    have N6 := hidden (M5.out.n.grown hgr M5.out.v.ne)
    have M6 := hidden (M5.out.grown hgr hv)
    obtain ⟨n0, n1, n2, n3, n4, nf⟩ := N6.out.cells
    clear hv hgr n0 n1 n2 n3
    refine hK.out _ _ (fun _ => n4) ?_
    clear hK K
    (try simp only [Act.put, q4, q5, q6, q1, q2, q3])
    refine AnyTill.one (i := 5) (by kernel_rfl) rfl (fun K hK => ?_)
    (try simp only [q1, q2, q3])
    go_simp
    refine hK.out _ _ (fun _ => n4) ?_
    clear hK K
    (try simp only [Act.put, q4, q5, q6, q1, q2, q3])
    refine AnyTill.one (i := 6) (by kernel_rfl) rfl (fun K hK => ?_)
    (try simp only [q1, q2, q3])
    go_simp
    refine hK.out _ _ (fun h => absurd rfl h) ?_
    clear hK K
    (try simp only [Act.put, q4, q5, q6, q1, q2, q3])
    refine AnyTill.done (by kernel_rfl) ?_ _
    (try simp only [Act.put, q4, q5, q6, q1, q2, q3])
    clear n4 nf
    obtain ⟨W, hW⟩ : ∃ W, (w6.setCell ⟨(w2.heap.size + 1), 4, none⟩ (.slice va vn vc)) = W := ⟨_, rfl⟩
    have MW : Hid (Mk c w W _ _ _ _ _ _ _ _) := hidden (hW ▸ M6.out)
    rw [hW]
    clear hW
    obtain ⟨y0, y1, y2, y3, y4, yf⟩ := MW.out.n.cells
    obtain ⟨z0, z1, z2, z3, z4, zf⟩ := MW.out.st.zc
    clear yf
    go_wp2_with fail
    refine bodyPost_ret (results_cell_row rfl _ _ w.heap.size 25 #[.int .i64 kd, .int .i64 (c.pl i), .int .i64 0, .string ⟨[].toArray⟩, (.slice va vn vc)] (0, 0) _ rfl (MW.out.st.row _ _ _ _ _) Tryz.underlying25 rfl (by kernel_rfl)) rfl ?_
    exact MW.out.ret (s := []) (by rw [List.map_append, hD]; exact E5.out) rfl
end
end Go.Proofs.YthjmakjhidjbaaaGreat
