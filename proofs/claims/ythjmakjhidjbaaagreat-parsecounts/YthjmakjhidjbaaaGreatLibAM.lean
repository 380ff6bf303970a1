/-
  Several small texts in one; each tells at its head what it proves, and on what condition.
-/
import Derived.Test.YthjmakjhidjbaaaGreatP8St
import Derived.Test.YthjmakjhidjbaaaGreatLibAL
import Derived.Test.YthjmakjhidjbaaaGreatLibAH
import Derived.Test.YthjmakjhidjbaaaGreatP8H

/-
 Layer 8, the program's parser: rules' methods. Condition: the rules that they are made of do as the grammar says.
-/
namespace Go.Proofs.YthjmakjhidjbaaaGreat
open Go.ChangeShapes Go.WideShapes Go.ChangeAt Go.RowKit Go.Deep
set_option linter.unusedVariables false
set_option linter.unusedSimpArgs false
set_option maxHeartbeats 2000000
set_option maxRecDepth 20000
attribute [local go_sem ↓] Go.wp_at_zero Go.wp_at_succ

section
variable {c : PC} {w : World} {i : Nat}
theorem m_binds {R : Res} (h : PS c w i) {kd : Int} (hi : i < c.ts.length) (ih : Beh c i) (hE : R = exec c.ts (reads c.ts) (body (.letN kd i)) (i + 1)) : Calls Tryz.prog 70 #[.pointer (some ⟨c.b, 0, none⟩), .int .i64 kd] w fun e w' => Got8 c R w e w' := by
 have E0 := hidden hE
 have S0 := hidden (St.new h)
 have fl0 := fld1
 clear h hE
 go_enter Tryz.func70, Tryz.ntmps70
 go_wp2_with fail
 refine (take8 S0.out.ps (by omega)).mono ?_
 rintro e w1 ⟨rfl, hp, ho⟩
 have S1 := hidden (S0.out.only ho hp)
 clear hp ho
 have M2 := hidden (Mk.zero S1.out kd (c.pl i) 0 ⟨#[]⟩)
 go_wp2_with fail
 cases hs : isS [114, 101, 99] (tk c.ts (i + 1)) with
 | true =>
  have t3 := isS_in hs
  have E3 := hidden (ex_skip E0.out hs)
  refine (has_yes M2.out.st.ps [114, 101, 99] (by decide) hs).mono ?_
  rintro e w3 ⟨rfl, hp, ho⟩
  have M3 := hidden (M2.out.only ho hp)
  clear hp ho hs
  obtain ⟨y0, y1, y2, y3, y4, yf⟩ := M3.out.n.cells
  have yl := M3.out.n.lt
  have yn := Nat.ne_of_lt yl
  go_wp2_with fail
  clear y0 y1 y2 y3 y4 yf yl yn
  refine ((ih .bind (i + 1 + 1) (by omega) (by omega) : Rule c 93 .bind (i + 1 + 1)) _ (M3.out.setN 1).st.ps).mono ?_
  intro e w4 hg
  cases hx : reads c.ts .bind (i + 1 + 1) with
  | error m =>
   rw [hx] at hg
   obtain ⟨rfl, ho⟩ := hg
   exact ⟨rfl, (M3.out.setN 1).st.stop ho (ex_err E3.out hx)⟩
  | ok xj =>
   obtain ⟨x4, j4⟩ := xj
   have f4 := reads_fine (ts := c.ts) .bind (i := i + 1 + 1) (by omega)
   rw [hx] at hg f4
   obtain ⟨ao4, cp4, rfl, hl, hp, ho⟩ := hg
   have E4 := hidden (ex_ok E3.out hx)
   have b4 : j4 ≤ c.ts.length := f4.2.1
   have a4 : i + 1 + 1 < j4 := f4.2.2 _ _ rfl rfl
   have X4 := hidden ((M3.out.setN 1).fresh hl)
   have M4 := hidden ((M3.out.setN 1).only ho hp)
   clear hl hp ho hx f4
   obtain ⟨y0, y1, y2, y3, y4, yf⟩ := M4.out.n.cells
   have yl := M4.out.n.lt
   have yn := Nat.ne_of_lt yl
   go_wp2_with fail
   clear y0 y1 y2 y3 y4 yf yl yn
   go_loopg [] (c.ts.length + 1 - (j4)) (fun gk wr => InM c w (i + 1) R .ands (fun l => .ret (.mk kd i 1 [] l)) w1.heap.size kd (c.pl i) 1 ⟨#[]⟩ gk wr)
   case atStart => exact ⟨_, _, _, _, _, by omega, by omega, (by simp; omega), rfl, (M4.out.setL cp4 X4.out), E4.out⟩
   case round =>
    obtain ⟨k5, ao5, n5, cp5, L5, kb5, ka5, kl5, kg5, hm, hE⟩ := hrel
    have M5 := hidden hm
    have E5 := hidden hE
    clear hm hE
    go_wp2_with fail
    cases hs : isS [97, 110, 100] (tk c.ts (k5)) with
    | true =>
     have t6 := isS_in hs
     have E6 := hidden (tail_skip (T := .ands) (C := fun l => .ret (.mk kd i 1 [] l)) (acc := L5.map ND.t) rfl kb5 E5.out hs)
     refine (has_yes M5.out.st.ps [97, 110, 100] (by decide) hs).mono ?_
     rintro e w6 ⟨rfl, hp, ho⟩
     have M6 := hidden (M5.out.only ho hp)
     clear hp ho hs
     go_wp2_with fail
     refine region_till (S := (fun w' => w'.cell? ⟨w1.heap.size, 4, none⟩ = some (.slice ao5 n5 cp5))) (kz := 7) (by kernel_rfl) M6.out.cell (fun hHeld => ?_)
     refine AnyTill.tk (i := 0) (v := ?_) hHeld ?_ ?_
     rotate_left
     ·(intro w hSw; (try dsimp only at hSw); go_simp; (try with_reducible rfl))
     (try simp only [Act.put, q4, q5, q6, q1, q2, q3])
     refine AnyTill.tk (i := 1) (v := ?_) hHeld ?_ ?_
     rotate_left
     ·(intro w hSw; (try dsimp only at hSw); go_simp; (try with_reducible rfl))
     (try simp only [Act.put, q4, q5, q6, q1, q2, q3])
     refine AnyTill.tk (i := 2) (v := ?_) hHeld ?_ ?_
     rotate_left
     ·(intro w hSw; (try dsimp only at hSw); go_simp; (try with_reducible rfl))
     (try simp only [Act.put, q4, q5, q6, q1, q2, q3])
     refine AnyTill.one (i := 3) (by kernel_rfl) rfl (fun K hK => ?_)
     (try simp only [q1, q2, q3])
     go_simp
     refine ((ih .bind (k5 + 1) (by omega) (by omega) : Rule c 93 .bind (k5 + 1)) _ (M6.out.drew).st.ps).mono ?_
     intro e w7 hg
     cases hx : reads c.ts .bind (k5 + 1) with
     | error m =>
      rw [hx] at hg
      obtain ⟨rfl, ho⟩ := hg
      exact ⟨rfl, (M6.out.drew).st.stop ho (ex_err E6.out hx)⟩
     | ok xj =>
      obtain ⟨x7, j7⟩ := xj
      have f7 := reads_fine (ts := c.ts) .bind (i := k5 + 1) (by omega)
      rw [hx] at hg f7
      obtain ⟨ao7, cp7, rfl, hl, hp, ho⟩ := hg
      have E7 := hidden (ex_ok E6.out hx)
      have b7 : j7 ≤ c.ts.length := f7.2.1
      have a7 : k5 + 1 < j7 := f7.2.2 _ _ rfl rfl
      have X7 := hidden ((M6.out.drew).fresh hl)
      have M7 := hidden ((M6.out.drew).only ho hp)
      clear hl hp ho hx f7
      refine hK.out _ _ (fun _ => M7.out.cell) ?_
      clear hHeld
      clear hK K
      (try simp only [Act.put, q4, q5, q6, q1, q2, q3])
      refine AnyTill.one (i := 4) (by kernel_rfl) rfl (fun K hK => ?_)
      (try simp only [q1, q2, q3])
      go_simp
      refine hK.out _ _ (fun _ => (M7.out.alloc _).cell) ?_
      clear hK K
      (try simp only [Act.put, q4, q5, q6, q1, q2, q3])
      refine AnyTill.one (i := 5) (by kernel_rfl) rfl (fun K hK => ?_)
      refine step_nodes rfl (.tmp 21) (.tmp 24) rfl (.slice ao5 n5 cp5) L5 [⟨x7, ao7, cp7⟩] (by simp [Act.eval]) (M7.out.alloc _).v (by have := (M7.out.alloc (.cells #[.int .i64 x7.kind, .int .i64 (c.pl x7.pl), .int .i64 x7.N, .string ⟨x7.S.toArray⟩, .slice ao7 x7.L.length cp7] 25)).n.lt; omega) w7.heap.size 1 (by simp [Act.eval]) (news_one (blk_alloc_new _ _)) (fun d hd => by rw [List.mem_singleton.1 hd]; exact X7.out.alloc _) (by simp) (by have := c.small; have := c.tm.len; simp; omega) (by have := M7.out.st.size; rw [nblk_alloc]; omega) ?_
      intro va8 vn8 vc8 w8 hv hgr
      have N8 := hidden ((M7.out.alloc _).n.grown hgr M7.out.v.ne)
      have M8 := hidden ((M7.out.alloc _).grown hgr hv)
      obtain ⟨n0, n1, n2, n3, n4, nf⟩ := N8.out.cells
      clear hv hgr n0 n1 n2 n3
      refine hK.out _ _ (fun _ => n4) ?_
      clear hK K
      (try simp only [Act.put, q4, q5, q6, q1, q2, q3])
      refine AnyTill.one (i := 6) (by kernel_rfl) rfl (fun K hK => ?_)
      (try simp only [q1, q2, q3])
      go_simp
      refine hK.out _ _ (fun _ => n4) ?_
      clear hK K
      (try simp only [Act.put, q4, q5, q6, q1, q2, q3])
      refine AnyTill.one (i := 7) (by kernel_rfl) rfl (fun K hK => ?_)
      (try simp only [q1, q2, q3])
      go_simp
      refine hK.out _ _ (fun h => absurd rfl h) ?_
      clear n4 nf
      clear hK K
      (try simp only [Act.put, q4, q5, q6, q1, q2, q3])
      refine AnyTill.done (by kernel_rfl) ?_ _
      (try simp only [Act.put, q4, q5, q6, q1, q2, q3])
      go_wp2_with fail
      go_roundg (c.ts.length + 1 - (j7))
      case rel => exact ⟨_, _, _, _, _, by omega, by omega, by simp; omega, rfl, M8.out, by rw [List.map_append]; exact E7.out⟩
      case measure => omega
    | false =>
     have E6 := hidden (tail_skipN (T := .ands) (C := fun l => .ret (.mk kd i 1 [] l)) (acc := L5.map ND.t) rfl kb5 E5.out hs)
     refine (has_no M5.out.st.ps (by omega) [97, 110, 100] (by decide) hs).mono ?_
     rintro e w6 ⟨rfl, hb⟩
     have M6 := hidden (M5.out.below hb)
     clear hb hs
     obtain ⟨y0, y1, y2, y3, y4, yf⟩ := M6.out.n.cells
     obtain ⟨z0, z1, z2, z3, z4, zf⟩ := M6.out.st.zc
     clear yf
     go_wp2_with fail
     refine bodyPost_ret (results_cell_row rfl _ _ w.heap.size 25 #[.int .i64 kd, .int .i64 (c.pl i), .int .i64 1, .string ⟨[].toArray⟩, (.slice ao5 n5 cp5)] (0, 0) _ rfl (M6.out.st.row _ _ _ _ _) Tryz.underlying25 rfl (by kernel_rfl)) rfl ?_
     exact M6.out.ret (s := []) (E6.out) rfl
 | false =>
  have E3 := hidden (ex_skipN E0.out hs)
  refine (has_no M2.out.st.ps (by omega) [114, 101, 99] (by decide) hs).mono ?_
  rintro e w3 ⟨rfl, hb⟩
  have M3 := hidden (M2.out.below hb)
  clear hb hs
  go_wp2_with fail
  refine ((ih .bind (i + 1) (by omega) (by omega) : Rule c 93 .bind (i + 1)) _ M3.out.st.ps).mono ?_
  intro e w10 hg
  cases hx : reads c.ts .bind (i + 1) with
  | error m =>
   rw [hx] at hg
   obtain ⟨rfl, ho⟩ := hg
   exact ⟨rfl, M3.out.st.stop ho (ex_err E3.out hx)⟩
  | ok xj =>
   obtain ⟨x10, j10⟩ := xj
   have f10 := reads_fine (ts := c.ts) .bind (i := i + 1) (by omega)
   rw [hx] at hg f10
   obtain ⟨ao10, cp10, rfl, hl, hp, ho⟩ := hg
   have E10 := hidden (ex_ok E3.out hx)
   have b10 : j10 ≤ c.ts.length := f10.2.1
   have a10 : i + 1 < j10 := f10.2.2 _ _ rfl rfl
   have X10 := hidden (M3.out.fresh hl)
   have M10 := hidden (M3.out.only ho hp)
   clear hl hp ho hx f10
   obtain ⟨y0, y1, y2, y3, y4, yf⟩ := M10.out.n.cells
   have yl := M10.out.n.lt
   have yn := Nat.ne_of_lt yl
   go_wp2_with fail
   clear y0 y1 y2 y3 y4 yf yl yn
   go_loopg [] (c.ts.length + 1 - (j10)) (fun gk wr => InM c w (i + 1) R .ands (fun l => .ret (.mk kd i 0 [] l)) w1.heap.size kd (c.pl i) 0 ⟨#[]⟩ gk wr)
   case atStart => exact ⟨_, _, _, _, _, by omega, by omega, (by simp; omega), rfl, (M10.out.setL cp10 X10.out), E10.out⟩
   case round =>
    obtain ⟨k11, ao11, n11, cp11, L11, kb11, ka11, kl11, kg11, hm, hE⟩ := hrel
    have M11 := hidden hm
    have E11 := hidden hE
    clear hm hE
    go_wp2_with fail
    cases hs : isS [97, 110, 100] (tk c.ts (k11)) with
    | true =>
     have t12 := isS_in hs
     have E12 := hidden (tail_skip (T := .ands) (C := fun l => .ret (.mk kd i 0 [] l)) (acc := L11.map ND.t) rfl kb11 E11.out hs)
     refine (has_yes M11.out.st.ps [97, 110, 100] (by decide) hs).mono ?_
     rintro e w12 ⟨rfl, hp, ho⟩
     have M12 := hidden (M11.out.only ho hp)
     clear hp ho hs
     go_wp2_with fail
     refine region_till (S := (fun w' => w'.cell? ⟨w1.heap.size, 4, none⟩ = some (.slice ao11 n11 cp11))) (kz := 7) (by kernel_rfl) M12.out.cell (fun hHeld => ?_)
     refine AnyTill.tk (i := 0) (v := ?_) hHeld ?_ ?_
     rotate_left
     ·(intro w hSw; (try dsimp only at hSw); go_simp; (try with_reducible rfl))
     (try simp only [Act.put, q4, q5, q6, q1, q2, q3])
     refine AnyTill.tk (i := 1) (v := ?_) hHeld ?_ ?_
     rotate_left
     ·(intro w hSw; (try dsimp only at hSw); go_simp; (try with_reducible rfl))
     (try simp only [Act.put, q4, q5, q6, q1, q2, q3])
     refine AnyTill.tk (i := 2) (v := ?_) hHeld ?_ ?_
     rotate_left
     ·(intro w hSw; (try dsimp only at hSw); go_simp; (try with_reducible rfl))
     (try simp only [Act.put, q4, q5, q6, q1, q2, q3])
     refine AnyTill.one (i := 3) (by kernel_rfl) rfl (fun K hK => ?_)
     (try simp only [q1, q2, q3])
     go_simp
     refine ((ih .bind (k11 + 1) (by omega) (by omega) : Rule c 93 .bind (k11 + 1)) _ (M12.out.drew).st.ps).mono ?_
     intro e w13 hg
     cases hx : reads c.ts .bind (k11 + 1) with
     | error m =>
      rw [hx] at hg
      obtain ⟨rfl, ho⟩ := hg
      exact ⟨rfl, (M12.out.drew).st.stop ho (ex_err E12.out hx)⟩
     | ok xj =>
      obtain ⟨x13, j13⟩ := xj
      have f13 := reads_fine (ts := c.ts) .bind (i := k11 + 1) (by omega)
      rw [hx] at hg f13
      obtain ⟨ao13, cp13, rfl, hl, hp, ho⟩ := hg
      have E13 := hidden (ex_ok E12.out hx)
      have b13 : j13 ≤ c.ts.length := f13.2.1
      have a13 : k11 + 1 < j13 := f13.2.2 _ _ rfl rfl
      have X13 := hidden ((M12.out.drew).fresh hl)
      have M13 := hidden ((M12.out.drew).only ho hp)
      clear hl hp ho hx f13
      refine hK.out _ _ (fun _ => M13.out.cell) ?_
      clear hHeld
      clear hK K
      (try simp only [Act.put, q4, q5, q6, q1, q2, q3])
      refine AnyTill.one (i := 4) (by kernel_rfl) rfl (fun K hK => ?_)
      (try simp only [q1, q2, q3])
      go_simp
      refine hK.out _ _ (fun _ => (M13.out.alloc _).cell) ?_
      clear hK K
      (try simp only [Act.put, q4, q5, q6, q1, q2, q3])
      refine AnyTill.one (i := 5) (by kernel_rfl) rfl (fun K hK => ?_)
      refine step_nodes rfl (.tmp 21) (.tmp 24) rfl (.slice ao11 n11 cp11) L11 [⟨x13, ao13, cp13⟩] (by simp [Act.eval]) (M13.out.alloc _).v (by have := (M13.out.alloc (.cells #[.int .i64 x13.kind, .int .i64 (c.pl x13.pl), .int .i64 x13.N, .string ⟨x13.S.toArray⟩, .slice ao13 x13.L.length cp13] 25)).n.lt; omega) w13.heap.size 1 (by simp [Act.eval]) (news_one (blk_alloc_new _ _)) (fun d hd => by rw [List.mem_singleton.1 hd]; exact X13.out.alloc _) (by simp) (by have := c.small; have := c.tm.len; simp; omega) (by have := M13.out.st.size; rw [nblk_alloc]; omega) ?_
      intro va14 vn14 vc14 w14 hv hgr
      have N14 := hidden ((M13.out.alloc _).n.grown hgr M13.out.v.ne)
      have M14 := hidden ((M13.out.alloc _).grown hgr hv)
      obtain ⟨n0, n1, n2, n3, n4, nf⟩ := N14.out.cells
      clear hv hgr n0 n1 n2 n3
      refine hK.out _ _ (fun _ => n4) ?_
      clear hK K
      (try simp only [Act.put, q4, q5, q6, q1, q2, q3])
      refine AnyTill.one (i := 6) (by kernel_rfl) rfl (fun K hK => ?_)
      (try simp only [q1, q2, q3])
      go_simp
      refine hK.out _ _ (fun _ => n4) ?_
      clear hK K
      (try simp only [Act.put, q4, q5, q6, q1, q2, q3])
      refine AnyTill.one (i := 7) (by kernel_rfl) rfl (fun K hK => ?_)
      (try simp only [q1, q2, q3])
      go_simp
      refine hK.out _ _ (fun h => absurd rfl h) ?_
      clear n4 nf
      clear hK K
      (try simp only [Act.put, q4, q5, q6, q1, q2, q3])
      refine AnyTill.done (by kernel_rfl) ?_ _
      (try simp only [Act.put, q4, q5, q6, q1, q2, q3])
      go_wp2_with fail
      go_roundg (c.ts.length + 1 - (j13))
      case rel => exact ⟨_, _, _, _, _, by omega, by omega, by simp; omega, rfl, M14.out, by rw [List.map_append]; exact E13.out⟩
      case measure => omega
    | false =>
     have E12 := hidden (tail_skipN (T := .ands) (C := fun l => .ret (.mk kd i 0 [] l)) (acc := L11.map ND.t) rfl kb11 E11.out hs)
     refine (has_no M11.out.st.ps (by omega) [97, 110, 100] (by decide) hs).mono ?_
     rintro e w12 ⟨rfl, hb⟩
     have M12 := hidden (M11.out.below hb)
     clear hb hs
     obtain ⟨y0, y1, y2, y3, y4, yf⟩ := M12.out.n.cells
     obtain ⟨z0, z1, z2, z3, z4, zf⟩ := M12.out.st.zc
     clear yf
     go_wp2_with fail
     refine bodyPost_ret (results_cell_row rfl _ _ w.heap.size 25 #[.int .i64 kd, .int .i64 (c.pl i), .int .i64 0, .string ⟨[].toArray⟩, (.slice ao11 n11 cp11)] (0, 0) _ rfl (M12.out.st.row _ _ _ _ _) Tryz.underlying25 rfl (by kernel_rfl)) rfl ?_
     exact M12.out.ret (s := []) (E12.out) rfl
end
end Go.Proofs.YthjmakjhidjbaaaGreat

/-
 Layer 8, the program's parser: rules' methods. Condition: the rules that they are made of do as the grammar says.
-/
namespace Go.Proofs.YthjmakjhidjbaaaGreat
open Go.ChangeShapes Go.WideShapes Go.ChangeAt Go.RowKit Go.Deep
set_option linter.unusedVariables false
set_option linter.unusedSimpArgs false
set_option maxHeartbeats 2000000
set_option maxRecDepth 20000
attribute [local go_sem ↓] Go.wp_at_zero Go.wp_at_succ

section
variable {c : PC} {w : World} {i : Nat}
theorem m_def {R : Res} {p : Nat} {S : List UInt8} (h : PS c w i) (hi : i ≤ c.ts.length) (hc : Rule c 75 (.con 207) i) (ih : Beh c i) (hE : R = exec c.ts (reads c.ts) (.skip [123] (.call .lab fun x => .call .labs fun r => .must [125] (.ret (.mk 208 p 0 S (x :: r.L)))) (.opt [124] (.call (.con 207) fun x => .call .cons fun r => .ret (.mk 206 p 0 S (x :: r.L))))) i) : Calls Tryz.prog 74 #[.pointer (some ⟨c.b, 0, none⟩)] w fun e w' => GotK c Tr.kind R w e w' := by
 have E0 := hidden hE
 have S0 := hidden (St.new h)
 have hmf : ∀ (fn : Fn) (first cap : Array Value) (w : World), (Instr.makeFunc fn first cap).run Tryz.prog w = .ok (.func fn first cap) w := fun _ _ _ _ => rfl
 clear h hE
 go_enter Tryz.func74, Tryz.ntmps74
 go_wp2_with fail
 cases hs : isS [123] (tk c.ts (i)) with
 | true =>
  have t1 := isS_in hs
  have E1 := hidden (ex_skip E0.out hs)
  refine (has_yes S0.out.ps [123] (by decide) hs).mono ?_
  rintro e w1 ⟨rfl, hp, ho⟩
  have S1 := hidden (S0.out.only ho hp)
  clear hp ho hs
  obtain ⟨Rl, hRl⟩ : ∃ Rl, Rl = lstR c.ts .lab [125] (reads c.ts .labs) (i + 1) := ⟨_, rfl⟩
  have HRl := hidden hRl
  have EE := lab_eq (f := fun l => .mk 208 p 0 S l) E1.out
  rw [← hRl] at EE
  have EE2 := hidden EE
  clear hRl EE
  go_wp2_with fail
  have HX := hidden (m_list (k1 := 95) (n1 := .lab) (fst := #[.pointer (some ⟨c.b, 0, none⟩)]) (cap := #[]) (sg := [125]) S1.out.ps (by omega) (by decide) rfl (enters_of Tryz.func95 (by kernel_rfl) rfl) (Tail.of (T := .labs) rfl) (fun j h1 h2 w' _ hp => (ih .lab j (by omega) h2 : Rule c 95 .lab j) w' hp) HRl.out)
  refine (HX.out).mono ?_
  intro e w2 hg
  cases hL : Rl with
  | error m =>
   rw [hL] at hg
   obtain ⟨rfl, ho⟩ := hg
   exact ⟨rfl, S1.out.stopK ho (by rw [EE2.out, hL])⟩
  | ok xj =>
   obtain ⟨x2, j2⟩ := xj
   rw [hL] at hg
   obtain ⟨ao2, cp2, rfl, hl, hp, ho⟩ := hg
   have E2 := hidden (show R = .ok (.mk 208 p 0 S _, _) by rw [EE2.out, hL])
   have X2 := hidden (Has.of hl S1.out)
   have S2 := hidden (S1.out.only ho hp)
   clear hl hp ho
   clear hL
   obtain ⟨z0, z1, z2, z3, z4, zf⟩ := S2.out.zc
   go_wp2_with fail
   refine bodyPost_ret (results_cell_row rfl _ _ w.heap.size 25 #[.int .i64 208, .int .i64 0, .int .i64 0, .string ⟨#[]⟩, .slice ao2 x2.L.length cp2] (0, 0) _ rfl (S2.out.row _ _ _ _ _) Tryz.underlying25 rfl (by kernel_rfl)) rfl ?_
   exact S2.out.retK (kf := Tr.kind) (x := .mk 208 p 0 S x2.L) X2.out E2.out rfl
 | false =>
  have E1 := hidden (ex_skipN E0.out hs)
  refine (has_no S0.out.ps (by omega) [123] (by decide) hs).mono ?_
  rintro e w1 ⟨rfl, hb⟩
  have S1 := hidden (S0.out.below hb)
  clear hb hs
  go_wp2_with fail
  cases hs : isS [124] (tk c.ts (i)) with
  | true =>
   have t3 := isS_in hs
   have E3 := hidden (ex_opt E1.out hs)
   refine (has_yes S1.out.ps [124] (by decide) hs).mono ?_
   rintro e w3 ⟨rfl, hp, ho⟩
   have S3 := hidden (S1.out.only ho hp)
   clear hp ho hs
   go_wp2_with fail
   refine ((ih (.con 207) (i + 1) (by omega) (by omega) : Rule c 75 (.con 207) (i + 1)) _ S3.out.ps).mono ?_
   intro e w4 hg
   cases hx : reads c.ts (.con 207) (i + 1) with
   | error m =>
    rw [hx] at hg
    obtain ⟨rfl, ho⟩ := hg
    exact ⟨rfl, S3.out.stopK ho (ex_err E3.out hx)⟩
   | ok xj =>
    obtain ⟨x4, j4⟩ := xj
    have f4 := reads_fine (ts := c.ts) (.con 207) (i := i + 1) (by omega)
    rw [hx] at hg f4
    obtain ⟨ao4, cp4, rfl, hl, hp, ho⟩ := hg
    have E4 := hidden (ex_ok E3.out hx)
    have b4 : j4 ≤ c.ts.length := f4.2.1
    have a4 : i + 1 < j4 := f4.2.2 _ _ rfl rfl
    have X4 := hidden (Has.of hl S3.out)
    have S4 := hidden (S3.out.only ho hp)
    clear hl hp ho hx f4
    have M5 := hidden (Mk.first S4.out cp4 X4.out 206 0 0 ⟨#[]⟩)
    go_wp2_with fail
    go_loopg [] (c.ts.length + 1 - (j4)) (fun gk wr => InM c w (i + 1) R .cons (fun l => .ret (.mk 206 p 0 S l)) (w4.heap.size + 1) 206 0 0 ⟨#[]⟩ gk wr)
    case atStart => exact ⟨_, _, _, _, _, by omega, by omega, (by simp; omega), rfl, M5.out, E4.out⟩
    case round =>
     obtain ⟨k6, ao6, n6, cp6, L6, kb6, ka6, kl6, kg6, hm, hE⟩ := hrel
     have M6 := hidden hm
     have E6 := hidden hE
     clear hm hE
     go_wp2_with fail
     cases hs : isS [124] (tk c.ts (k6)) with
     | true =>
      have t7 := isS_in hs
      have E7 := hidden (tail_skip (T := .cons) (C := fun l => .ret (.mk 206 p 0 S l)) (acc := L6.map ND.t) rfl kb6 E6.out hs)
      refine (has_yes M6.out.st.ps [124] (by decide) hs).mono ?_
      rintro e w7 ⟨rfl, hp, ho⟩
      have M7 := hidden (M6.out.only ho hp)
      clear hp ho hs
      go_wp2_with fail
      refine region_till (S := (fun w' => w'.cell? ⟨(w4.heap.size + 1), 4, none⟩ = some (.slice ao6 n6 cp6))) (kz := 7) (by kernel_rfl) M7.out.cell (fun hHeld => ?_)
      refine AnyTill.tk (i := 0) (v := ?_) hHeld ?_ ?_
      rotate_left
      ·(intro w hSw; (try dsimp only at hSw); go_simp; (try with_reducible rfl))
      (try simp only [Act.put, q4, q5, q6, q1, q2, q3])
      refine AnyTill.tk (i := 1) (v := ?_) hHeld ?_ ?_
      rotate_left
      ·(intro w hSw; (try dsimp only at hSw); go_simp; (try with_reducible rfl))
      (try simp only [Act.put, q4, q5, q6, q1, q2, q3])
      refine AnyTill.tk (i := 2) (v := ?_) hHeld ?_ ?_
      rotate_left
      ·(intro w hSw; (try dsimp only at hSw); go_simp; (try with_reducible rfl))
      (try simp only [Act.put, q4, q5, q6, q1, q2, q3])
      refine AnyTill.one (i := 3) (by kernel_rfl) rfl (fun K hK => ?_)
      (try simp only [q1, q2, q3])
      go_simp
      refine ((ih (.con 207) (k6 + 1) (by omega) (by omega) : Rule c 75 (.con 207) (k6 + 1)) _ (M7.out.drew).st.ps).mono ?_
      intro e w8 hg
      cases hx : reads c.ts (.con 207) (k6 + 1) with
      | error m =>
       rw [hx] at hg
       obtain ⟨rfl, ho⟩ := hg
       exact ⟨rfl, (M7.out.drew).st.stopK ho (ex_err E7.out hx)⟩
      | ok xj =>
       obtain ⟨x8, j8⟩ := xj
       have f8 := reads_fine (ts := c.ts) (.con 207) (i := k6 + 1) (by omega)
       rw [hx] at hg f8
       obtain ⟨ao8, cp8, rfl, hl, hp, ho⟩ := hg
       have E8 := hidden (ex_ok E7.out hx)
       have b8 : j8 ≤ c.ts.length := f8.2.1
       have a8 : k6 + 1 < j8 := f8.2.2 _ _ rfl rfl
       have X8 := hidden ((M7.out.drew).fresh hl)
       have M8 := hidden ((M7.out.drew).only ho hp)
       clear hl hp ho hx f8
       refine hK.out _ _ (fun _ => M8.out.cell) ?_
       clear hHeld
       clear hK K
       (try simp only [Act.put, q4, q5, q6, q1, q2, q3])
       refine AnyTill.one (i := 4) (by kernel_rfl) rfl (fun K hK => ?_)
       (try simp only [q1, q2, q3])
       go_simp
       refine hK.out _ _ (fun _ => (M8.out.alloc _).cell) ?_
       clear hK K
       (try simp only [Act.put, q4, q5, q6, q1, q2, q3])
       refine AnyTill.one (i := 5) (by kernel_rfl) rfl (fun K hK => ?_)
       refine step_nodes rfl (.tmp 20) (.tmp 23) rfl (.slice ao6 n6 cp6) L6 [⟨x8, ao8, cp8⟩] (by simp [Act.eval]) (M8.out.alloc _).v (by have := (M8.out.alloc (.cells #[.int .i64 x8.kind, .int .i64 (c.pl x8.pl), .int .i64 x8.N, .string ⟨x8.S.toArray⟩, .slice ao8 x8.L.length cp8] 25)).n.lt; omega) w8.heap.size 1 (by simp [Act.eval]) (news_one (blk_alloc_new _ _)) (fun d hd => by rw [List.mem_singleton.1 hd]; exact X8.out.alloc _) (by simp) (by have := c.small; have := c.tm.len; simp; omega) (by have := M8.out.st.size; rw [nblk_alloc]; omega) ?_
       intro va9 vn9 vc9 w9 hv hgr
       have N9 := hidden ((M8.out.alloc _).n.grown hgr M8.out.v.ne)
       have M9 := hidden ((M8.out.alloc _).grown hgr hv)
       obtain ⟨n0, n1, n2, n3, n4, nf⟩ := N9.out.cells
       clear n0 n1 n2 n3
       have G9 := hidden ((M8.out.alloc _).gone hgr hv)
       clear hv hgr
       refine hK.out _ _ (fun _ => n4) ?_
       clear hK K
       (try simp only [Act.put, q4, q5, q6, q1, q2, q3])
       refine AnyTill.one (i := 6) (by kernel_rfl) rfl (fun K hK => ?_)
       (try simp only [q1, q2, q3])
       go_simp
       refine hK.out _ _ (fun _ => n4) ?_
       clear hK K
       (try simp only [Act.put, q4, q5, q6, q1, q2, q3])
       refine AnyTill.one (i := 7) (by kernel_rfl) rfl (fun K hK => ?_)
       (try simp only [q1, q2, q3])
       go_simp
       refine hK.out _ _ (fun h => absurd rfl h) ?_
       clear n4 nf
       clear hK K
       (try simp only [Act.put, q4, q5, q6, q1, q2, q3])
       refine AnyTill.done (by kernel_rfl) ?_ _
       (try simp only [Act.put, q4, q5, q6, q1, q2, q3])
       go_wp2_with fail
       go_roundg (c.ts.length + 1 - (j8))
       case rel => exact ⟨_, _, _, _, _, by omega, by omega, by simp; omega, rfl, M9.out, by rw [List.map_append]; exact E8.out⟩
       case measure => omega
     | false =>
      have E7 := hidden (tail_skipN (T := .cons) (C := fun l => .ret (.mk 206 p 0 S l)) (acc := L6.map ND.t) rfl kb6 E6.out hs)
      refine (has_no M6.out.st.ps (by omega) [124] (by decide) hs).mono ?_
      rintro e w7 ⟨rfl, hb⟩
      have M7 := hidden (M6.out.below hb)
      clear hb hs
      obtain ⟨y0, y1, y2, y3, y4, yf⟩ := M7.out.n.cells
      obtain ⟨z0, z1, z2, z3, z4, zf⟩ := M7.out.st.zc
      clear yf
      go_wp2_with fail
      refine bodyPost_ret (results_cell_row rfl _ _ w.heap.size 25 #[.int .i64 206, .int .i64 0, .int .i64 0, .string ⟨#[]⟩, (.slice ao6 n6 cp6)] (0, 0) _ rfl (M7.out.st.row _ _ _ _ _) Tryz.underlying25 rfl (by kernel_rfl)) rfl ?_
      exact M7.out.retK (x := .mk 206 p 0 S (L6.map ND.t)) rfl (E7.out) rfl
  | false =>
   have E3 := hidden (ex_optN E1.out hs)
   refine (has_no S1.out.ps (by omega) [124] (by decide) hs).mono ?_
   rintro e w3 ⟨rfl, hb⟩
   have S3 := hidden (S1.out.below hb)
   clear hb hs
   go_wp2_with fail
   refine (hc _ S3.out.ps).mono ?_
   intro e w10 hg
   cases hx : reads c.ts (.con 207) (i) with
   | error m =>
    rw [hx] at hg
    obtain ⟨rfl, ho⟩ := hg
    exact ⟨rfl, S3.out.stopK ho (ex_err E3.out hx)⟩
   | ok xj =>
    obtain ⟨x10, j10⟩ := xj
    have f10 := reads_fine (ts := c.ts) (.con 207) (i := i) (by omega)
    rw [hx] at hg f10
    obtain ⟨ao10, cp10, rfl, hl, hp, ho⟩ := hg
    have E10 := hidden (ex_ok E3.out hx)
    have b10 : j10 ≤ c.ts.length := f10.2.1
    have a10 : i < j10 := f10.2.2 _ _ rfl rfl
    have X10 := hidden (Has.of hl S3.out)
    have S10 := hidden (S3.out.only ho hp)
    clear hl hp ho hx f10
    have M11 := hidden (Mk.first S10.out cp10 X10.out 206 0 0 ⟨#[]⟩)
    go_wp2_with fail
    go_loopg [] (c.ts.length + 1 - (j10)) (fun gk wr => InM c w (i + 1) R .cons (fun l => .ret (.mk 206 p 0 S l)) (w10.heap.size + 1) 206 0 0 ⟨#[]⟩ gk wr)
    case atStart => exact ⟨_, _, _, _, _, by omega, by omega, (by simp; omega), rfl, M11.out, E10.out⟩
    case round =>
     obtain ⟨k12, ao12, n12, cp12, L12, kb12, ka12, kl12, kg12, hm, hE⟩ := hrel
     have M12 := hidden hm
     have E12 := hidden hE
     clear hm hE
     go_wp2_with fail
     cases hs : isS [124] (tk c.ts (k12)) with
     | true =>
      have t13 := isS_in hs
      have E13 := hidden (tail_skip (T := .cons) (C := fun l => .ret (.mk 206 p 0 S l)) (acc := L12.map ND.t) rfl kb12 E12.out hs)
      refine (has_yes M12.out.st.ps [124] (by decide) hs).mono ?_
      rintro e w13 ⟨rfl, hp, ho⟩
      have M13 := hidden (M12.out.only ho hp)
      clear hp ho hs
      go_wp2_with fail
      refine region_till (S := (fun w' => w'.cell? ⟨(w10.heap.size + 1), 4, none⟩ = some (.slice ao12 n12 cp12))) (kz := 7) (by kernel_rfl) M13.out.cell (fun hHeld => ?_)
      refine AnyTill.tk (i := 0) (v := ?_) hHeld ?_ ?_
      rotate_left
      ·(intro w hSw; (try dsimp only at hSw); go_simp; (try with_reducible rfl))
      (try simp only [Act.put, q4, q5, q6, q1, q2, q3])
      refine AnyTill.tk (i := 1) (v := ?_) hHeld ?_ ?_
      rotate_left
      ·(intro w hSw; (try dsimp only at hSw); go_simp; (try with_reducible rfl))
      (try simp only [Act.put, q4, q5, q6, q1, q2, q3])
      refine AnyTill.tk (i := 2) (v := ?_) hHeld ?_ ?_
      rotate_left
      ·(intro w hSw; (try dsimp only at hSw); go_simp; (try with_reducible rfl))
      (try simp only [Act.put, q4, q5, q6, q1, q2, q3])
      refine AnyTill.one (i := 3) (by kernel_rfl) rfl (fun K hK => ?_)
      (try simp only [q1, q2, q3])
      go_simp
      refine ((ih (.con 207) (k12 + 1) (by omega) (by omega) : Rule c 75 (.con 207) (k12 + 1)) _ (M13.out.drew).st.ps).mono ?_
      intro e w14 hg
      cases hx : reads c.ts (.con 207) (k12 + 1) with
      | error m =>
       rw [hx] at hg
       obtain ⟨rfl, ho⟩ := hg
       exact ⟨rfl, (M13.out.drew).st.stopK ho (ex_err E13.out hx)⟩
      | ok xj =>
       obtain ⟨x14, j14⟩ := xj
       have f14 := reads_fine (ts := c.ts) (.con 207) (i := k12 + 1) (by omega)
       rw [hx] at hg f14
       obtain ⟨ao14, cp14, rfl, hl, hp, ho⟩ := hg
       have E14 := hidden (ex_ok E13.out hx)
       have b14 : j14 ≤ c.ts.length := f14.2.1
       have a14 : k12 + 1 < j14 := f14.2.2 _ _ rfl rfl
       have X14 := hidden ((M13.out.drew).fresh hl)
       have M14 := hidden ((M13.out.drew).only ho hp)
       clear hl hp ho hx f14
       refine hK.out _ _ (fun _ => M14.out.cell) ?_
       clear hHeld
       clear hK K
       (try simp only [Act.put, q4, q5, q6, q1, q2, q3])
       refine AnyTill.one (i := 4) (by kernel_rfl) rfl (fun K hK => ?_)
       (try simp only [q1, q2, q3])
       go_simp
       refine hK.out _ _ (fun _ => (M14.out.alloc _).cell) ?_
       clear hK K
       (try simp only [Act.put, q4, q5, q6, q1, q2, q3])
       refine AnyTill.one (i := 5) (by kernel_rfl) rfl (fun K hK => ?_)
       refine step_nodes rfl (.tmp 20) (.tmp 23) rfl (.slice ao12 n12 cp12) L12 [⟨x14, ao14, cp14⟩] (by simp [Act.eval]) (M14.out.alloc _).v (by have := (M14.out.alloc (.cells #[.int .i64 x14.kind, .int .i64 (c.pl x14.pl), .int .i64 x14.N, .string ⟨x14.S.toArray⟩, .slice ao14 x14.L.length cp14] 25)).n.lt; omega) w14.heap.size 1 (by simp [Act.eval]) (news_one (blk_alloc_new _ _)) (fun d hd => by rw [List.mem_singleton.1 hd]; exact X14.out.alloc _) (by simp) (by have := c.small; have := c.tm.len; simp; omega) (by have := M14.out.st.size; rw [nblk_alloc]; omega) ?_
       intro va15 vn15 vc15 w15 hv hgr
       have N15 := hidden ((M14.out.alloc _).n.grown hgr M14.out.v.ne)
       have M15 := hidden ((M14.out.alloc _).grown hgr hv)
       obtain ⟨n0, n1, n2, n3, n4, nf⟩ := N15.out.cells
       clear n0 n1 n2 n3
       have G15 := hidden ((M14.out.alloc _).gone hgr hv)
       clear hv hgr
       refine hK.out _ _ (fun _ => n4) ?_
       clear hK K
       (try simp only [Act.put, q4, q5, q6, q1, q2, q3])
       refine AnyTill.one (i := 6) (by kernel_rfl) rfl (fun K hK => ?_)
       (try simp only [q1, q2, q3])
       go_simp
       refine hK.out _ _ (fun _ => n4) ?_
       clear hK K
       (try simp only [Act.put, q4, q5, q6, q1, q2, q3])
       refine AnyTill.one (i := 7) (by kernel_rfl) rfl (fun K hK => ?_)
       (try simp only [q1, q2, q3])
       go_simp
       refine hK.out _ _ (fun h => absurd rfl h) ?_
       clear n4 nf
       clear hK K
       (try simp only [Act.put, q4, q5, q6, q1, q2, q3])
       refine AnyTill.done (by kernel_rfl) ?_ _
       (try simp only [Act.put, q4, q5, q6, q1, q2, q3])
       go_wp2_with fail
       go_roundg (c.ts.length + 1 - (j14))
       case rel => exact ⟨_, _, _, _, _, by omega, by omega, by simp; omega, rfl, M15.out, by rw [List.map_append]; exact E14.out⟩
       case measure => omega
     | false =>
      have E13 := hidden (tail_skipN (T := .cons) (C := fun l => .ret (.mk 206 p 0 S l)) (acc := L12.map ND.t) rfl kb12 E12.out hs)
      refine (has_no M12.out.st.ps (by omega) [124] (by decide) hs).mono ?_
      rintro e w13 ⟨rfl, hb⟩
      have M13 := hidden (M12.out.below hb)
      clear hb hs
      obtain ⟨y0, y1, y2, y3, y4, yf⟩ := M13.out.n.cells
      obtain ⟨z0, z1, z2, z3, z4, zf⟩ := M13.out.st.zc
      clear yf
      go_wp2_with fail
      refine bodyPost_ret (results_cell_row rfl _ _ w.heap.size 25 #[.int .i64 206, .int .i64 0, .int .i64 0, .string ⟨#[]⟩, (.slice ao12 n12 cp12)] (0, 0) _ rfl (M13.out.st.row _ _ _ _ _) Tryz.underlying25 rfl (by kernel_rfl)) rfl ?_
      exact M13.out.retK (x := .mk 206 p 0 S (L12.map ND.t)) rfl (E13.out) rfl
theorem m_item {R : Res} (h : PS c w i) (hi : i ≤ c.ts.length) (ih : Beh c i) (hE : R = exec c.ts (reads c.ts) (.skip [108, 101, 116] (.call (.letN 205 i) .ret) (.skip [116, 121, 112, 101] (.token 3 fun t => .must [61] (.skip [123] (.call .lab fun x => .call .labs fun r => .must [125] (.ret (.mk 208 i 0 t.S (x :: r.L)))) (.opt [124] (.call (.con 207) fun x => .call .cons fun r => .ret (.mk 206 i 0 t.S (x :: r.L)))))) (.must [101, 120, 99, 101, 112, 116, 105, 111, 110] (.call (.con 210) fun x => .ret (x.at_ i))))) i) : Calls Tryz.prog 40 #[.pointer (some ⟨c.b, 0, none⟩)] w fun e w' => Got8 c R w e w' := by
 have E0 := hidden hE
 have S0 := hidden (St.new h)
 have hmf : ∀ (fn : Fn) (first cap : Array Value) (w : World), (Instr.makeFunc fn first cap).run Tryz.prog w = .ok (.func fn first cap) w := fun _ _ _ _ => rfl
 have f1 := fld1
 have f3 := fld3
 clear h hE
 go_enter Tryz.func40, Tryz.ntmps40
 go_wp2_with fail
 cases hs0 : isS [108, 101, 116] (tk c.ts (i)) with
 | true =>
  have hb := sign8 S0.out.ps (by omega)
  rw [signT_is hs0] at hb
  have t1 := isS_in hs0
  refine hb.mono ?_
  clear hb
  rintro e w1 ⟨rfl, hb⟩
  have S1 := hidden (S0.out.below hb)
  clear hb
  have E8 := hidden (ex_skip E0.out hs0)
  have hlt := isS_in hs0
  clear hs0
  go_wp2_with fail
  have E9 := hidden ((ex_end E8.out).trans (reads_eq _ (by omega)))
  have HX := hidden (m_binds (kd := 205) S1.out.ps hlt ih E9.out)
  refine (HX.out).mono ?_
  intro e w2 hg
  cases hR : R with
  | error m =>
   rw [hR] at hg
   obtain ⟨rfl, ho⟩ := hg
   exact ⟨rfl, S1.out.stop ho hR⟩
  | ok xj =>
   obtain ⟨x2, j2⟩ := xj
   rw [hR] at hg
   obtain ⟨ao2, cp2, rfl, hl, hp, ho⟩ := hg
   have X2 := hidden (Has.of hl S1.out)
   have HR := hidden hR
   have S2 := hidden (S1.out.only ho hp)
   clear hl hp ho hR
   obtain ⟨z0, z1, z2, z3, z4, zf⟩ := S2.out.zc
   go_wp2_with fail
   refine bodyPost_ret (results_cell_row rfl _ _ w.heap.size 25 #[.int .i64 x2.kind, .int .i64 (c.pl x2.pl), .int .i64 x2.N, .string ⟨x2.S.toArray⟩, .slice ao2 x2.L.length cp2] (0, 0) _ rfl (S2.out.row _ _ _ _ _) Tryz.underlying25 rfl (by kernel_rfl)) rfl ?_
   exact S2.out.ret X2.out HR.out rfl
 | false =>
  have E1_0 := hidden (ex_skipN E0.out hs0)
  have z1_0 := signT_no hs0 (by decide)
  clear hs0
  cases hs1 : isS [116, 121, 112, 101] (tk c.ts (i)) with
  | true =>
   have hb := sign8 S0.out.ps (by omega)
   rw [signT_is hs1] at hb
   have t1 := isS_in hs1
   refine hb.mono ?_
   clear hb
   rintro e w1 ⟨rfl, hb⟩
   have S1 := hidden (S0.out.below hb)
   clear hb
   have E8 := hidden (ex_skip E1_0.out hs1)
   have hlt := isS_in hs1
   clear hs1
   go_wp2_with fail
   refine (take8 S1.out.ps (by omega)).mono ?_
   rintro e w3 ⟨rfl, hp, ho⟩
   have S3 := hidden (S1.out.only ho hp)
   clear hp ho
   go_wp2_with fail
   cases hs : isK 3 (tk c.ts (i + 1)) with
   | false =>
    refine (mustBe_no S3.out.ps (by omega) 3 hs).mono ?_
    rintro e w' ⟨rfl, ho⟩
    exact ⟨rfl, S3.out.stop ho (ex_tokenN E8.out hs)⟩
   | true =>
    have t4 := isK_in hs (by decide)
    have E4 := hidden (ex_token E8.out hs (by decide))
    refine (mustBe_yes S3.out.ps 3 (by decide) hs).mono ?_
    rintro e w4 ⟨rfl, hp, ho⟩
    have S4 := hidden (S3.out.only ho hp)
    clear hp ho hs
    go_wp2_with fail
    cases hs : isS [61] (tk c.ts (i + 1 + 1)) with
    | false =>
     refine (must_no S4.out.ps (by omega) [61] (by decide) hs).mono ?_
     rintro e w' ⟨rfl, ho⟩
     exact ⟨rfl, S4.out.stop ho (ex_mustN E4.out hs)⟩
    | true =>
     have t5 := isS_in hs
     have E5 := hidden (ex_must E4.out hs)
     refine (must_yes S4.out.ps [61] (by decide) hs).mono ?_
     rintro e w5 ⟨rfl, hp, ho⟩
     have S5 := hidden (S4.out.only ho hp)
     clear hp ho hs
     have rc : Rule c 75 (.con 207) (i + 1 + 1 + 1) := ih (.con 207) _ (by omega) (by omega)
     go_wp2_with fail
     have HX := hidden (m_def (p := i) (S := (tk c.ts (i + 1)).S) S5.out.ps (by omega) rc (fun n j h1 h2 => ih n j (by omega) h2) E5.out)
     clear rc
     refine HX.out.mono ?_
     clear HX
     intro e w6 hg
     cases hR : R with
     | error m =>
      rw [hR] at hg
      obtain ⟨rfl, ho⟩ := hg
      exact ⟨rfl, S5.out.stop ho hR⟩
     | ok xj =>
      obtain ⟨x6, j6⟩ := xj
      rw [hR] at hg
      obtain ⟨ao6, cp6, rfl, hl, hp, ho⟩ := hg
      have X6 := hidden (Has.of hl S5.out)
      have hsh := def_shape (hR.symm.trans E5.out)
      have HR := hidden hR
      have S6 := hidden (S5.out.only ho hp)
      clear hl hp ho hR
      obtain ⟨z0, z1, z2, z3, z4, zf⟩ := S6.out.zc
      have zl := S6.out.size
      have zn := Nat.ne_of_lt zl
      go_wp2_with fail
      refine bodyPost_ret (results_cell_row rfl _ _ w.heap.size 25 #[.int .i64 x6.kind, .int .i64 (c.pl i), .int .i64 0, .string ⟨(tk c.ts (i + 1)).S.toArray⟩, .slice ao6 x6.L.length cp6] (0, 0) _ rfl (S6.out.rowA _ _ _ _ _ _) Tryz.underlying25 rfl (by kernel_rfl)) rfl ?_
      obtain ⟨a1, a2, a3⟩ := hsh
      have hx : x6 = .mk x6.kind i 0 (tk c.ts (i + 1)).S x6.L := by have h9 := PI.eta x6; rw [a1, a2, a3] at h9; exact h9
      exact S6.out.retA (x := .mk x6.kind i 0 (tk c.ts (i + 1)).S x6.L) X6.out _ (by rw [← hx]; exact HR.out) rfl
  | false =>
   have E1_1 := hidden (ex_skipN E1_0.out hs1)
   have z1_1 := signT_no hs1 (by decide)
   clear hs1
   cases hs2 : isS [101, 120, 99, 101, 112, 116, 105, 111, 110] (tk c.ts (i)) with
   | true =>
    have hb := sign8 S0.out.ps (by omega)
    rw [signT_is hs2] at hb
    have t1 := isS_in hs2
    refine hb.mono ?_
    clear hb
    rintro e w1 ⟨rfl, hb⟩
    have S1 := hidden (S0.out.below hb)
    clear hb
    have E8 := hidden (ex_must E1_1.out hs2)
    have hlt := isS_in hs2
    clear hs2
    go_wp2_with fail
    refine (take8 S1.out.ps (by omega)).mono ?_
    rintro e w7 ⟨rfl, hp, ho⟩
    have S7 := hidden (S1.out.only ho hp)
    clear hp ho
    have E9 : Hid (R = (match reads c.ts (.con 207) (i + 1) with | .error m => .error m | .ok (x, j) => .ok (.mk 210 i x.N x.S x.L, j))) := con_at (by omega) E8.out
    go_wp2_with fail
    refine ((ih (.con 207) (i + 1) (by omega) (by omega) : Rule c 75 (.con 207) (i + 1)) _ S7.out.ps).mono ?_
    intro e w8 hg
    cases hx : reads c.ts (.con 207) (i + 1) with
    | error m =>
     rw [hx] at hg
     obtain ⟨rfl, ho⟩ := hg
     exact ⟨rfl, S7.out.stop ho (ml_err E9.out hx)⟩
    | ok xj =>
     obtain ⟨x8, j8⟩ := xj
     have f8 := reads_fine (ts := c.ts) (.con 207) (i := i + 1) (by omega)
     rw [hx] at hg f8
     obtain ⟨ao8, cp8, rfl, hl, hp, ho⟩ := hg
     have E8 := hidden (ml_ok (f := fun x j => .ok (.mk 210 i x.N x.S x.L, j)) E9.out hx)
     have b8 : j8 ≤ c.ts.length := f8.2.1
     have a8 : i + 1 < j8 := f8.2.2 _ _ rfl rfl
     have X8 := hidden (Has.of hl S7.out)
     have S8 := hidden (S7.out.only ho hp)
     clear hl hp ho hx f8
     obtain ⟨z0, z1, z2, z3, z4, zf⟩ := S8.out.zc
     have zl := S8.out.size
     have zn := Nat.ne_of_lt zl
     go_wp2_with fail
     refine bodyPost_ret (results_cell_row rfl _ _ w.heap.size 25 #[.int .i64 210, .int .i64 (c.pl i), .int .i64 x8.N, .string ⟨x8.S.toArray⟩, .slice ao8 x8.L.length cp8] (0, 0) _ rfl (S8.out.rowA _ _ _ _ _ _) Tryz.underlying25 rfl (by kernel_rfl)) rfl ?_
     exact S8.out.retA (x := .mk 210 i x8.N x8.S x8.L) X8.out _ E8.out rfl
   | false =>
    have HF0 := hidden hs2
    have z1_2 := signT_no hs2 (by decide)
    clear hs2
    have hb := sign8 S0.out.ps (by omega)
    refine hb.mono ?_
    clear hb
    rintro e w1 ⟨rfl, hb⟩
    have S1 := hidden (S0.out.below hb)
    clear hb
    generalize (⟨(signT (tk c.ts (i))).toArray⟩ : ByteArray) = sv1 at *
    go_wp2_with fail
    refine (giveUp8 S1.out.ps (by omega)).mono ?_
    rintro e w' ⟨rfl, ho⟩
    exact ⟨rfl, S1.out.stop ho (ex_mustN E1_1.out HF0.out)⟩
end
end Go.Proofs.YthjmakjhidjbaaaGreat
