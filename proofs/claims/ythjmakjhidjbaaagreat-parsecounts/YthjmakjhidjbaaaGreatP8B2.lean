/-
 Layer 8, the program's parser: rules' methods. Condition: the rules that they are made of do as the grammar says.
-/
import Derived.Test.YthjmakjhidjbaaaGreatLibAF
namespace Go.Proofs.YthjmakjhidjbaaaGreat
open Go.ChangeShapes Go.WideShapes Go.ChangeAt Go.RowKit Go.Deep
set_option linter.unusedVariables false
set_option linter.unusedSimpArgs false
set_option maxHeartbeats 2000000
set_option maxRecDepth 20000
attribute [local go_sem ↓] Go.wp_at_zero Go.wp_at_succ

section
variable {c : PC} {w : World} {i : Nat}
theorem m_function {R : Res} (h : PS c w i) {p : Nat} {sg : List UInt8} (hsg : sg ≠ []) (hi : i ≤ c.ts.length) (hP : Rule c 123 .patom i) (ih : Beh c i) (hE : R = exec c.ts (reads c.ts) (.call .patoms fun r => (fun l => .must sg (.call .seq fun x => .ret (.mk 17 p 0 [] (l ++ [x])))) r.L) (i)) : Calls Tryz.prog 110 #[.pointer (some ⟨c.b, 0, none⟩), .int .i64 (c.pl p), .string ⟨sg.toArray⟩] w fun e w' => Got8 c R w e w' := by
 have E0 := hidden hE
 have S0 := hidden (St.new h)
 have fl0 := fld1
 clear h hE
 go_enter Tryz.func110, Tryz.ntmps110
 have E00 := hidden (ex_open (C := fun l => .must sg (.call .seq fun x => .ret (.mk 17 p 0 [] (l ++ [x])))) rfl hi E0.out)
 go_wp2_with fail
 refine (hP _ S0.out.ps).mono ?_
 intro e w1 hg
 cases hx : reads c.ts .patom (i) with
 | error m =>
  rw [hx] at hg
  obtain ⟨rfl, ho⟩ := hg
  exact ⟨rfl, S0.out.stop ho (ex_err E00.out hx)⟩
 | ok xj =>
  obtain ⟨x1, j1⟩ := xj
  have f1 := reads_fine (ts := c.ts) .patom (i := i) (by omega)
  rw [hx] at hg f1
  obtain ⟨ao1, cp1, rfl, hl, hp, ho⟩ := hg
  have E1 := hidden (ex_ok E00.out hx)
  have b1 : j1 ≤ c.ts.length := f1.2.1
  have a1 : i < j1 := f1.2.2 _ _ rfl rfl
  have X1 := hidden (Has.of hl S0.out)
  have S1 := hidden (S0.out.only ho hp)
  clear hl hp ho hx f1
  have M2 := hidden (Mk.first S1.out cp1 X1.out 17 (c.pl p) 0 ⟨#[]⟩)
  go_wp2_with fail
  go_loopg [] (c.ts.length + 1 - (j1)) (fun gk wr => InM c w (i + 1) R .patomsR (fun l => .must sg (.call .seq fun x => .ret (.mk 17 p 0 [] (l ++ [x])))) (w1.heap.size + 1) 17 (c.pl p) 0 ⟨#[]⟩ gk wr)
  case atStart => exact ⟨_, _, _, _, _, by omega, by omega, (by simp; omega), rfl, M2.out, E1.out⟩
  case round =>
   obtain ⟨k3, ao3, n3, cp3, L3, kb3, ka3, kl3, kg3, hm, hE⟩ := hrel
   have M3 := hidden hm
   have E3 := hidden hE
   clear hm hE
   go_wp2_with fail
   have hb := begPatom M3.out.st.ps (by omega)
   cases hs : patomAhead (tk c.ts (k3)) with
   | true =>
    rw [hs] at hb
    have E4 := hidden (tail_test (T := .patomsR) (C := fun l => .must sg (.call .seq fun x => .ret (.mk 17 p 0 [] (l ++ [x])))) (acc := L3.map ND.t) rfl kb3 E3.out hs)
    refine hb.mono ?_
    clear hb
    rintro e w4 ⟨rfl, hb⟩
    have M4 := hidden (M3.out.below hb)
    clear hb hs
    go_wp2_with fail
    refine region_till (S := (fun w' => w'.cell? ⟨(w1.heap.size + 1), 4, none⟩ = some (.slice ao3 n3 cp3))) (kz := 7) (by kernel_rfl) M4.out.cell (fun hHeld => ?_)
    refine AnyTill.tk (i := 0) (v := ?_) hHeld ?_ ?_
    rotate_left
    ·(intro w hSw; (try dsimp only at hSw); go_simp; (try with_reducible rfl))
    (try simp only [Act.put, q4, q5, q6, q1, q2, q3])
    refine AnyTill.tk (i := 1) (v := ?_) hHeld ?_ ?_
    rotate_left
    ·(intro w hSw; (try dsimp only at hSw); go_simp; (try with_reducible rfl))
    (try simp only [Act.put, q4, q5, q6, q1, q2, q3])
    refine AnyTill.tk (i := 2) (v := ?_) hHeld ?_ ?_
    rotate_left
    ·(intro w hSw; (try dsimp only at hSw); go_simp; (try with_reducible rfl))
    (try simp only [Act.put, q4, q5, q6, q1, q2, q3])
    refine AnyTill.one (i := 3) (by kernel_rfl) rfl (fun K hK => ?_)
    (try simp only [q1, q2, q3])
    go_simp
    refine ((ih .patom (k3) (by omega) (by omega) : Rule c 123 .patom (k3)) _ (M4.out.drew).st.ps).mono ?_
    intro e w5 hg
    cases hx : reads c.ts .patom (k3) with
    | error m =>
     rw [hx] at hg
     obtain ⟨rfl, ho⟩ := hg
     exact ⟨rfl, (M4.out.drew).st.stop ho (ex_err E4.out hx)⟩
    | ok xj =>
     obtain ⟨x5, j5⟩ := xj
     have f5 := reads_fine (ts := c.ts) .patom (i := k3) (by omega)
     rw [hx] at hg f5
     obtain ⟨ao5, cp5, rfl, hl, hp, ho⟩ := hg
     have E5 := hidden (ex_ok E4.out hx)
     have b5 : j5 ≤ c.ts.length := f5.2.1
     have a5 : k3 < j5 := f5.2.2 _ _ rfl rfl
     have X5 := hidden ((M4.out.drew).fresh hl)
     have M5 := hidden ((M4.out.drew).only ho hp)
     clear hl hp ho hx f5
     refine hK.out _ _ (fun _ => M5.out.cell) ?_
     clear hHeld
     clear hK K
     (try simp only [Act.put, q4, q5, q6, q1, q2, q3])
     refine AnyTill.one (i := 4) (by kernel_rfl) rfl (fun K hK => ?_)
     (try simp only [q1, q2, q3])
     go_simp
     refine hK.out _ _ (fun _ => (M5.out.alloc _).cell) ?_
     clear hK K
     (try simp only [Act.put, q4, q5, q6, q1, q2, q3])
     refine AnyTill.one (i := 5) (by kernel_rfl) rfl (fun K hK => ?_)
     refine step_nodes rfl (.tmp 16) (.tmp 19) rfl (.slice ao3 n3 cp3) L3 [⟨x5, ao5, cp5⟩] (by simp [Act.eval]) (M5.out.alloc _).v (by have := (M5.out.alloc (.cells #[.int .i64 x5.kind, .int .i64 (c.pl x5.pl), .int .i64 x5.N, .string ⟨x5.S.toArray⟩, .slice ao5 x5.L.length cp5] 25)).n.lt; omega) w5.heap.size 1 (by simp [Act.eval]) (news_one (blk_alloc_new _ _)) (fun d hd => by rw [List.mem_singleton.1 hd]; exact X5.out.alloc _) (by simp) (by have := c.small; have := c.tm.len; simp; omega) (by have := M5.out.st.size; rw [nblk_alloc]; omega) ?_
     intro va6 vn6 vc6 w6 hv hgr
     have N6 := hidden ((M5.out.alloc _).n.grown hgr M5.out.v.ne)
     have M6 := hidden ((M5.out.alloc _).grown hgr hv)
     obtain ⟨n0, n1, n2, n3, n4, nf⟩ := N6.out.cells
     clear hv hgr n0 n1 n2 n3
     refine hK.out _ _ (fun _ => n4) ?_
     clear hK K
     (try simp only [Act.put, q4, q5, q6, q1, q2, q3])
     refine AnyTill.one (i := 6) (by kernel_rfl) rfl (fun K hK => ?_)
     (try simp only [q1, q2, q3])
     go_simp
     refine hK.out _ _ (fun _ => n4) ?_
     clear hK K
     (try simp only [Act.put, q4, q5, q6, q1, q2, q3])
     refine AnyTill.one (i := 7) (by kernel_rfl) rfl (fun K hK => ?_)
     (try simp only [q1, q2, q3])
     go_simp
     refine hK.out _ _ (fun h => absurd rfl h) ?_
     clear n4 nf
     clear hK K
     (try simp only [Act.put, q4, q5, q6, q1, q2, q3])
     refine AnyTill.done (by kernel_rfl) ?_ _
     (try simp only [Act.put, q4, q5, q6, q1, q2, q3])
     go_wp2_with fail
     go_roundg (c.ts.length + 1 - (j5))
     case rel => exact ⟨_, _, _, _, _, by omega, by omega, by simp; omega, rfl, M6.out, by rw [List.map_append]; exact E5.out⟩
     case measure => omega
   | false =>
    rw [hs] at hb
    have E4 := hidden (tail_testN (T := .patomsR) (C := fun l => .must sg (.call .seq fun x => .ret (.mk 17 p 0 [] (l ++ [x])))) (acc := L3.map ND.t) rfl kb3 E3.out hs)
    refine hb.mono ?_
    clear hb
    rintro e w4 ⟨rfl, hb⟩
    have M4 := hidden (M3.out.below hb)
    clear hb hs
    go_wp2_with fail
    cases hs : isS sg (tk c.ts (k3)) with
    | false =>
     refine (must_no M4.out.st.ps (by omega) sg hsg hs).mono ?_
     rintro e w' ⟨rfl, ho⟩
     exact ⟨rfl, M4.out.st.stop ho (ex_mustN E4.out hs)⟩
    | true =>
     have t7 := isS_in hs
     have E7 := hidden (ex_must E4.out hs)
     refine (must_yes M4.out.st.ps sg hsg hs).mono ?_
     rintro e w7 ⟨rfl, hp, ho⟩
     have M7 := hidden (M4.out.only ho hp)
     clear hp ho hs
     go_wp2_with fail
     refine region_till (S := (fun w' => w'.cell? ⟨(w1.heap.size + 1), 4, none⟩ = some (.slice ao3 n3 cp3))) (kz := 7) (by kernel_rfl) M7.out.cell (fun hHeld => ?_)
     refine AnyTill.tk (i := 0) (v := ?_) hHeld ?_ ?_
     rotate_left
     ·(intro w hSw; (try dsimp only at hSw); go_simp; (try with_reducible rfl))
     (try simp only [Act.put, q4, q5, q6, q1, q2, q3])
     refine AnyTill.tk (i := 1) (v := ?_) hHeld ?_ ?_
     rotate_left
     ·(intro w hSw; (try dsimp only at hSw); go_simp; (try with_reducible rfl))
     (try simp only [Act.put, q4, q5, q6, q1, q2, q3])
     refine AnyTill.tk (i := 2) (v := ?_) hHeld ?_ ?_
     rotate_left
     ·(intro w hSw; (try dsimp only at hSw); go_simp; (try with_reducible rfl))
     (try simp only [Act.put, q4, q5, q6, q1, q2, q3])
     refine AnyTill.one (i := 3) (by kernel_rfl) rfl (fun K hK => ?_)
     (try simp only [q1, q2, q3])
     go_simp
     refine ((ih .seq (k3 + 1) (by omega) (by omega) : Rule c 111 .seq (k3 + 1)) _ (M7.out.drew).st.ps).mono ?_
     intro e w8 hg
     cases hx : reads c.ts .seq (k3 + 1) with
     | error m =>
      rw [hx] at hg
      obtain ⟨rfl, ho⟩ := hg
      exact ⟨rfl, (M7.out.drew).st.stop ho (ex_err E7.out hx)⟩
     | ok xj =>
      obtain ⟨x8, j8⟩ := xj
      have f8 := reads_fine (ts := c.ts) .seq (i := k3 + 1) (by omega)
      rw [hx] at hg f8
      obtain ⟨ao8, cp8, rfl, hl, hp, ho⟩ := hg
      have E8 := hidden (ex_ok E7.out hx)
      have b8 : j8 ≤ c.ts.length := f8.2.1
      have a8 : k3 + 1 < j8 := f8.2.2 _ _ rfl rfl
      have X8 := hidden ((M7.out.drew).fresh hl)
      have M8 := hidden ((M7.out.drew).only ho hp)
      clear hl hp ho hx f8
      refine hK.out _ _ (fun _ => M8.out.cell) ?_
      clear hHeld
      clear hK K
      (try simp only [Act.put, q4, q5, q6, q1, q2, q3])
      refine AnyTill.one (i := 4) (by kernel_rfl) rfl (fun K hK => ?_)
      (try simp only [q1, q2, q3])
      go_simp
      refine hK.out _ _ (fun _ => (M8.out.alloc _).cell) ?_
      clear hK K
      (try simp only [Act.put, q4, q5, q6, q1, q2, q3])
      refine AnyTill.one (i := 5) (by kernel_rfl) rfl (fun K hK => ?_)
      refine step_nodes rfl (.tmp 26) (.tmp 29) rfl (.slice ao3 n3 cp3) L3 [⟨x8, ao8, cp8⟩] (by simp [Act.eval]) (M8.out.alloc _).v (by have := (M8.out.alloc (.cells #[.int .i64 x8.kind, .int .i64 (c.pl x8.pl), .int .i64 x8.N, .string ⟨x8.S.toArray⟩, .slice ao8 x8.L.length cp8] 25)).n.lt; omega) w8.heap.size 1 (by simp [Act.eval]) (news_one (blk_alloc_new _ _)) (fun d hd => by rw [List.mem_singleton.1 hd]; exact X8.out.alloc _) (by simp) (by have := c.small; have := c.tm.len; simp; omega) (by have := M8.out.st.size; rw [nblk_alloc]; omega) ?_
      intro va9 vn9 vc9 w9 hv hgr
      have N9 := hidden ((M8.out.alloc _).n.grown hgr M8.out.v.ne)
      have M9 := hidden ((M8.out.alloc _).grown hgr hv)
      obtain ⟨n0, n1, n2, n3, n4, nf⟩ := N9.out.cells
      clear hv hgr n0 n1 n2 n3
      refine hK.out _ _ (fun _ => n4) ?_
      clear hK K
      (try simp only [Act.put, q4, q5, q6, q1, q2, q3])
      refine AnyTill.one (i := 6) (by kernel_rfl) rfl (fun K hK => ?_)
      (try simp only [q1, q2, q3])
      go_simp
      refine hK.out _ _ (fun _ => n4) ?_
      clear hK K
      (try simp only [Act.put, q4, q5, q6, q1, q2, q3])
      refine AnyTill.one (i := 7) (by kernel_rfl) rfl (fun K hK => ?_)
      (try simp only [q1, q2, q3])
      go_simp
      refine hK.out _ _ (fun h => absurd rfl h) ?_
      clear n4 nf
      clear hK K
      (try simp only [Act.put, q4, q5, q6, q1, q2, q3])
      refine AnyTill.done (by kernel_rfl) ?_ _
      (try simp only [Act.put, q4, q5, q6, q1, q2, q3])
      obtain ⟨W, hW⟩ : ∃ W, (w9.setCell ⟨(w1.heap.size + 1), 4, none⟩ (.slice va9 vn9 vc9)) = W := ⟨_, rfl⟩
      have MW : Hid (Mk c w W _ _ _ _ _ _ _ _) := hidden (hW ▸ M9.out)
      rw [hW]
      clear hW
      obtain ⟨y0, y1, y2, y3, y4, yf⟩ := MW.out.n.cells
      obtain ⟨z0, z1, z2, z3, z4, zf⟩ := MW.out.st.zc
      clear yf
      go_wp2_with fail
      refine bodyPost_ret (results_cell_row rfl _ _ w.heap.size 25 #[.int .i64 17, .int .i64 (c.pl p), .int .i64 0, .string ⟨[].toArray⟩, (.slice va9 vn9 vc9)] (0, 0) _ rfl (MW.out.st.row _ _ _ _ _) Tryz.underlying25 rfl (by kernel_rfl)) rfl ?_
      exact MW.out.ret (s := []) (by rw [List.map_append]; exact E8.out) rfl
theorem m_con {R : Res} (h : PS c w i) (hi : i ≤ c.ts.length) (ih : Beh c i) (hE : R = exec c.ts (reads c.ts) (.token 4 fun t => .skip [111, 102] (.call .ty fun x => .ret (.mk 207 i 0 t.S [x])) (.ret (.mk 207 i 0 t.S []))) (i)) : Calls Tryz.prog 75 #[.pointer (some ⟨c.b, 0, none⟩)] w fun e w' => Got8 c R w e w' := by
 have E0 := hidden hE
 have S0 := hidden (St.new h)
 have fl0 := fld1
 have fl1 := fld3
 clear h hE
 go_enter Tryz.func75, Tryz.ntmps75
 go_wp2_with fail
 refine (next_any S0.out.ps (by omega)).mono ?_
 rintro e w1 ⟨rfl, hb⟩
 have S1 := hidden (S0.out.below hb)
 clear hb
 go_wp2_with fail
 cases hs : isK 4 (tk c.ts (i)) with
 | false =>
  refine (mustBe_no S1.out.ps (by omega) 4 hs).mono ?_
  rintro e w' ⟨rfl, ho⟩
  exact ⟨rfl, S1.out.stop ho (ex_tokenN E0.out hs)⟩
 | true =>
  have t2 := isK_in hs (by decide)
  have E2 := hidden (ex_token E0.out hs (by decide))
  refine (mustBe_yes S1.out.ps 4 (by decide) hs).mono ?_
  rintro e w2 ⟨rfl, hp, ho⟩
  have S2 := hidden (S1.out.only ho hp)
  clear hp ho hs
  have M3 := hidden (Mk.zero S2.out 207 (c.pl i) 0 ⟨(tk c.ts i).S.toArray⟩)
  go_wp2_with fail
  cases hs : isS [111, 102] (tk c.ts (i + 1)) with
  | true =>
   have t4 := isS_in hs
   have E4 := hidden (ex_skip E2.out hs)
   refine (has_yes M3.out.st.ps [111, 102] (by decide) hs).mono ?_
   rintro e w4 ⟨rfl, hp, ho⟩
   have M4 := hidden (M3.out.only ho hp)
   clear hp ho hs
   go_wp2_with fail
   refine ((ih .ty (i + 1 + 1) (by omega) (by omega) : Rule c 96 .ty (i + 1 + 1)) _ M4.out.st.ps).mono ?_
   intro e w5 hg
   cases hx : reads c.ts .ty (i + 1 + 1) with
   | error m =>
    rw [hx] at hg
    obtain ⟨rfl, ho⟩ := hg
    exact ⟨rfl, M4.out.st.stop ho (ex_err E4.out hx)⟩
   | ok xj =>
    obtain ⟨x5, j5⟩ := xj
    have f5 := reads_fine (ts := c.ts) .ty (i := i + 1 + 1) (by omega)
    rw [hx] at hg f5
    obtain ⟨ao5, cp5, rfl, hl, hp, ho⟩ := hg
    have E5 := hidden (ex_ok E4.out hx)
    have b5 : j5 ≤ c.ts.length := f5.2.1
    have a5 : i + 1 + 1 < j5 := f5.2.2 _ _ rfl rfl
    have X5 := hidden (M4.out.fresh hl)
    have M5 := hidden (M4.out.only ho hp)
    clear hl hp ho hx f5
    obtain ⟨y0, y1, y2, y3, y4, yf⟩ := M5.out.n.cells
    have yl := M5.out.n.lt
    have yn := Nat.ne_of_lt yl
    obtain ⟨z0, z1, z2, z3, z4, zf⟩ := M5.out.st.zc
    have zl := M5.out.st.size
    have zn := Nat.ne_of_lt zl
    have zq := M5.out.hq
    have zq2 := Nat.ne_of_lt zq
    have zq3 := (Nat.ne_of_lt zq).symm
    go_wp2_with fail
    refine bodyPost_ret (results_cell_row rfl _ _ w.heap.size 25 #[.int .i64 207, .int .i64 (c.pl i), .int .i64 0, .string ⟨(tk c.ts i).S.toArray⟩, .slice (some ⟨w5.heap.size, 0, none⟩) 1 1] (0, 0) _ rfl (M5.out.row1 _ _ _ _ _ _ _) Tryz.underlying25 rfl (by kernel_rfl)) rfl ?_
    exact M5.out.ret1 (s := (tk c.ts i).S) X5.out (E5.out) rfl
  | false =>
   have E4 := hidden (ex_skipN E2.out hs)
   refine (has_no M3.out.st.ps (by omega) [111, 102] (by decide) hs).mono ?_
   rintro e w4 ⟨rfl, hb⟩
   have M4 := hidden (M3.out.below hb)
   clear hb hs
   obtain ⟨y0, y1, y2, y3, y4, yf⟩ := M4.out.n.cells
   obtain ⟨z0, z1, z2, z3, z4, zf⟩ := M4.out.st.zc
   clear yf
   go_wp2_with fail
   refine bodyPost_ret (results_cell_row rfl _ _ w.heap.size 25 #[.int .i64 207, .int .i64 (c.pl i), .int .i64 0, .string ⟨(tk c.ts i).S.toArray⟩, (.slice none 0 0)] (0, 0) _ rfl (M4.out.st.row _ _ _ _ _) Tryz.underlying25 rfl (by kernel_rfl)) rfl ?_
   exact M4.out.ret (s := (tk c.ts i).S) (E4.out) rfl
theorem m_lab {R : Res} (h : PS c w i) (hi : i ≤ c.ts.length) (ih : Beh c i) (hE : R = exec c.ts (reads c.ts) (.test (isS [109, 117, 116, 97, 98, 108, 101]) (.eat fun _ => .token 3 fun t => .must [58] (.call .ty fun x => .ret (.mk 209 i 1 t.S [x]))) (.token 3 fun t => .must [58] (.call .ty fun x => .ret (.mk 209 i 0 t.S [x])))) (i)) : Calls Tryz.prog 95 #[.pointer (some ⟨c.b, 0, none⟩)] w fun e w' => Got8 c R w e w' := by
 have E0 := hidden hE
 have S0 := hidden (St.new h)
 have fl0 := fld1
 have fl1 := fld3
 clear h hE
 go_enter Tryz.func95, Tryz.ntmps95
 go_wp2_with fail
 refine (next_any S0.out.ps (by omega)).mono ?_
 rintro e w1 ⟨rfl, hb⟩
 have S1 := hidden (S0.out.below hb)
 clear hb
 have M2 := hidden (Mk.zero S1.out 209 (c.pl i) 0 ⟨#[]⟩)
 go_wp2_with fail
 cases hs : isS [109, 117, 116, 97, 98, 108, 101] (tk c.ts (i)) with
 | true =>
  have t3 := isS_in hs
  have E3 := hidden (ex_skip E0.out hs)
  refine (has_yes M2.out.st.ps [109, 117, 116, 97, 98, 108, 101] (by decide) hs).mono ?_
  rintro e w3 ⟨rfl, hp, ho⟩
  have M3 := hidden (M2.out.only ho hp)
  clear hp ho hs
  obtain ⟨y0, y1, y2, y3, y4, yf⟩ := M3.out.n.cells
  have yl := M3.out.n.lt
  have yn := Nat.ne_of_lt yl
  go_wp2_with fail
  clear y0 y1 y2 y3 y4 yf yl yn
  cases hs : isK 3 (tk c.ts (i + 1)) with
  | false =>
   refine (mustBe_no (M3.out.setN 1).st.ps (by omega) 3 hs).mono ?_
   rintro e w' ⟨rfl, ho⟩
   exact ⟨rfl, (M3.out.setN 1).st.stop ho (ex_tokenN E3.out hs)⟩
  | true =>
   have t4 := isK_in hs (by decide)
   have E4 := hidden (ex_token E3.out hs (by decide))
   refine (mustBe_yes (M3.out.setN 1).st.ps 3 (by decide) hs).mono ?_
   rintro e w4 ⟨rfl, hp, ho⟩
   have M4 := hidden ((M3.out.setN 1).only ho hp)
   clear hp ho hs
   obtain ⟨y0, y1, y2, y3, y4, yf⟩ := M4.out.n.cells
   have yl := M4.out.n.lt
   have yn := Nat.ne_of_lt yl
   go_wp2_with fail
   clear y0 y1 y2 y3 y4 yf yl yn
   cases hs : isS [58] (tk c.ts (i + 1 + 1)) with
   | false =>
    refine (must_no (M4.out.setS ⟨(tk c.ts (i + 1)).S.toArray⟩).st.ps (by omega) [58] (by decide) hs).mono ?_
    rintro e w' ⟨rfl, ho⟩
    exact ⟨rfl, (M4.out.setS ⟨(tk c.ts (i + 1)).S.toArray⟩).st.stop ho (ex_mustN E4.out hs)⟩
   | true =>
    have t5 := isS_in hs
    have E5 := hidden (ex_must E4.out hs)
    refine (must_yes (M4.out.setS ⟨(tk c.ts (i + 1)).S.toArray⟩).st.ps [58] (by decide) hs).mono ?_
    rintro e w5 ⟨rfl, hp, ho⟩
    have M5 := hidden ((M4.out.setS ⟨(tk c.ts (i + 1)).S.toArray⟩).only ho hp)
    clear hp ho hs
    go_wp2_with fail
    refine ((ih .ty (i + 1 + 1 + 1) (by omega) (by omega) : Rule c 96 .ty (i + 1 + 1 + 1)) _ M5.out.st.ps).mono ?_
    intro e w6 hg
    cases hx : reads c.ts .ty (i + 1 + 1 + 1) with
    | error m =>
     rw [hx] at hg
     obtain ⟨rfl, ho⟩ := hg
     exact ⟨rfl, M5.out.st.stop ho (ex_err E5.out hx)⟩
    | ok xj =>
     obtain ⟨x6, j6⟩ := xj
     have f6 := reads_fine (ts := c.ts) .ty (i := i + 1 + 1 + 1) (by omega)
     rw [hx] at hg f6
     obtain ⟨ao6, cp6, rfl, hl, hp, ho⟩ := hg
     have E6 := hidden (ex_ok E5.out hx)
     have b6 : j6 ≤ c.ts.length := f6.2.1
     have a6 : i + 1 + 1 + 1 < j6 := f6.2.2 _ _ rfl rfl
     have X6 := hidden (M5.out.fresh hl)
     have M6 := hidden (M5.out.only ho hp)
     clear hl hp ho hx f6
     obtain ⟨y0, y1, y2, y3, y4, yf⟩ := M6.out.n.cells
     have yl := M6.out.n.lt
     have yn := Nat.ne_of_lt yl
     obtain ⟨z0, z1, z2, z3, z4, zf⟩ := M6.out.st.zc
     have zl := M6.out.st.size
     have zn := Nat.ne_of_lt zl
     have zq := M6.out.hq
     have zq2 := Nat.ne_of_lt zq
     have zq3 := (Nat.ne_of_lt zq).symm
     go_wp2_with fail
     refine bodyPost_ret (results_cell_row rfl _ _ w.heap.size 25 #[.int .i64 209, .int .i64 (c.pl i), .int .i64 1, .string ⟨(tk c.ts (i + 1)).S.toArray⟩, .slice (some ⟨w6.heap.size, 0, none⟩) 1 1] (0, 0) _ rfl (M6.out.row1 _ _ _ _ _ _ _) Tryz.underlying25 rfl (by kernel_rfl)) rfl ?_
     exact M6.out.ret1 (s := (tk c.ts (i + 1)).S) X6.out (E6.out) rfl
 | false =>
  have E3 := hidden (ex_skipN E0.out hs)
  refine (has_no M2.out.st.ps (by omega) [109, 117, 116, 97, 98, 108, 101] (by decide) hs).mono ?_
  rintro e w3 ⟨rfl, hb⟩
  have M3 := hidden (M2.out.below hb)
  clear hb hs
  go_wp2_with fail
  cases hs : isK 3 (tk c.ts (i)) with
  | false =>
   refine (mustBe_no M3.out.st.ps (by omega) 3 hs).mono ?_
   rintro e w' ⟨rfl, ho⟩
   exact ⟨rfl, M3.out.st.stop ho (ex_tokenN E3.out hs)⟩
  | true =>
   have t7 := isK_in hs (by decide)
   have E7 := hidden (ex_token E3.out hs (by decide))
   refine (mustBe_yes M3.out.st.ps 3 (by decide) hs).mono ?_
   rintro e w7 ⟨rfl, hp, ho⟩
   have M7 := hidden (M3.out.only ho hp)
   clear hp ho hs
   obtain ⟨y0, y1, y2, y3, y4, yf⟩ := M7.out.n.cells
   have yl := M7.out.n.lt
   have yn := Nat.ne_of_lt yl
   go_wp2_with fail
   clear y0 y1 y2 y3 y4 yf yl yn
   cases hs : isS [58] (tk c.ts (i + 1)) with
   | false =>
    refine (must_no (M7.out.setS ⟨(tk c.ts (i)).S.toArray⟩).st.ps (by omega) [58] (by decide) hs).mono ?_
    rintro e w' ⟨rfl, ho⟩
    exact ⟨rfl, (M7.out.setS ⟨(tk c.ts (i)).S.toArray⟩).st.stop ho (ex_mustN E7.out hs)⟩
   | true =>
    have t8 := isS_in hs
    have E8 := hidden (ex_must E7.out hs)
    refine (must_yes (M7.out.setS ⟨(tk c.ts (i)).S.toArray⟩).st.ps [58] (by decide) hs).mono ?_
    rintro e w8 ⟨rfl, hp, ho⟩
    have M8 := hidden ((M7.out.setS ⟨(tk c.ts (i)).S.toArray⟩).only ho hp)
    clear hp ho hs
    go_wp2_with fail
    refine ((ih .ty (i + 1 + 1) (by omega) (by omega) : Rule c 96 .ty (i + 1 + 1)) _ M8.out.st.ps).mono ?_
    intro e w9 hg
    cases hx : reads c.ts .ty (i + 1 + 1) with
    | error m =>
     rw [hx] at hg
     obtain ⟨rfl, ho⟩ := hg
     exact ⟨rfl, M8.out.st.stop ho (ex_err E8.out hx)⟩
    | ok xj =>
     obtain ⟨x9, j9⟩ := xj
     have f9 := reads_fine (ts := c.ts) .ty (i := i + 1 + 1) (by omega)
     rw [hx] at hg f9
     obtain ⟨ao9, cp9, rfl, hl, hp, ho⟩ := hg
     have E9 := hidden (ex_ok E8.out hx)
     have b9 : j9 ≤ c.ts.length := f9.2.1
     have a9 : i + 1 + 1 < j9 := f9.2.2 _ _ rfl rfl
     have X9 := hidden (M8.out.fresh hl)
     have M9 := hidden (M8.out.only ho hp)
     clear hl hp ho hx f9
     obtain ⟨y0, y1, y2, y3, y4, yf⟩ := M9.out.n.cells
     have yl := M9.out.n.lt
     have yn := Nat.ne_of_lt yl
     obtain ⟨z0, z1, z2, z3, z4, zf⟩ := M9.out.st.zc
     have zl := M9.out.st.size
     have zn := Nat.ne_of_lt zl
     have zq := M9.out.hq
     have zq2 := Nat.ne_of_lt zq
     have zq3 := (Nat.ne_of_lt zq).symm
     go_wp2_with fail
     refine bodyPost_ret (results_cell_row rfl _ _ w.heap.size 25 #[.int .i64 209, .int .i64 (c.pl i), .int .i64 0, .string ⟨(tk c.ts (i)).S.toArray⟩, .slice (some ⟨w9.heap.size, 0, none⟩) 1 1] (0, 0) _ rfl (M9.out.row1 _ _ _ _ _ _ _) Tryz.underlying25 rfl (by kernel_rfl)) rfl ?_
     exact M9.out.ret1 (s := (tk c.ts (i)).S) X9.out (E9.out) rfl
end
end Go.Proofs.YthjmakjhidjbaaaGreat
