/-
 Layer 8, the program's parser: rules' methods. Condition: the rules that they are made of do as the grammar says.
-/
import Derived.Test.YthjmakjhidjbaaaGreatP8St
namespace Go.Proofs.YthjmakjhidjbaaaGreat
open Go.ChangeShapes Go.WideShapes Go.ChangeAt Go.RowKit Go.Deep
set_option linter.unusedVariables false
set_option linter.unusedSimpArgs false
set_option maxHeartbeats 2000000
set_option maxRecDepth 20000
attribute [local go_sem ↓] Go.wp_at_zero Go.wp_at_succ

section
variable {c : PC} {w : World} {i : Nat}
theorem m_choice {R : Res} (h : PS c w i) (hi : i < c.ts.length) (ih : Beh c i) (hE : R = exec c.ts (reads c.ts) (.call .expr fun x => .must [116, 104, 101, 110] (.call .expr fun y => .skip [101, 108, 115, 101] (.call .expr fun z => .ret (.mk 21 i 0 [] [x, y, z])) (.ret (.mk 21 i 0 [] [x, y])))) (i + 1)) : Calls Tryz.prog 146 #[.pointer (some ⟨c.b, 0, none⟩)] w fun e w' => Got8 c R w e w' := by
 have E0 := hidden hE
 have S0 := hidden (St.new h)
 have fl0 := fld1
 clear h hE
 go_enter Tryz.func146, Tryz.ntmps146
 go_wp2_with fail
 refine (take8 S0.out.ps (by omega)).mono ?_
 rintro e w1 ⟨rfl, hp, ho⟩
 have S1 := hidden (S0.out.only ho hp)
 clear hp ho
 go_wp2_with fail
 refine ((ih .expr (i + 1) (by omega) (by omega) : Rule c 125 .expr (i + 1)) _ S1.out.ps).mono ?_
 intro e w2 hg
 cases hx : reads c.ts .expr (i + 1) with
 | error m =>
  rw [hx] at hg
  obtain ⟨rfl, ho⟩ := hg
  exact ⟨rfl, S1.out.stop ho (ex_err E0.out hx)⟩
 | ok xj =>
  obtain ⟨x2, j2⟩ := xj
  have f2 := reads_fine (ts := c.ts) .expr (i := i + 1) (by omega)
  rw [hx] at hg f2
  obtain ⟨ao2, cp2, rfl, hl, hp, ho⟩ := hg
  have E2 := hidden (ex_ok E0.out hx)
  have b2 : j2 ≤ c.ts.length := f2.2.1
  have a2 : i + 1 < j2 := f2.2.2 _ _ rfl rfl
  have X2 := hidden (Has.of hl S1.out)
  have S2 := hidden (S1.out.only ho hp)
  clear hl hp ho hx f2
  have M3 := hidden (Mk.first S2.out cp2 X2.out 21 (c.pl i) 0 ⟨#[]⟩)
  go_wp2_with fail
  cases hs : isS [116, 104, 101, 110] (tk c.ts (j2)) with
  | false =>
   refine (must_no M3.out.st.ps (by omega) [116, 104, 101, 110] (by decide) hs).mono ?_
   rintro e w' ⟨rfl, ho⟩
   exact ⟨rfl, M3.out.st.stop ho (ex_mustN E2.out hs)⟩
  | true =>
   have t4 := isS_in hs
   have E4 := hidden (ex_must E2.out hs)
   refine (must_yes M3.out.st.ps [116, 104, 101, 110] (by decide) hs).mono ?_
   rintro e w4 ⟨rfl, hp, ho⟩
   have M4 := hidden (M3.out.only ho hp)
   clear hp ho hs
   go_wp2_with fail
   refine region_till (S := (fun w' => w'.cell? ⟨(w2.heap.size + 1), 4, none⟩ = some (.slice (some ⟨w2.heap.size, 0, none⟩) 1 1))) (kz := 7) (by kernel_rfl) M4.out.cell (fun hHeld => ?_)
   refine AnyTill.tk (i := 0) (v := ?_) hHeld ?_ ?_
   rotate_left
   ·(intro w hSw; (try dsimp only at hSw); go_simp; (try with_reducible rfl))
   (try simp only [Act.put, q4, q5, q6, q1, q2, q3])
   refine AnyTill.tk (i := 1) (v := ?_) hHeld ?_ ?_
   rotate_left
   ·(intro w hSw; (try dsimp only at hSw); go_simp; (try with_reducible rfl))
   (try simp only [Act.put, q4, q5, q6, q1, q2, q3])
   refine AnyTill.tk (i := 2) (v := ?_) hHeld ?_ ?_
   rotate_left
   ·(intro w hSw; (try dsimp only at hSw); go_simp; (try with_reducible rfl))
   (try simp only [Act.put, q4, q5, q6, q1, q2, q3])
   refine AnyTill.one (i := 3) (by kernel_rfl) rfl (fun K hK => ?_)
   (try simp only [q1, q2, q3])
   go_simp
   refine ((ih .expr (j2 + 1) (by omega) (by omega) : Rule c 125 .expr (j2 + 1)) _ (M4.out.drew).st.ps).mono ?_
   intro e w5 hg
   cases hx : reads c.ts .expr (j2 + 1) with
   | error m =>
    rw [hx] at hg
    obtain ⟨rfl, ho⟩ := hg
    exact ⟨rfl, (M4.out.drew).st.stop ho (ex_err E4.out hx)⟩
   | ok xj =>
    obtain ⟨x5, j5⟩ := xj
    have f5 := reads_fine (ts := c.ts) .expr (i := j2 + 1) (by omega)
    rw [hx] at hg f5
    obtain ⟨ao5, cp5, rfl, hl, hp, ho⟩ := hg
    have E5 := hidden (ex_ok E4.out hx)
    have b5 : j5 ≤ c.ts.length := f5.2.1
    have a5 : j2 + 1 < j5 := f5.2.2 _ _ rfl rfl
    have X5 := hidden ((M4.out.drew).fresh hl)
    have M5 := hidden ((M4.out.drew).only ho hp)
    clear hl hp ho hx f5
    refine hK.out _ _ (fun _ => M5.out.cell) ?_
    clear hHeld
    clear hK K
    (try simp only [Act.put, q4, q5, q6, q1, q2, q3])
    refine AnyTill.one (i := 4) (by kernel_rfl) rfl (fun K hK => ?_)
    (try simp only [q1, q2, q3])
    go_simp
    refine hK.out _ _ (fun _ => (M5.out.alloc _).cell) ?_
    clear hK K
    (try simp only [Act.put, q4, q5, q6, q1, q2, q3])
    refine AnyTill.one (i := 5) (by kernel_rfl) rfl (fun K hK => ?_)
    refine step_nodes rfl (.tmp 14) (.tmp 17) rfl (.slice (some ⟨w2.heap.size, 0, none⟩) 1 1) ([⟨x2, ao2, cp2⟩] : List ND) [⟨x5, ao5, cp5⟩] (by simp [Act.eval]) (M5.out.alloc _).v (by have := (M5.out.alloc (.cells #[.int .i64 x5.kind, .int .i64 (c.pl x5.pl), .int .i64 x5.N, .string ⟨x5.S.toArray⟩, .slice ao5 x5.L.length cp5] 25)).n.lt; omega) w5.heap.size 1 (by simp [Act.eval]) (news_one (blk_alloc_new _ _)) (fun d hd => by rw [List.mem_singleton.1 hd]; exact X5.out.alloc _) (by simp) (by simp) (by have := M5.out.st.size; rw [nblk_alloc]; omega) ?_
    intro va6 vn6 vc6 w6 hv hgr
    have N6 := hidden ((M5.out.alloc _).n.grown hgr M5.out.v.ne)
    have M6 := hidden ((M5.out.alloc _).grown hgr hv)
    obtain ⟨n0, n1, n2, n3, n4, nf⟩ := N6.out.cells
    clear hv hgr n0 n1 n2 n3
    refine hK.out _ _ (fun _ => n4) ?_
    clear hK K
    (try simp only [Act.put, q4, q5, q6, q1, q2, q3])
    refine AnyTill.one (i := 6) (by kernel_rfl) rfl (fun K hK => ?_)
    (try simp only [q1, q2, q3])
    go_simp
    refine hK.out _ _ (fun _ => n4) ?_
    clear hK K
    (try simp only [Act.put, q4, q5, q6, q1, q2, q3])
    refine AnyTill.one (i := 7) (by kernel_rfl) rfl (fun K hK => ?_)
    (try simp only [q1, q2, q3])
    go_simp
    refine hK.out _ _ (fun h => absurd rfl h) ?_
    clear n4 nf
    clear hK K
    (try simp only [Act.put, q4, q5, q6, q1, q2, q3])
    refine AnyTill.done (by kernel_rfl) ?_ _
    (try simp only [Act.put, q4, q5, q6, q1, q2, q3])
    go_wp2_with fail
    cases hs : isS [101, 108, 115, 101] (tk c.ts (j5)) with
    | true =>
     have t7 := isS_in hs
     have E7 := hidden (ex_skip E5.out hs)
     refine (has_yes M6.out.st.ps [101, 108, 115, 101] (by decide) hs).mono ?_
     rintro e w7 ⟨rfl, hp, ho⟩
     have M7 := hidden (M6.out.only ho hp)
     clear hp ho hs
     go_wp2_with fail
     refine region_till (S := (fun w' => w'.cell? ⟨(w2.heap.size + 1), 4, none⟩ = some (.slice va6 vn6 vc6))) (kz := 7) (by kernel_rfl) M7.out.cell (fun hHeld => ?_)
     refine AnyTill.tk (i := 0) (v := ?_) hHeld ?_ ?_
     rotate_left
     ·(intro w hSw; (try dsimp only at hSw); go_simp; (try with_reducible rfl))
     (try simp only [Act.put, q4, q5, q6, q1, q2, q3])
     refine AnyTill.tk (i := 1) (v := ?_) hHeld ?_ ?_
     rotate_left
     ·(intro w hSw; (try dsimp only at hSw); go_simp; (try with_reducible rfl))
     (try simp only [Act.put, q4, q5, q6, q1, q2, q3])
     refine AnyTill.tk (i := 2) (v := ?_) hHeld ?_ ?_
     rotate_left
     ·(intro w hSw; (try dsimp only at hSw); go_simp; (try with_reducible rfl))
     (try simp only [Act.put, q4, q5, q6, q1, q2, q3])
     refine AnyTill.one (i := 3) (by kernel_rfl) rfl (fun K hK => ?_)
     (try simp only [q1, q2, q3])
     go_simp
     refine ((ih .expr (j5 + 1) (by omega) (by omega) : Rule c 125 .expr (j5 + 1)) _ (M7.out.drew).st.ps).mono ?_
     intro e w8 hg
     cases hx : reads c.ts .expr (j5 + 1) with
     | error m =>
      rw [hx] at hg
      obtain ⟨rfl, ho⟩ := hg
      exact ⟨rfl, (M7.out.drew).st.stop ho (ex_err E7.out hx)⟩
     | ok xj =>
      obtain ⟨x8, j8⟩ := xj
      have f8 := reads_fine (ts := c.ts) .expr (i := j5 + 1) (by omega)
      rw [hx] at hg f8
      obtain ⟨ao8, cp8, rfl, hl, hp, ho⟩ := hg
      have E8 := hidden (ex_ok E7.out hx)
      have b8 : j8 ≤ c.ts.length := f8.2.1
      have a8 : j5 + 1 < j8 := f8.2.2 _ _ rfl rfl
      have X8 := hidden ((M7.out.drew).fresh hl)
      have M8 := hidden ((M7.out.drew).only ho hp)
      clear hl hp ho hx f8
      refine hK.out _ _ (fun _ => M8.out.cell) ?_
      clear hHeld
      clear hK K
      (try simp only [Act.put, q4, q5, q6, q1, q2, q3])
      refine AnyTill.one (i := 4) (by kernel_rfl) rfl (fun K hK => ?_)
      (try simp only [q1, q2, q3])
      go_simp
      refine hK.out _ _ (fun _ => (M8.out.alloc _).cell) ?_
      clear hK K
      (try simp only [Act.put, q4, q5, q6, q1, q2, q3])
      refine AnyTill.one (i := 5) (by kernel_rfl) rfl (fun K hK => ?_)
      refine step_nodes rfl (.tmp 23) (.tmp 26) rfl (.slice va6 vn6 vc6) (([⟨x2, ao2, cp2⟩] : List ND) ++ [⟨x5, ao5, cp5⟩]) [⟨x8, ao8, cp8⟩] (by simp [Act.eval]) (M8.out.alloc _).v (by have := (M8.out.alloc (.cells #[.int .i64 x8.kind, .int .i64 (c.pl x8.pl), .int .i64 x8.N, .string ⟨x8.S.toArray⟩, .slice ao8 x8.L.length cp8] 25)).n.lt; omega) w8.heap.size 1 (by simp [Act.eval]) (news_one (blk_alloc_new _ _)) (fun d hd => by rw [List.mem_singleton.1 hd]; exact X8.out.alloc _) (by simp) (by simp) (by have := M8.out.st.size; rw [nblk_alloc]; omega) ?_
      intro va9 vn9 vc9 w9 hv hgr
      have N9 := hidden ((M8.out.alloc _).n.grown hgr M8.out.v.ne)
      have M9 := hidden ((M8.out.alloc _).grown hgr hv)
      obtain ⟨n0, n1, n2, n3, n4, nf⟩ := N9.out.cells
      clear hv hgr n0 n1 n2 n3
      refine hK.out _ _ (fun _ => n4) ?_
      clear hK K
      (try simp only [Act.put, q4, q5, q6, q1, q2, q3])
      refine AnyTill.one (i := 6) (by kernel_rfl) rfl (fun K hK => ?_)
      (try simp only [q1, q2, q3])
      go_simp
      refine hK.out _ _ (fun _ => n4) ?_
      clear hK K
      (try simp only [Act.put, q4, q5, q6, q1, q2, q3])
      refine AnyTill.one (i := 7) (by kernel_rfl) rfl (fun K hK => ?_)
      (try simp only [q1, q2, q3])
      go_simp
      refine hK.out _ _ (fun h => absurd rfl h) ?_
      clear n4 nf
      clear hK K
      (try simp only [Act.put, q4, q5, q6, q1, q2, q3])
      refine AnyTill.done (by kernel_rfl) ?_ _
      (try simp only [Act.put, q4, q5, q6, q1, q2, q3])
      obtain ⟨W, hW⟩ : ∃ W, (w9.setCell ⟨(w2.heap.size + 1), 4, none⟩ (.slice va9 vn9 vc9)) = W := ⟨_, rfl⟩
      have MW : Hid (Mk c w W _ _ _ _ _ _ _ _) := hidden (hW ▸ M9.out)
      rw [hW]
      clear hW
      obtain ⟨y0, y1, y2, y3, y4, yf⟩ := MW.out.n.cells
      obtain ⟨z0, z1, z2, z3, z4, zf⟩ := MW.out.st.zc
      clear yf
      go_wp2_with fail
      refine bodyPost_ret (results_cell_row rfl _ _ w.heap.size 25 #[.int .i64 21, .int .i64 (c.pl i), .int .i64 0, .string ⟨[].toArray⟩, (.slice va9 vn9 vc9)] (0, 0) _ rfl (MW.out.st.row _ _ _ _ _) Tryz.underlying25 rfl (by kernel_rfl)) rfl ?_
      exact MW.out.ret (s := []) (E8.out) rfl
    | false =>
     have E7 := hidden (ex_skipN E5.out hs)
     refine (has_no M6.out.st.ps (by omega) [101, 108, 115, 101] (by decide) hs).mono ?_
     rintro e w7 ⟨rfl, hb⟩
     have M7 := hidden (M6.out.below hb)
     clear hb hs
     obtain ⟨y0, y1, y2, y3, y4, yf⟩ := M7.out.n.cells
     obtain ⟨z0, z1, z2, z3, z4, zf⟩ := M7.out.st.zc
     clear yf
     go_wp2_with fail
     refine bodyPost_ret (results_cell_row rfl _ _ w.heap.size 25 #[.int .i64 21, .int .i64 (c.pl i), .int .i64 0, .string ⟨[].toArray⟩, (.slice va6 vn6 vc6)] (0, 0) _ rfl (M7.out.st.row _ _ _ _ _) Tryz.underlying25 rfl (by kernel_rfl)) rfl ?_
     exact M7.out.ret (s := []) (E7.out) rfl
theorem m_arm {R : Res} (h : PS c w i) (hi : i ≤ c.ts.length) (hP : Rule c 109 .pat i) (ih : Beh c i) (hE : R = exec c.ts (reads c.ts) (.call .pat fun p => .skip [119, 104, 101, 110] (.call .expr fun g => .must [45, 62] (.call .seq fun b => .ret (.mk 24 i 0 [] [p, g, b]))) (.must [45, 62] (.call .seq fun b => .ret (.mk 24 i 0 [] [p, b])))) (i)) : Calls Tryz.prog 156 #[.pointer (some ⟨c.b, 0, none⟩)] w fun e w' => Got8 c R w e w' := by
 have E0 := hidden hE
 have S0 := hidden (St.new h)
 have fl0 := fld1
 clear h hE
 go_enter Tryz.func156, Tryz.ntmps156
 go_wp2_with fail
 refine (next_any S0.out.ps (by omega)).mono ?_
 rintro e w1 ⟨rfl, hb⟩
 have S1 := hidden (S0.out.below hb)
 clear hb
 go_wp2_with fail
 refine (hP _ S1.out.ps).mono ?_
 intro e w2 hg
 cases hx : reads c.ts .pat (i) with
 | error m =>
  rw [hx] at hg
  obtain ⟨rfl, ho⟩ := hg
  exact ⟨rfl, S1.out.stop ho (ex_err E0.out hx)⟩
 | ok xj =>
  obtain ⟨x2, j2⟩ := xj
  have f2 := reads_fine (ts := c.ts) .pat (i := i) (by omega)
  rw [hx] at hg f2
  obtain ⟨ao2, cp2, rfl, hl, hp, ho⟩ := hg
  have E2 := hidden (ex_ok E0.out hx)
  have b2 : j2 ≤ c.ts.length := f2.2.1
  have a2 : i < j2 := f2.2.2 _ _ rfl rfl
  have X2 := hidden (Has.of hl S1.out)
  have S2 := hidden (S1.out.only ho hp)
  clear hl hp ho hx f2
  have M3 := hidden (Mk.first S2.out cp2 X2.out 24 (c.pl i) 0 ⟨#[]⟩)
  go_wp2_with fail
  cases hs : isS [119, 104, 101, 110] (tk c.ts (j2)) with
  | true =>
   have t4 := isS_in hs
   have E4 := hidden (ex_skip E2.out hs)
   refine (has_yes M3.out.st.ps [119, 104, 101, 110] (by decide) hs).mono ?_
   rintro e w4 ⟨rfl, hp, ho⟩
   have M4 := hidden (M3.out.only ho hp)
   clear hp ho hs
   go_wp2_with fail
   refine region_till (S := (fun w' => w'.cell? ⟨(w2.heap.size + 1), 4, none⟩ = some (.slice (some ⟨w2.heap.size, 0, none⟩) 1 1))) (kz := 7) (by kernel_rfl) M4.out.cell (fun hHeld => ?_)
   refine AnyTill.tk (i := 0) (v := ?_) hHeld ?_ ?_
   rotate_left
   ·(intro w hSw; (try dsimp only at hSw); go_simp; (try with_reducible rfl))
   (try simp only [Act.put, q4, q5, q6, q1, q2, q3])
   refine AnyTill.tk (i := 1) (v := ?_) hHeld ?_ ?_
   rotate_left
   ·(intro w hSw; (try dsimp only at hSw); go_simp; (try with_reducible rfl))
   (try simp only [Act.put, q4, q5, q6, q1, q2, q3])
   refine AnyTill.tk (i := 2) (v := ?_) hHeld ?_ ?_
   rotate_left
   ·(intro w hSw; (try dsimp only at hSw); go_simp; (try with_reducible rfl))
   (try simp only [Act.put, q4, q5, q6, q1, q2, q3])
   refine AnyTill.one (i := 3) (by kernel_rfl) rfl (fun K hK => ?_)
   (try simp only [q1, q2, q3])
   go_simp
   refine ((ih .expr (j2 + 1) (by omega) (by omega) : Rule c 125 .expr (j2 + 1)) _ (M4.out.drew).st.ps).mono ?_
   intro e w5 hg
   cases hx : reads c.ts .expr (j2 + 1) with
   | error m =>
    rw [hx] at hg
    obtain ⟨rfl, ho⟩ := hg
    exact ⟨rfl, (M4.out.drew).st.stop ho (ex_err E4.out hx)⟩
   | ok xj =>
    obtain ⟨x5, j5⟩ := xj
    have f5 := reads_fine (ts := c.ts) .expr (i := j2 + 1) (by omega)
    rw [hx] at hg f5
    obtain ⟨ao5, cp5, rfl, hl, hp, ho⟩ := hg
    have E5 := hidden (ex_ok E4.out hx)
    have b5 : j5 ≤ c.ts.length := f5.2.1
    have a5 : j2 + 1 < j5 := f5.2.2 _ _ rfl rfl
    have X5 := hidden ((M4.out.drew).fresh hl)
    have M5 := hidden ((M4.out.drew).only ho hp)
    clear hl hp ho hx f5
    refine hK.out _ _ (fun _ => M5.out.cell) ?_
    clear hHeld
    clear hK K
    (try simp only [Act.put, q4, q5, q6, q1, q2, q3])
    refine AnyTill.one (i := 4) (by kernel_rfl) rfl (fun K hK => ?_)
    (try simp only [q1, q2, q3])
    go_simp
    refine hK.out _ _ (fun _ => (M5.out.alloc _).cell) ?_
    clear hK K
    (try simp only [Act.put, q4, q5, q6, q1, q2, q3])
    refine AnyTill.one (i := 5) (by kernel_rfl) rfl (fun K hK => ?_)
    refine step_nodes rfl (.tmp 14) (.tmp 17) rfl (.slice (some ⟨w2.heap.size, 0, none⟩) 1 1) ([⟨x2, ao2, cp2⟩] : List ND) [⟨x5, ao5, cp5⟩] (by simp [Act.eval]) (M5.out.alloc _).v (by have := (M5.out.alloc (.cells #[.int .i64 x5.kind, .int .i64 (c.pl x5.pl), .int .i64 x5.N, .string ⟨x5.S.toArray⟩, .slice ao5 x5.L.length cp5] 25)).n.lt; omega) w5.heap.size 1 (by simp [Act.eval]) (news_one (blk_alloc_new _ _)) (fun d hd => by rw [List.mem_singleton.1 hd]; exact X5.out.alloc _) (by simp) (by simp) (by have := M5.out.st.size; rw [nblk_alloc]; omega) ?_
    intro va6 vn6 vc6 w6 hv hgr
    have N6 := hidden ((M5.out.alloc _).n.grown hgr M5.out.v.ne)
    have M6 := hidden ((M5.out.alloc _).grown hgr hv)
    obtain ⟨n0, n1, n2, n3, n4, nf⟩ := N6.out.cells
    clear hv hgr n0 n1 n2 n3
    refine hK.out _ _ (fun _ => n4) ?_
    clear hK K
    (try simp only [Act.put, q4, q5, q6, q1, q2, q3])
    refine AnyTill.one (i := 6) (by kernel_rfl) rfl (fun K hK => ?_)
    (try simp only [q1, q2, q3])
    go_simp
    refine hK.out _ _ (fun _ => n4) ?_
    clear hK K
    (try simp only [Act.put, q4, q5, q6, q1, q2, q3])
    refine AnyTill.one (i := 7) (by kernel_rfl) rfl (fun K hK => ?_)
    (try simp only [q1, q2, q3])
    go_simp
    refine hK.out _ _ (fun h => absurd rfl h) ?_
    clear n4 nf
    clear hK K
    (try simp only [Act.put, q4, q5, q6, q1, q2, q3])
    refine AnyTill.done (by kernel_rfl) ?_ _
    (try simp only [Act.put, q4, q5, q6, q1, q2, q3])
    go_wp2_with fail
    cases hs : isS [45, 62] (tk c.ts (j5)) with
    | false =>
     refine (must_no M6.out.st.ps (by omega) [45, 62] (by decide) hs).mono ?_
     rintro e w' ⟨rfl, ho⟩
     exact ⟨rfl, M6.out.st.stop ho (ex_mustN E5.out hs)⟩
    | true =>
     have t7 := isS_in hs
     have E7 := hidden (ex_must E5.out hs)
     refine (must_yes M6.out.st.ps [45, 62] (by decide) hs).mono ?_
     rintro e w7 ⟨rfl, hp, ho⟩
     have M7 := hidden (M6.out.only ho hp)
     clear hp ho hs
     go_wp2_with fail
     refine region_till (S := (fun w' => w'.cell? ⟨(w2.heap.size + 1), 4, none⟩ = some (.slice va6 vn6 vc6))) (kz := 7) (by kernel_rfl) M7.out.cell (fun hHeld => ?_)
     refine AnyTill.tk (i := 0) (v := ?_) hHeld ?_ ?_
     rotate_left
     ·(intro w hSw; (try dsimp only at hSw); go_simp; (try with_reducible rfl))
     (try simp only [Act.put, q4, q5, q6, q1, q2, q3])
     refine AnyTill.tk (i := 1) (v := ?_) hHeld ?_ ?_
     rotate_left
     ·(intro w hSw; (try dsimp only at hSw); go_simp; (try with_reducible rfl))
     (try simp only [Act.put, q4, q5, q6, q1, q2, q3])
     refine AnyTill.tk (i := 2) (v := ?_) hHeld ?_ ?_
     rotate_left
     ·(intro w hSw; (try dsimp only at hSw); go_simp; (try with_reducible rfl))
     (try simp only [Act.put, q4, q5, q6, q1, q2, q3])
     refine AnyTill.one (i := 3) (by kernel_rfl) rfl (fun K hK => ?_)
     (try simp only [q1, q2, q3])
     go_simp
     refine ((ih .seq (j5 + 1) (by omega) (by omega) : Rule c 111 .seq (j5 + 1)) _ (M7.out.drew).st.ps).mono ?_
     intro e w8 hg
     cases hx : reads c.ts .seq (j5 + 1) with
     | error m =>
      rw [hx] at hg
      obtain ⟨rfl, ho⟩ := hg
      exact ⟨rfl, (M7.out.drew).st.stop ho (ex_err E7.out hx)⟩
     | ok xj =>
      obtain ⟨x8, j8⟩ := xj
      have f8 := reads_fine (ts := c.ts) .seq (i := j5 + 1) (by omega)
      rw [hx] at hg f8
      obtain ⟨ao8, cp8, rfl, hl, hp, ho⟩ := hg
      have E8 := hidden (ex_ok E7.out hx)
      have b8 : j8 ≤ c.ts.length := f8.2.1
      have a8 : j5 + 1 < j8 := f8.2.2 _ _ rfl rfl
      have X8 := hidden ((M7.out.drew).fresh hl)
      have M8 := hidden ((M7.out.drew).only ho hp)
      clear hl hp ho hx f8
      refine hK.out _ _ (fun _ => M8.out.cell) ?_
      clear hHeld
      clear hK K
      (try simp only [Act.put, q4, q5, q6, q1, q2, q3])
      refine AnyTill.one (i := 4) (by kernel_rfl) rfl (fun K hK => ?_)
      (try simp only [q1, q2, q3])
      go_simp
      refine hK.out _ _ (fun _ => (M8.out.alloc _).cell) ?_
      clear hK K
      (try simp only [Act.put, q4, q5, q6, q1, q2, q3])
      refine AnyTill.one (i := 5) (by kernel_rfl) rfl (fun K hK => ?_)
      refine step_nodes rfl (.tmp 23) (.tmp 26) rfl (.slice va6 vn6 vc6) (([⟨x2, ao2, cp2⟩] : List ND) ++ [⟨x5, ao5, cp5⟩]) [⟨x8, ao8, cp8⟩] (by simp [Act.eval]) (M8.out.alloc _).v (by have := (M8.out.alloc (.cells #[.int .i64 x8.kind, .int .i64 (c.pl x8.pl), .int .i64 x8.N, .string ⟨x8.S.toArray⟩, .slice ao8 x8.L.length cp8] 25)).n.lt; omega) w8.heap.size 1 (by simp [Act.eval]) (news_one (blk_alloc_new _ _)) (fun d hd => by rw [List.mem_singleton.1 hd]; exact X8.out.alloc _) (by simp) (by simp) (by have := M8.out.st.size; rw [nblk_alloc]; omega) ?_
      intro va9 vn9 vc9 w9 hv hgr
      have N9 := hidden ((M8.out.alloc _).n.grown hgr M8.out.v.ne)
      have M9 := hidden ((M8.out.alloc _).grown hgr hv)
      obtain ⟨n0, n1, n2, n3, n4, nf⟩ := N9.out.cells
      clear hv hgr n0 n1 n2 n3
      refine hK.out _ _ (fun _ => n4) ?_
      clear hK K
      (try simp only [Act.put, q4, q5, q6, q1, q2, q3])
      refine AnyTill.one (i := 6) (by kernel_rfl) rfl (fun K hK => ?_)
      (try simp only [q1, q2, q3])
      go_simp
      refine hK.out _ _ (fun _ => n4) ?_
      clear hK K
      (try simp only [Act.put, q4, q5, q6, q1, q2, q3])
      refine AnyTill.one (i := 7) (by kernel_rfl) rfl (fun K hK => ?_)
      (try simp only [q1, q2, q3])
      go_simp
      refine hK.out _ _ (fun h => absurd rfl h) ?_
      clear n4 nf
      clear hK K
      (try simp only [Act.put, q4, q5, q6, q1, q2, q3])
      refine AnyTill.done (by kernel_rfl) ?_ _
      (try simp only [Act.put, q4, q5, q6, q1, q2, q3])
      obtain ⟨W, hW⟩ : ∃ W, (w9.setCell ⟨(w2.heap.size + 1), 4, none⟩ (.slice va9 vn9 vc9)) = W := ⟨_, rfl⟩
      have MW : Hid (Mk c w W _ _ _ _ _ _ _ _) := hidden (hW ▸ M9.out)
      rw [hW]
      clear hW
      obtain ⟨y0, y1, y2, y3, y4, yf⟩ := MW.out.n.cells
      obtain ⟨z0, z1, z2, z3, z4, zf⟩ := MW.out.st.zc
      clear yf
      go_wp2_with fail
      refine bodyPost_ret (results_cell_row rfl _ _ w.heap.size 25 #[.int .i64 24, .int .i64 (c.pl i), .int .i64 0, .string ⟨[].toArray⟩, (.slice va9 vn9 vc9)] (0, 0) _ rfl (MW.out.st.row _ _ _ _ _) Tryz.underlying25 rfl (by kernel_rfl)) rfl ?_
      exact MW.out.ret (s := []) (E8.out) rfl
  | false =>
   have E4 := hidden (ex_skipN E2.out hs)
   refine (has_no M3.out.st.ps (by omega) [119, 104, 101, 110] (by decide) hs).mono ?_
   rintro e w4 ⟨rfl, hb⟩
   have M4 := hidden (M3.out.below hb)
   clear hb hs
   go_wp2_with fail
   cases hs : isS [45, 62] (tk c.ts (j2)) with
   | false =>
    refine (must_no M4.out.st.ps (by omega) [45, 62] (by decide) hs).mono ?_
    rintro e w' ⟨rfl, ho⟩
    exact ⟨rfl, M4.out.st.stop ho (ex_mustN E4.out hs)⟩
   | true =>
    have t11 := isS_in hs
    have E11 := hidden (ex_must E4.out hs)
    refine (must_yes M4.out.st.ps [45, 62] (by decide) hs).mono ?_
    rintro e w11 ⟨rfl, hp, ho⟩
    have M11 := hidden (M4.out.only ho hp)
    clear hp ho hs
    go_wp2_with fail
    refine region_till (S := (fun w' => w'.cell? ⟨(w2.heap.size + 1), 4, none⟩ = some (.slice (some ⟨w2.heap.size, 0, none⟩) 1 1))) (kz := 7) (by kernel_rfl) M11.out.cell (fun hHeld => ?_)
    refine AnyTill.tk (i := 0) (v := ?_) hHeld ?_ ?_
    rotate_left
    ·(intro w hSw; (try dsimp only at hSw); go_simp; (try with_reducible rfl))
    (try simp only [Act.put, q4, q5, q6, q1, q2, q3])
    refine AnyTill.tk (i := 1) (v := ?_) hHeld ?_ ?_
    rotate_left
    ·(intro w hSw; (try dsimp only at hSw); go_simp; (try with_reducible rfl))
    (try simp only [Act.put, q4, q5, q6, q1, q2, q3])
    refine AnyTill.tk (i := 2) (v := ?_) hHeld ?_ ?_
    rotate_left
    ·(intro w hSw; (try dsimp only at hSw); go_simp; (try with_reducible rfl))
    (try simp only [Act.put, q4, q5, q6, q1, q2, q3])
    refine AnyTill.one (i := 3) (by kernel_rfl) rfl (fun K hK => ?_)
    (try simp only [q1, q2, q3])
    go_simp
    refine ((ih .seq (j2 + 1) (by omega) (by omega) : Rule c 111 .seq (j2 + 1)) _ (M11.out.drew).st.ps).mono ?_
    intro e w12 hg
    cases hx : reads c.ts .seq (j2 + 1) with
    | error m =>
     rw [hx] at hg
     obtain ⟨rfl, ho⟩ := hg
     exact ⟨rfl, (M11.out.drew).st.stop ho (ex_err E11.out hx)⟩
    | ok xj =>
     obtain ⟨x12, j12⟩ := xj
     have f12 := reads_fine (ts := c.ts) .seq (i := j2 + 1) (by omega)
     rw [hx] at hg f12
     obtain ⟨ao12, cp12, rfl, hl, hp, ho⟩ := hg
     have E12 := hidden (ex_ok E11.out hx)
     have b12 : j12 ≤ c.ts.length := f12.2.1
     have a12 : j2 + 1 < j12 := f12.2.2 _ _ rfl rfl
     have X12 := hidden ((M11.out.drew).fresh hl)
     have M12 := hidden ((M11.out.drew).only ho hp)
     clear hl hp ho hx f12
     refine hK.out _ _ (fun _ => M12.out.cell) ?_
     clear hHeld
     clear hK K
     (try simp only [Act.put, q4, q5, q6, q1, q2, q3])
     refine AnyTill.one (i := 4) (by kernel_rfl) rfl (fun K hK => ?_)
     (try simp only [q1, q2, q3])
     go_simp
     refine hK.out _ _ (fun _ => (M12.out.alloc _).cell) ?_
     clear hK K
     (try simp only [Act.put, q4, q5, q6, q1, q2, q3])
     refine AnyTill.one (i := 5) (by kernel_rfl) rfl (fun K hK => ?_)
     refine step_nodes rfl (.tmp 23) (.tmp 26) rfl (.slice (some ⟨w2.heap.size, 0, none⟩) 1 1) ([⟨x2, ao2, cp2⟩] : List ND) [⟨x12, ao12, cp12⟩] (by simp [Act.eval]) (M12.out.alloc _).v (by have := (M12.out.alloc (.cells #[.int .i64 x12.kind, .int .i64 (c.pl x12.pl), .int .i64 x12.N, .string ⟨x12.S.toArray⟩, .slice ao12 x12.L.length cp12] 25)).n.lt; omega) w12.heap.size 1 (by simp [Act.eval]) (news_one (blk_alloc_new _ _)) (fun d hd => by rw [List.mem_singleton.1 hd]; exact X12.out.alloc _) (by simp) (by simp) (by have := M12.out.st.size; rw [nblk_alloc]; omega) ?_
     intro va13 vn13 vc13 w13 hv hgr
     have N13 := hidden ((M12.out.alloc _).n.grown hgr M12.out.v.ne)
     have M13 := hidden ((M12.out.alloc _).grown hgr hv)
     obtain ⟨n0, n1, n2, n3, n4, nf⟩ := N13.out.cells
     clear hv hgr n0 n1 n2 n3
     refine hK.out _ _ (fun _ => n4) ?_
     clear hK K
     (try simp only [Act.put, q4, q5, q6, q1, q2, q3])
     refine AnyTill.one (i := 6) (by kernel_rfl) rfl (fun K hK => ?_)
     (try simp only [q1, q2, q3])
     go_simp
     refine hK.out _ _ (fun _ => n4) ?_
     clear hK K
     (try simp only [Act.put, q4, q5, q6, q1, q2, q3])
     refine AnyTill.one (i := 7) (by kernel_rfl) rfl (fun K hK => ?_)
     (try simp only [q1, q2, q3])
     go_simp
     refine hK.out _ _ (fun h => absurd rfl h) ?_
     clear n4 nf
     clear hK K
     (try simp only [Act.put, q4, q5, q6, q1, q2, q3])
     refine AnyTill.done (by kernel_rfl) ?_ _
     (try simp only [Act.put, q4, q5, q6, q1, q2, q3])
     obtain ⟨W, hW⟩ : ∃ W, (w13.setCell ⟨(w2.heap.size + 1), 4, none⟩ (.slice va13 vn13 vc13)) = W := ⟨_, rfl⟩
     have MW : Hid (Mk c w W _ _ _ _ _ _ _ _) := hidden (hW ▸ M13.out)
     rw [hW]
     clear hW
     obtain ⟨y0, y1, y2, y3, y4, yf⟩ := MW.out.n.cells
     obtain ⟨z0, z1, z2, z3, z4, zf⟩ := MW.out.st.zc
     clear yf
     go_wp2_with fail
     refine bodyPost_ret (results_cell_row rfl _ _ w.heap.size 25 #[.int .i64 24, .int .i64 (c.pl i), .int .i64 0, .string ⟨[].toArray⟩, (.slice va13 vn13 vc13)] (0, 0) _ rfl (MW.out.st.row _ _ _ _ _) Tryz.underlying25 rfl (by kernel_rfl)) rfl ?_
     exact MW.out.ret (s := []) (E12.out) rfl
end
end Go.Proofs.YthjmakjhidjbaaaGreat
