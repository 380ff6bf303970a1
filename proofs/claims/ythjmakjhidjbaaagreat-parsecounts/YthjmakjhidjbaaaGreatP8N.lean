/-
 Layer 8, the program's parser: rules' methods. Condition: the rules that they are made of do as the grammar says.
-/
import Derived.Test.YthjmakjhidjbaaaGreatLibAK
import Derived.Test.YthjmakjhidjbaaaGreatLibAG
import Derived.Test.YthjmakjhidjbaaaGreatP8A
import Derived.Test.YthjmakjhidjbaaaGreatP8B2
import Derived.Test.YthjmakjhidjbaaaGreatLibAI
namespace Go.Proofs.YthjmakjhidjbaaaGreat
open Go.ChangeShapes Go.WideShapes Go.ChangeAt Go.RowKit Go.Deep
set_option linter.unusedVariables false
set_option linter.unusedSimpArgs false
set_option maxHeartbeats 2000000
set_option maxRecDepth 20000
attribute [local go_sem ↓] Go.wp_at_zero Go.wp_at_succ

section
variable {c : PC} {w : World} {i : Nat}
theorem m_expr {R : Res} (h : PS c w i) (hi : i ≤ c.ts.length) (ih : Beh c i) (hC : ∀ (R : Res) w, PS c w i → i < c.ts.length → R = exec c.ts (reads c.ts) (.token 3 fun t => .must [61] (.call .expr fun x => .skip [116, 111] (.call .expr fun y => .must [100, 111] (.call .seq fun z => .must [100, 111, 110, 101] (.ret (.mk 27 i 1 t.S [x, y, z])))) (.must [100, 111, 119, 110, 116, 111] (.call .expr fun y => .must [100, 111] (.call .seq fun z => .must [100, 111, 110, 101] (.ret (.mk 27 i 0 t.S [x, y, z]))))))) (i + 1) → Calls Tryz.prog 148 #[.pointer (some ⟨c.b, 0, none⟩)] w fun e w' => Got8 c R w e w') (hPt : ∀ (R : Res) w, PS c w i → R = exec c.ts (reads c.ts) (.call .tup fun x => .here fun to => .skip [58, 61] (.call .expr fun y => .ret (.mk 29 to 0 [58, 61] [x, y])) (.test (isS [60, 45]) (if x.kind = 12 then .eat fun _ => .call .expr fun y => .ret (.mk 13 to 0 x.S (x.L ++ [y])) else if x.kind = 14 then .eat fun _ => .call .expr fun y => .ret (.mk 15 to 0 [] (x.L ++ [y])) else .bad) (.ret x))) i → Calls Tryz.prog 149 #[.pointer (some ⟨c.b, 0, none⟩)] w fun e w' => Got8 c R w e w') (hE : R = exec c.ts (reads c.ts) (.skip [108, 101, 116] (.call (.letN 19 i) fun n => .must [105, 110] (.call .seq fun x => .ret (n.more x))) (.skip [102, 117, 110] (.call .patoms fun l => .must [45, 62] (.call .seq fun x => .ret (.mk 17 i 0 [] (l.L ++ [x])))) (.skip [102, 117, 110, 99, 116, 105, 111, 110] (.call .arms fun l => .ret (.mk 18 i 0 [] l.L)) (.skip [109, 97, 116, 99, 104] (.call .seq fun x => .must [119, 105, 116, 104] (.call .arms fun l => .ret (.mk 22 i 0 [] (x :: l.L)))) (.skip [116, 114, 121] (.call .seq fun x => .must [119, 105, 116, 104] (.call .arms fun l => .ret (.mk 23 i 0 [] (x :: l.L)))) (.skip [105, 102] (.call .expr fun x => .must [116, 104, 101, 110] (.call .expr fun y => .skip [101, 108, 115, 101] (.call .expr fun z => .ret (.mk 21 i 0 [] [x, y, z])) (.ret (.mk 21 i 0 [] [x, y])))) (.skip [119, 104, 105, 108, 101] (.call .seq fun x => .must [100, 111] (.call .seq fun y => .must [100, 111, 110, 101] (.ret (.mk 26 i 0 [] [x, y])))) (.skip [102, 111, 114] (.token 3 fun t => .must [61] (.call .expr fun x => .skip [116, 111] (.call .expr fun y => .must [100, 111] (.call .seq fun z => .must [100, 111, 110, 101] (.ret (.mk 27 i 1 t.S [x, y, z])))) (.must [100, 111, 119, 110, 116, 111] (.call .expr fun y => .must [100, 111] (.call .seq fun z => .must [100, 111, 110, 101] (.ret (.mk 27 i 0 t.S [x, y, z]))))))) (.call .tup fun x => .here fun to => .skip [58, 61] (.call .expr fun y => .ret (.mk 29 to 0 [58, 61] [x, y])) (.test (isS [60, 45]) (if x.kind = 12 then .eat fun _ => .call .expr fun y => .ret (.mk 13 to 0 x.S (x.L ++ [y])) else if x.kind = 14 then .eat fun _ => .call .expr fun y => .ret (.mk 15 to 0 [] (x.L ++ [y])) else .bad) (.ret x))))))))))) i) : Calls Tryz.prog 125 #[.pointer (some ⟨c.b, 0, none⟩)] w fun e w' => Got8 c R w e w' := by
 have E0 := hidden hE
 have S0 := hidden (St.new h)
 have HC := hidden hC
 have HPt := hidden hPt
 have hmf : ∀ (fn : Fn) (first cap : Array Value) (w : World), (Instr.makeFunc fn first cap).run Tryz.prog w = .ok (.func fn first cap) w := fun _ _ _ _ => rfl
 have fl := fld1
 clear h hE hC hPt
 go_enter Tryz.func125, Tryz.ntmps125
 go_wp2_with fail
 cases hs0 : isS [108, 101, 116] (tk c.ts (i)) with
 | true =>
  have hb := sign8 S0.out.ps (by omega)
  rw [signT_is hs0] at hb
  have t1 := isS_in hs0
  refine hb.mono ?_
  clear hb
  rintro e w1 ⟨rfl, hb⟩
  have S1 := hidden (S0.out.below hb)
  clear hb
  have E8 := hidden (ex_skip E0.out hs0)
  have hlt := isS_in hs0
  clear hs0
  go_wp2_with fail
  obtain ⟨Rl, hRl⟩ : ∃ Rl, reads c.ts (.letN 19 i) (i + 1) = Rl := ⟨_, rfl⟩
  have HRl := hidden hRl
  have HRe : Hid (Rl = exec c.ts (reads c.ts) (body (.letN 19 i)) (i + 1)) := hRl.symm.trans (reads_eq _ (by omega))
  clear hRl
  refine (m_bindsN (R := Rl) S1.out.ps hlt ih HRe.out).mono ?_
  intro e w2 hg
  cases hL : Rl with
  | error m =>
   rw [hL] at hg
   obtain ⟨rfl, ho⟩ := hg
   exact ⟨rfl, S1.out.stop ho (ex_err E8.out (HRl.out.trans hL))⟩
  | ok xj =>
   obtain ⟨x2, j2⟩ := xj
   rw [hL] at hg
   obtain ⟨ao2, cp2, L2, rfl, hLt, hv, hp, ho⟩ := hg
   have fb := reads_fine (ts := c.ts) (.letN 19 i) (i := i + 1) (by omega)
   rw [HRl.out, hL] at fb
   have bj : j2 ≤ c.ts.length := fb.2.1
   have aj : i + 1 ≤ j2 := fb.1
   have E2 := hidden (ex_ok E8.out (HRl.out.trans hL))
   have hle := let_le (HRl.out.trans hL)
   have hsz := S1.out.size
   have HLt := hidden hLt
   have HV := hidden hv
   have S2 := hidden (S1.out.only ho hp)
   rw [← hLt, List.length_map] at hle
   clear hLt hv hp ho hL fb
   have M3 := hidden (Mk.ofN S2.out hsz HV.out)
   go_wp2_with fail
   cases hs : isS [105, 110] (tk c.ts (j2)) with
   | false =>
    refine (must_no M3.out.st.ps (by omega) [105, 110] (by decide) hs).mono ?_
    rintro e w' ⟨rfl, ho⟩
    exact ⟨rfl, M3.out.st.stop ho (ex_mustN E2.out hs)⟩
   | true =>
    have t4 := isS_in hs
    have E4 := hidden (ex_must E2.out hs)
    refine (must_yes M3.out.st.ps [105, 110] (by decide) hs).mono ?_
    rintro e w4 ⟨rfl, hp, ho⟩
    have M4 := hidden (M3.out.only ho hp)
    clear hp ho hs
    go_wp2_with fail
    refine region_till (S := (fun w' => w'.cell? ⟨w2.heap.size, 4, none⟩ = some (.slice ao2 x2.L.length cp2))) (kz := 7) (by kernel_rfl) M4.out.cell (fun hHeld => ?_)
    refine AnyTill.tk (i := 0) (v := ?_) hHeld ?_ ?_
    rotate_left
    ·(intro w hSw; (try dsimp only at hSw); go_simp; (try with_reducible rfl))
    (try simp only [Act.put, q4, q5, q6, q1, q2, q3])
    refine AnyTill.tk (i := 1) (v := ?_) hHeld ?_ ?_
    rotate_left
    ·(intro w hSw; (try dsimp only at hSw); go_simp; (try with_reducible rfl))
    (try simp only [Act.put, q4, q5, q6, q1, q2, q3])
    refine AnyTill.tk (i := 2) (v := ?_) hHeld ?_ ?_
    rotate_left
    ·(intro w hSw; (try dsimp only at hSw); go_simp; (try with_reducible rfl))
    (try simp only [Act.put, q4, q5, q6, q1, q2, q3])
    refine AnyTill.one (i := 3) (by kernel_rfl) rfl (fun K hK => ?_)
    (try simp only [q1, q2, q3])
    go_simp
    refine ((ih .seq (j2 + 1) (by omega) (by omega) : Rule c 111 .seq (j2 + 1)) _ (M4.out.drew).st.ps).mono ?_
    intro e w5 hg
    cases hx : reads c.ts .seq (j2 + 1) with
    | error m =>
     rw [hx] at hg
     obtain ⟨rfl, ho⟩ := hg
     exact ⟨rfl, (M4.out.drew).st.stop ho (ex_err E4.out hx)⟩
    | ok xj =>
     obtain ⟨x5, j5⟩ := xj
     have f5 := reads_fine (ts := c.ts) .seq (i := j2 + 1) (by omega)
     rw [hx] at hg f5
     obtain ⟨ao5, cp5, rfl, hl, hp, ho⟩ := hg
     have E5 := hidden (ex_ok E4.out hx)
     have b5 : j5 ≤ c.ts.length := f5.2.1
     have a5 : j2 + 1 < j5 := f5.2.2 _ _ rfl rfl
     have X5 := hidden ((M4.out.drew).fresh hl)
     have M5 := hidden ((M4.out.drew).only ho hp)
     clear hl hp ho hx f5
     refine hK.out _ _ (fun _ => M5.out.cell) ?_
     clear hHeld
     clear hK K
     (try simp only [Act.put, q4, q5, q6, q1, q2, q3])
     refine AnyTill.one (i := 4) (by kernel_rfl) rfl (fun K hK => ?_)
     (try simp only [q1, q2, q3])
     go_simp
     refine hK.out _ _ (fun _ => (M5.out.alloc _).cell) ?_
     clear hK K
     (try simp only [Act.put, q4, q5, q6, q1, q2, q3])
     refine AnyTill.one (i := 5) (by kernel_rfl) rfl (fun K hK => ?_)
     refine step_nodes rfl (.tmp 14) (.tmp 17) rfl (.slice ao2 x2.L.length cp2) L2 [⟨x5, ao5, cp5⟩] (by simp [Act.eval]) (M5.out.alloc _).v (by have := (M5.out.alloc (.cells #[.int .i64 x5.kind, .int .i64 (c.pl x5.pl), .int .i64 x5.N, .string ⟨x5.S.toArray⟩, .slice ao5 x5.L.length cp5] 25)).n.lt; omega) w5.heap.size 1 (by simp [Act.eval]) (news_one (blk_alloc_new _ _)) (fun d hd => by rw [List.mem_singleton.1 hd]; exact X5.out.alloc _) (by simp) (by have := c.small; have := c.tm.len; simp; omega) (by have := M5.out.st.size; rw [nblk_alloc]; omega) ?_
     intro va6 vn6 vc6 w6 hv hgr
     have N6 := hidden ((M5.out.alloc _).n.grown hgr M5.out.v.ne)
     have M6 := hidden ((M5.out.alloc _).grown hgr hv)
     obtain ⟨n0, n1, n2, n3, n4, nf⟩ := N6.out.cells
     clear n0 n1 n2 n3
     have G6 := hidden ((M5.out.alloc _).gone hgr hv)
     clear hv hgr
     refine hK.out _ _ (fun _ => n4) ?_
     clear hK K
     (try simp only [Act.put, q4, q5, q6, q1, q2, q3])
     refine AnyTill.one (i := 6) (by kernel_rfl) rfl (fun K hK => ?_)
     (try simp only [q1, q2, q3])
     go_simp
     refine hK.out _ _ (fun _ => n4) ?_
     clear hK K
     (try simp only [Act.put, q4, q5, q6, q1, q2, q3])
     refine AnyTill.one (i := 7) (by kernel_rfl) rfl (fun K hK => ?_)
     (try simp only [q1, q2, q3])
     go_simp
     refine hK.out _ _ (fun h => absurd rfl h) ?_
     clear n4 nf
     clear hK K
     (try simp only [Act.put, q4, q5, q6, q1, q2, q3])
     refine AnyTill.done (by kernel_rfl) ?_ _
     (try simp only [Act.put, q4, q5, q6, q1, q2, q3])
     obtain ⟨W, hW⟩ : ∃ W, (w6.setCell ⟨w2.heap.size, 4, none⟩ (.slice va6 vn6 vc6)) = W := ⟨_, rfl⟩
     have MW : Hid (Mk c w W _ _ _ _ _ _ _ _) := hidden (hW ▸ M6.out)
     rw [hW]
     clear hW
     obtain ⟨y0, y1, y2, y3, y4, yf⟩ := MW.out.n.cells
     obtain ⟨z0, z1, z2, z3, z4, zf⟩ := MW.out.st.zc
     clear yf
     go_wp2_with fail
     refine bodyPost_ret (results_cell_row rfl _ _ w.heap.size 25 #[.int .i64 x2.kind, .int .i64 (c.pl x2.pl), .int .i64 x2.N, .string ⟨x2.S.toArray⟩, (.slice va6 vn6 vc6)] (0, 0) _ rfl (MW.out.st.row _ _ _ _ _) Tryz.underlying25 rfl (by kernel_rfl)) rfl ?_
     exact MW.out.ret (s := x2.S) (by rw [List.map_append, HLt.out]; exact E5.out) rfl
 | false =>
  have E1_0 := hidden (ex_skipN E0.out hs0)
  have z1_0 := signT_no hs0 (by decide)
  clear hs0
  cases hs1 : isS [102, 117, 110] (tk c.ts (i)) with
  | true =>
   have hb := sign8 S0.out.ps (by omega)
   rw [signT_is hs1] at hb
   have t1 := isS_in hs1
   refine hb.mono ?_
   clear hb
   rintro e w1 ⟨rfl, hb⟩
   have S1 := hidden (S0.out.below hb)
   clear hb
   have E8 := hidden (ex_skip E1_0.out hs1)
   have hlt := isS_in hs1
   clear hs1
   go_wp2_with fail
   refine (take8 S1.out.ps (by omega)).mono ?_
   rintro e w8 ⟨rfl, hp, ho⟩
   have S8 := hidden (S1.out.only ho hp)
   clear hp ho
   have r0 : Rule c 123 .patom (i + 1) := ih .patom (i + 1) (by omega) (by omega)
   go_wp2_with fail
   have HX := hidden (m_function (p := i) (sg := [45, 62]) S8.out.ps (by decide) (by omega) r0 (fun n j h1 h2 => ih n j (by omega) h2) E8.out)
   clear r0
   refine (HX.out).mono ?_
   intro e w9 hg
   cases hR : R with
   | error m =>
    rw [hR] at hg
    obtain ⟨rfl, ho⟩ := hg
    exact ⟨rfl, S8.out.stop ho hR⟩
   | ok xj =>
    obtain ⟨x9, j9⟩ := xj
    rw [hR] at hg
    obtain ⟨ao9, cp9, rfl, hl, hp, ho⟩ := hg
    have X9 := hidden (Has.of hl S8.out)
    have HR := hidden hR
    have S9 := hidden (S8.out.only ho hp)
    clear hl hp ho hR
    obtain ⟨z0, z1, z2, z3, z4, zf⟩ := S9.out.zc
    go_wp2_with fail
    refine bodyPost_ret (results_cell_row rfl _ _ w.heap.size 25 #[.int .i64 x9.kind, .int .i64 (c.pl x9.pl), .int .i64 x9.N, .string ⟨x9.S.toArray⟩, .slice ao9 x9.L.length cp9] (0, 0) _ rfl (S9.out.row _ _ _ _ _) Tryz.underlying25 rfl (by kernel_rfl)) rfl ?_
    exact S9.out.ret X9.out HR.out rfl
  | false =>
   have E1_1 := hidden (ex_skipN E1_0.out hs1)
   have z1_1 := signT_no hs1 (by decide)
   clear hs1
   cases hs2 : isS [102, 117, 110, 99, 116, 105, 111, 110] (tk c.ts (i)) with
   | true =>
    have hb := sign8 S0.out.ps (by omega)
    rw [signT_is hs2] at hb
    have t1 := isS_in hs2
    refine hb.mono ?_
    clear hb
    rintro e w1 ⟨rfl, hb⟩
    have S1 := hidden (S0.out.below hb)
    clear hb
    have E8 := hidden (ex_skip E1_1.out hs2)
    have hlt := isS_in hs2
    clear hs2
    go_wp2_with fail
    refine (take8 S1.out.ps (by omega)).mono ?_
    rintro e w10 ⟨rfl, hp, ho⟩
    have S10 := hidden (S1.out.only ho hp)
    clear hp ho
    go_wp2_with fail
    obtain ⟨Rl, hRl⟩ : ∃ Rl, reads c.ts .arms (i + 1) = Rl := ⟨_, rfl⟩
    have HRl := hidden hRl
    have HRe : Hid (Rl = exec c.ts (reads c.ts) (body .arms) (i + 1)) := hRl.symm.trans (reads_eq _ (by omega))
    clear hRl
    refine (m_arms (R := Rl) S10.out.ps (by omega) (ih .arm _ (by omega) (by omega)) (fun n j h1 h2 => ih n j (by omega) h2) HRe.out).mono ?_
    intro e w11 hg
    cases hL : Rl with
    | error m =>
     rw [hL] at hg
     obtain ⟨rfl, ho⟩ := hg
     exact ⟨rfl, S10.out.stop ho (ex_err E8.out (HRl.out.trans hL))⟩
    | ok xj =>
     obtain ⟨x11, j11⟩ := xj
     rw [hL] at hg
     obtain ⟨ao11, cp11, rfl, hl, hp, ho⟩ := hg
     have E11 := hidden (ex_ok E8.out (HRl.out.trans hL))
     have X11 := hidden (Has.of hl S10.out)
     have S11 := hidden (S10.out.only ho hp)
     clear hl hp ho
     clear hL
     obtain ⟨z0, z1, z2, z3, z4, zf⟩ := S11.out.zc
     go_wp2_with fail
     refine bodyPost_ret (results_cell_row rfl _ _ w.heap.size 25 #[.int .i64 18, .int .i64 (c.pl i), .int .i64 0, .string ⟨#[]⟩, .slice ao11 x11.L.length cp11] (0, 0) _ rfl (S11.out.row _ _ _ _ _) Tryz.underlying25 rfl (by kernel_rfl)) rfl ?_
     exact S11.out.ret (x := .mk 18 i 0 [] x11.L) X11.out E11.out rfl
   | false =>
    have E1_2 := hidden (ex_skipN E1_1.out hs2)
    have z1_2 := signT_no hs2 (by decide)
    clear hs2
    cases hs3 : isS [109, 97, 116, 99, 104] (tk c.ts (i)) with
    | true =>
     have hb := sign8 S0.out.ps (by omega)
     rw [signT_is hs3] at hb
     have t1 := isS_in hs3
     refine hb.mono ?_
     clear hb
     rintro e w1 ⟨rfl, hb⟩
     have S1 := hidden (S0.out.below hb)
     clear hb
     have E8 := hidden (ex_skip E1_2.out hs3)
     have hlt := isS_in hs3
     clear hs3
     go_wp2_with fail
     have HX := hidden (m_cases (kd := 22) S1.out.ps hlt ih E8.out)
     refine (HX.out).mono ?_
     intro e w12 hg
     cases hR : R with
     | error m =>
      rw [hR] at hg
      obtain ⟨rfl, ho⟩ := hg
      exact ⟨rfl, S1.out.stop ho hR⟩
     | ok xj =>
      obtain ⟨x12, j12⟩ := xj
      rw [hR] at hg
      obtain ⟨ao12, cp12, rfl, hl, hp, ho⟩ := hg
      have X12 := hidden (Has.of hl S1.out)
      have HR := hidden hR
      have S12 := hidden (S1.out.only ho hp)
      clear hl hp ho hR
      obtain ⟨z0, z1, z2, z3, z4, zf⟩ := S12.out.zc
      go_wp2_with fail
      refine bodyPost_ret (results_cell_row rfl _ _ w.heap.size 25 #[.int .i64 x12.kind, .int .i64 (c.pl x12.pl), .int .i64 x12.N, .string ⟨x12.S.toArray⟩, .slice ao12 x12.L.length cp12] (0, 0) _ rfl (S12.out.row _ _ _ _ _) Tryz.underlying25 rfl (by kernel_rfl)) rfl ?_
      exact S12.out.ret X12.out HR.out rfl
    | false =>
     have E1_3 := hidden (ex_skipN E1_2.out hs3)
     have z1_3 := signT_no hs3 (by decide)
     clear hs3
     cases hs4 : isS [116, 114, 121] (tk c.ts (i)) with
     | true =>
      have hb := sign8 S0.out.ps (by omega)
      rw [signT_is hs4] at hb
      have t1 := isS_in hs4
      refine hb.mono ?_
      clear hb
      rintro e w1 ⟨rfl, hb⟩
      have S1 := hidden (S0.out.below hb)
      clear hb
      have E8 := hidden (ex_skip E1_3.out hs4)
      have hlt := isS_in hs4
      clear hs4
      go_wp2_with fail
      have HX := hidden (m_cases (kd := 23) S1.out.ps hlt ih E8.out)
      refine (HX.out).mono ?_
      intro e w13 hg
      cases hR : R with
      | error m =>
       rw [hR] at hg
       obtain ⟨rfl, ho⟩ := hg
       exact ⟨rfl, S1.out.stop ho hR⟩
      | ok xj =>
       obtain ⟨x13, j13⟩ := xj
       rw [hR] at hg
       obtain ⟨ao13, cp13, rfl, hl, hp, ho⟩ := hg
       have X13 := hidden (Has.of hl S1.out)
       have HR := hidden hR
       have S13 := hidden (S1.out.only ho hp)
       clear hl hp ho hR
       obtain ⟨z0, z1, z2, z3, z4, zf⟩ := S13.out.zc
       go_wp2_with fail
       refine bodyPost_ret (results_cell_row rfl _ _ w.heap.size 25 #[.int .i64 x13.kind, .int .i64 (c.pl x13.pl), .int .i64 x13.N, .string ⟨x13.S.toArray⟩, .slice ao13 x13.L.length cp13] (0, 0) _ rfl (S13.out.row _ _ _ _ _) Tryz.underlying25 rfl (by kernel_rfl)) rfl ?_
       exact S13.out.ret X13.out HR.out rfl
     | false =>
      have E1_4 := hidden (ex_skipN E1_3.out hs4)
      have z1_4 := signT_no hs4 (by decide)
      clear hs4
      cases hs5 : isS [105, 102] (tk c.ts (i)) with
      | true =>
       have hb := sign8 S0.out.ps (by omega)
       rw [signT_is hs5] at hb
       have t1 := isS_in hs5
       refine hb.mono ?_
       clear hb
       rintro e w1 ⟨rfl, hb⟩
       have S1 := hidden (S0.out.below hb)
       clear hb
       have E8 := hidden (ex_skip E1_4.out hs5)
       have hlt := isS_in hs5
       clear hs5
       go_wp2_with fail
       have HX := hidden (m_choice S1.out.ps hlt ih E8.out)
       refine (HX.out).mono ?_
       intro e w14 hg
       cases hR : R with
       | error m =>
        rw [hR] at hg
        obtain ⟨rfl, ho⟩ := hg
        exact ⟨rfl, S1.out.stop ho hR⟩
       | ok xj =>
        obtain ⟨x14, j14⟩ := xj
        rw [hR] at hg
        obtain ⟨ao14, cp14, rfl, hl, hp, ho⟩ := hg
        have X14 := hidden (Has.of hl S1.out)
        have HR := hidden hR
        have S14 := hidden (S1.out.only ho hp)
        clear hl hp ho hR
        obtain ⟨z0, z1, z2, z3, z4, zf⟩ := S14.out.zc
        go_wp2_with fail
        refine bodyPost_ret (results_cell_row rfl _ _ w.heap.size 25 #[.int .i64 x14.kind, .int .i64 (c.pl x14.pl), .int .i64 x14.N, .string ⟨x14.S.toArray⟩, .slice ao14 x14.L.length cp14] (0, 0) _ rfl (S14.out.row _ _ _ _ _) Tryz.underlying25 rfl (by kernel_rfl)) rfl ?_
        exact S14.out.ret X14.out HR.out rfl
      | false =>
       have E1_5 := hidden (ex_skipN E1_4.out hs5)
       have z1_5 := signT_no hs5 (by decide)
       clear hs5
       cases hs6 : isS [119, 104, 105, 108, 101] (tk c.ts (i)) with
       | true =>
        have hb := sign8 S0.out.ps (by omega)
        rw [signT_is hs6] at hb
        have t1 := isS_in hs6
        refine hb.mono ?_
        clear hb
        rintro e w1 ⟨rfl, hb⟩
        have S1 := hidden (S0.out.below hb)
        clear hb
        have E8 := hidden (ex_skip E1_5.out hs6)
        have hlt := isS_in hs6
        clear hs6
        go_wp2_with fail
        refine (take8 S1.out.ps (by omega)).mono ?_
        rintro e w15 ⟨rfl, hp, ho⟩
        have S15 := hidden (S1.out.only ho hp)
        clear hp ho
        go_wp2_with fail
        refine ((ih .seq (i + 1) (by omega) (by omega) : Rule c 111 .seq (i + 1)) _ S15.out.ps).mono ?_
        intro e w16 hg
        cases hx : reads c.ts .seq (i + 1) with
        | error m =>
         rw [hx] at hg
         obtain ⟨rfl, ho⟩ := hg
         exact ⟨rfl, S15.out.stop ho (ex_err E8.out hx)⟩
        | ok xj =>
         obtain ⟨x16, j16⟩ := xj
         have f16 := reads_fine (ts := c.ts) .seq (i := i + 1) (by omega)
         rw [hx] at hg f16
         obtain ⟨ao16, cp16, rfl, hl, hp, ho⟩ := hg
         have E16 := hidden (ex_ok E8.out hx)
         have b16 : j16 ≤ c.ts.length := f16.2.1
         have a16 : i + 1 < j16 := f16.2.2 _ _ rfl rfl
         have X16 := hidden (Has.of hl S15.out)
         have S16 := hidden (S15.out.only ho hp)
         clear hl hp ho hx f16
         have M17 := hidden (Mk.first S16.out cp16 X16.out 26 (c.pl i) 0 ⟨#[]⟩)
         go_wp2_with fail
         obtain ⟨Rl, hRl⟩ : ∃ Rl, Rl = loopR c.ts (j16) := ⟨_, rfl⟩
         have HRl := hidden hRl
         have EL := hidden (loop_eq (f := fun y => .mk 26 i 0 [] [x16, y]) E16.out)
         rw [← hRl] at EL
         clear hRl
         refine region_till (S := (fun w' => w'.cell? ⟨(w16.heap.size + 1), 4, none⟩ = some (.slice (some ⟨w16.heap.size, 0, none⟩) 1 1))) (kz := 7) (by kernel_rfl) M17.out.cell (fun hHeld => ?_)
         refine AnyTill.tk (i := 0) (v := ?_) hHeld ?_ ?_
         rotate_left
         ·(intro w hSw; (try dsimp only at hSw); go_simp; (try with_reducible rfl))
         (try simp only [Act.put, q4, q5, q6, q1, q2, q3])
         refine AnyTill.tk (i := 1) (v := ?_) hHeld ?_ ?_
         rotate_left
         ·(intro w hSw; (try dsimp only at hSw); go_simp; (try with_reducible rfl))
         (try simp only [Act.put, q4, q5, q6, q1, q2, q3])
         refine AnyTill.tk (i := 2) (v := ?_) hHeld ?_ ?_
         rotate_left
         ·(intro w hSw; (try dsimp only at hSw); go_simp; (try with_reducible rfl))
         (try simp only [Act.put, q4, q5, q6, q1, q2, q3])
         refine AnyTill.one (i := 3) (by kernel_rfl) rfl (fun K hK => ?_)
         (try simp only [q1, q2, q3])
         go_simp
         refine (m_loop (C := .ret) (M17.out.drew).st.ps (by omega) (fun n j h1 h2 => ih n j (by omega) h2) HRl.out).mono ?_
         intro e w18 hg
         cases hL : Rl with
         | error m =>
          rw [hL] at hg
          obtain ⟨rfl, ho⟩ := hg
          exact ⟨rfl, (M17.out.drew).st.stop ho (by rw [EL.out, hL])⟩
         | ok xj =>
          obtain ⟨x18, j18⟩ := xj
          rw [hL] at hg
          obtain ⟨ao18, cp18, rfl, hl, hp, ho⟩ := hg
          have E18 := hidden (show R = .ok (.mk 26 i 0 [] [x16, _], _) by rw [EL.out, hL])
          have X18 := hidden ((M17.out.drew).fresh hl)
          have M18 := hidden ((M17.out.drew).only ho hp)
          clear hl hp ho
          clear hL
          refine hK.out _ _ (fun _ => M18.out.cell) ?_
          clear hHeld
          clear hK K
          (try simp only [Act.put, q4, q5, q6, q1, q2, q3])
          refine AnyTill.one (i := 4) (by kernel_rfl) rfl (fun K hK => ?_)
          (try simp only [q1, q2, q3])
          go_simp
          refine hK.out _ _ (fun _ => (M18.out.alloc _).cell) ?_
          clear hK K
          (try simp only [Act.put, q4, q5, q6, q1, q2, q3])
          refine AnyTill.one (i := 5) (by kernel_rfl) rfl (fun K hK => ?_)
          refine step_nodes rfl (.tmp 58) (.tmp 61) rfl (.slice (some ⟨w16.heap.size, 0, none⟩) 1 1) ([⟨x16, ao16, cp16⟩] : List ND) [⟨x18, ao18, cp18⟩] (by simp [Act.eval]) (M18.out.alloc _).v (by have := (M18.out.alloc (.cells #[.int .i64 x18.kind, .int .i64 (c.pl x18.pl), .int .i64 x18.N, .string ⟨x18.S.toArray⟩, .slice ao18 x18.L.length cp18] 25)).n.lt; omega) w18.heap.size 1 (by simp [Act.eval]) (news_one (blk_alloc_new _ _)) (fun d hd => by rw [List.mem_singleton.1 hd]; exact X18.out.alloc _) (by simp) (by simp) (by have := M18.out.st.size; rw [nblk_alloc]; omega) ?_
          intro va19 vn19 vc19 w19 hv hgr
          have N19 := hidden ((M18.out.alloc _).n.grown hgr M18.out.v.ne)
          have M19 := hidden ((M18.out.alloc _).grown hgr hv)
          obtain ⟨n0, n1, n2, n3, n4, nf⟩ := N19.out.cells
          clear n0 n1 n2 n3
          have G19 := hidden ((M18.out.alloc _).gone hgr hv)
          clear hv hgr
          refine hK.out _ _ (fun _ => n4) ?_
          clear hK K
          (try simp only [Act.put, q4, q5, q6, q1, q2, q3])
          refine AnyTill.one (i := 6) (by kernel_rfl) rfl (fun K hK => ?_)
          (try simp only [q1, q2, q3])
          go_simp
          refine hK.out _ _ (fun _ => n4) ?_
          clear hK K
          (try simp only [Act.put, q4, q5, q6, q1, q2, q3])
          refine AnyTill.one (i := 7) (by kernel_rfl) rfl (fun K hK => ?_)
          (try simp only [q1, q2, q3])
          go_simp
          refine hK.out _ _ (fun h => absurd rfl h) ?_
          clear n4 nf
          clear hK K
          (try simp only [Act.put, q4, q5, q6, q1, q2, q3])
          refine AnyTill.done (by kernel_rfl) ?_ _
          (try simp only [Act.put, q4, q5, q6, q1, q2, q3])
          obtain ⟨W, hW⟩ : ∃ W, (w19.setCell ⟨(w16.heap.size + 1), 4, none⟩ (.slice va19 vn19 vc19)) = W := ⟨_, rfl⟩
          have MW : Hid (Mk c w W _ _ _ _ _ _ _ _) := hidden (hW ▸ M19.out)
          rw [hW]
          clear hW
          obtain ⟨y0, y1, y2, y3, y4, yf⟩ := MW.out.n.cells
          obtain ⟨z0, z1, z2, z3, z4, zf⟩ := MW.out.st.zc
          clear yf
          go_wp2_with fail
          refine bodyPost_ret (results_cell_row rfl _ _ w.heap.size 25 #[.int .i64 26, .int .i64 (c.pl i), .int .i64 0, .string ⟨[].toArray⟩, (.slice va19 vn19 vc19)] (0, 0) _ rfl (MW.out.st.row _ _ _ _ _) Tryz.underlying25 rfl (by kernel_rfl)) rfl ?_
          exact MW.out.ret (s := []) (E18.out) rfl
       | false =>
        have E1_6 := hidden (ex_skipN E1_5.out hs6)
        have z1_6 := signT_no hs6 (by decide)
        clear hs6
        cases hs7 : isS [102, 111, 114] (tk c.ts (i)) with
        | true =>
         have hb := sign8 S0.out.ps (by omega)
         rw [signT_is hs7] at hb
         have t1 := isS_in hs7
         refine hb.mono ?_
         clear hb
         rintro e w1 ⟨rfl, hb⟩
         have S1 := hidden (S0.out.below hb)
         clear hb
         have E8 := hidden (ex_skip E1_6.out hs7)
         have hlt := isS_in hs7
         clear hs7
         go_wp2_with fail
         have HX := hidden (HC.out R _ S1.out.ps hlt E8.out)
         refine (HX.out).mono ?_
         intro e w21 hg
         cases hR : R with
         | error m =>
          rw [hR] at hg
          obtain ⟨rfl, ho⟩ := hg
          exact ⟨rfl, S1.out.stop ho hR⟩
         | ok xj =>
          obtain ⟨x21, j21⟩ := xj
          rw [hR] at hg
          obtain ⟨ao21, cp21, rfl, hl, hp, ho⟩ := hg
          have X21 := hidden (Has.of hl S1.out)
          have HR := hidden hR
          have S21 := hidden (S1.out.only ho hp)
          clear hl hp ho hR
          obtain ⟨z0, z1, z2, z3, z4, zf⟩ := S21.out.zc
          go_wp2_with fail
          refine bodyPost_ret (results_cell_row rfl _ _ w.heap.size 25 #[.int .i64 x21.kind, .int .i64 (c.pl x21.pl), .int .i64 x21.N, .string ⟨x21.S.toArray⟩, .slice ao21 x21.L.length cp21] (0, 0) _ rfl (S21.out.row _ _ _ _ _) Tryz.underlying25 rfl (by kernel_rfl)) rfl ?_
          exact S21.out.ret X21.out HR.out rfl
        | false =>
         have E1_7 := hidden (ex_skipN E1_6.out hs7)
         have z1_7 := signT_no hs7 (by decide)
         clear hs7
         have hb := sign8 S0.out.ps (by omega)
         refine hb.mono ?_
         clear hb
         rintro e w1 ⟨rfl, hb⟩
         have S1 := hidden (S0.out.below hb)
         clear hb
         generalize (⟨(signT (tk c.ts (i))).toArray⟩ : ByteArray) = sv1 at *
         go_wp2_with fail
         have HX := hidden (HPt.out R _ S1.out.ps E1_7.out)
         refine (HX.out).mono ?_
         intro e w22 hg
         cases hR : R with
         | error m =>
          rw [hR] at hg
          obtain ⟨rfl, ho⟩ := hg
          exact ⟨rfl, S1.out.stop ho hR⟩
         | ok xj =>
          obtain ⟨x22, j22⟩ := xj
          rw [hR] at hg
          obtain ⟨ao22, cp22, rfl, hl, hp, ho⟩ := hg
          have X22 := hidden (Has.of hl S1.out)
          have HR := hidden hR
          have S22 := hidden (S1.out.only ho hp)
          clear hl hp ho hR
          obtain ⟨z0, z1, z2, z3, z4, zf⟩ := S22.out.zc
          go_wp2_with fail
          refine bodyPost_ret (results_cell_row rfl _ _ w.heap.size 25 #[.int .i64 x22.kind, .int .i64 (c.pl x22.pl), .int .i64 x22.N, .string ⟨x22.S.toArray⟩, .slice ao22 x22.L.length cp22] (0, 0) _ rfl (S22.out.row _ _ _ _ _) Tryz.underlying25 rfl (by kernel_rfl)) rfl ?_
          exact S22.out.ret X22.out HR.out rfl
end
end Go.Proofs.YthjmakjhidjbaaaGreat
