/-
  Several small texts in one; each tells at its head what it proves, and on what condition.
-/
import Derived.Test.YthjmakjhidjbaaaGreatLibAH
import Derived.Test.YthjmakjhidjbaaaGreatLibAF

/-
 Layer 8, the program's parser: rules' methods. Condition: the rules that they are made of do as the grammar says.
-/
namespace Go.Proofs.YthjmakjhidjbaaaGreat
open Go.ChangeShapes Go.WideShapes Go.ChangeAt Go.RowKit Go.Deep
set_option linter.unusedVariables false
set_option linter.unusedSimpArgs false
set_option maxHeartbeats 2000000
set_option maxRecDepth 20000
attribute [local go_sem ↓] Go.wp_at_zero Go.wp_at_succ

section
variable {c : PC} {w : World} {i : Nat}
theorem m_listed {R : Res} {kd : Int} {k1 : Nat} {n1 : NT} {sg : List UInt8} {tail : Nat → Res} (h : PS c w i) (hi : i < c.ts.length) (hsg : sg ≠ []) (hh : hard n1 = true) (e1 : EntersF k1) (ht : Tail c.ts n1 sg tail) (r1 : ∀ j, i < j → j ≤ c.ts.length → Rule c k1 n1 j) (hE : R = (if isS sg (tk c.ts (i + 1)) then .ok (.mk kd i 0 [] [], i + 1 + 1) else brR c.ts n1 sg tail kd i)) : Calls Tryz.prog 142 #[.pointer (some ⟨c.b, 0, none⟩), .int .i64 kd, .func (.func k1) #[.pointer (some ⟨c.b, 0, none⟩)] #[], .string ⟨sg.toArray⟩] w fun e w' => Got8 c R w e w' := by
 have E0 := hidden hE
 have S0 := hidden (St.new h)
 have fl := fld1
 have HT := hidden ht
 have H1 := hidden r1
 clear h hE ht r1
 go_enter Tryz.func142, Tryz.ntmps142
 go_wp2_with fail
 refine (take8 S0.out.ps (by omega)).mono ?_
 rintro e w1 ⟨rfl, hp, ho⟩
 have S1 := hidden (S0.out.only ho hp)
 clear hp ho
 have M2 := hidden (Mk.zero S1.out kd (c.pl i) 0 ⟨#[]⟩)
 go_wp2_with fail
 cases hs : isS sg (tk c.ts (i + 1)) with
 | true =>
  have t3 := isS_in hs
  have E3 := hidden ((fun h hs => by rw [h, hs]; rfl : _ → _ → R = .ok (.mk kd i 0 [] [], i + 1 + 1)) E0.out hs)
  refine (has_yes M2.out.st.ps sg hsg hs).mono ?_
  rintro e w3 ⟨rfl, hp, ho⟩
  have M3 := hidden (M2.out.only ho hp)
  clear hp ho hs
  obtain ⟨y0, y1, y2, y3, y4, yf⟩ := M3.out.n.cells
  obtain ⟨z0, z1, z2, z3, z4, zf⟩ := M3.out.st.zc
  clear yf
  go_wp2_with fail
  refine bodyPost_ret (results_cell_row rfl _ _ w.heap.size 25 #[.int .i64 kd, .int .i64 (c.pl i), .int .i64 0, .string ⟨[].toArray⟩, (.slice none 0 0)] (0, 0) _ rfl (M3.out.st.row _ _ _ _ _) Tryz.underlying25 rfl (by kernel_rfl)) rfl ?_
  exact M3.out.ret (s := []) (E3.out) rfl
 | false =>
  have E3 := hidden ((fun h hs => by rw [h, hs]; rfl : _ → _ → R = brR c.ts n1 sg tail kd i) E0.out hs)
  refine (has_no M2.out.st.ps (by omega) sg hsg hs).mono ?_
  rintro e w3 ⟨rfl, hb⟩
  have M3 := hidden (M2.out.below hb)
  clear hb hs
  obtain ⟨Rl, hRl⟩ : ∃ Rl, Rl = lstR c.ts n1 sg tail (i + 1) := ⟨_, rfl⟩
  have HRl := hidden hRl
  have EE := E3.out
  unfold brR at EE
  rw [← hRl] at EE
  have EE2 := hidden EE
  clear hRl EE
  go_wp2_with fail
  refine (m_list (fst := #[.pointer (some ⟨c.b, 0, none⟩)]) (cap := #[]) M3.out.st.ps (by omega) hsg hh e1 HT.out (fun j h1 h2 w' _ hp => H1.out j (by omega) h2 w' hp) HRl.out).mono ?_
  intro e w5 hg
  cases hL : Rl with
  | error m =>
   rw [hL] at hg
   obtain ⟨rfl, ho⟩ := hg
   exact ⟨rfl, M3.out.st.stop ho (by rw [EE2.out, hL])⟩
  | ok xj =>
   obtain ⟨x5, j5⟩ := xj
   rw [hL] at hg
   obtain ⟨ao5, cp5, rfl, hl, hp, ho⟩ := hg
   have E5 := hidden (show R = .ok (.mk kd i 0 [] _, _) by rw [EE2.out, hL])
   have X5 := hidden (M3.out.fresh hl)
   have M5 := hidden (M3.out.only ho hp)
   clear hl hp ho
   clear hL
   obtain ⟨y0, y1, y2, y3, y4, yf⟩ := M5.out.n.cells
   have yl := M5.out.n.lt
   have yn := Nat.ne_of_lt yl
   obtain ⟨z0, z1, z2, z3, z4, zf⟩ := M5.out.st.zc
   have zl := M5.out.st.size
   have zn := Nat.ne_of_lt zl
   have zq := M5.out.hq
   have zq2 := Nat.ne_of_lt zq
   have zq3 := (Nat.ne_of_lt zq).symm
   go_wp2_with fail
   refine bodyPost_ret (results_cell_row rfl _ _ w.heap.size 25 #[.int .i64 kd, .int .i64 (c.pl i), .int .i64 0, .string ⟨[].toArray⟩, .slice ao5 x5.L.length cp5] (0, 0) _ rfl ((M5.out.st.set (a := ⟨w1.heap.size, 4, none⟩) M5.out.hq _).row _ _ _ _ _) Tryz.underlying25 rfl (by kernel_rfl)) rfl ?_
   exact M5.out.retL (s := []) X5.out (E5.out) rfl
end
end Go.Proofs.YthjmakjhidjbaaaGreat

/-
 Layer 8, the program's parser: rules' methods. Condition: the rules that they are made of do as the grammar says.
-/
namespace Go.Proofs.YthjmakjhidjbaaaGreat
open Go.ChangeShapes Go.WideShapes Go.ChangeAt Go.RowKit Go.Deep
set_option linter.unusedVariables false
set_option linter.unusedSimpArgs false
set_option maxHeartbeats 2000000
set_option maxRecDepth 20000
attribute [local go_sem ↓] Go.wp_at_zero Go.wp_at_succ

section
variable {c : PC} {w : World} {i : Nat}
theorem m_bracketed {R : Res} (h : PS c w i) {un : Int} {k1 : Nat} {n1 : NT} (hi : i < c.ts.length) (hh : hard n1 = true) (e1 : EntersF k1) (r1 : Rule c k1 n1 (i + 1)) (ih : Beh c i) (hE : R = exec c.ts (reads c.ts) (.skip [41] (.ret (.mk un i 0 [] [])) (.call n1 fun x => .must [41] (.ret x))) (i + 1)) : Calls Tryz.prog 141 #[.pointer (some ⟨c.b, 0, none⟩), .int .i64 un, .func (.func k1) #[.pointer (some ⟨c.b, 0, none⟩)] #[]] w fun e w' => Got8 c R w e w' := by
 have E0 := hidden hE
 have S0 := hidden (St.new h)
 have fl0 := fld1
 clear h hE
 go_enter Tryz.func141, Tryz.ntmps141
 go_wp2_with fail
 refine (take8 S0.out.ps (by omega)).mono ?_
 rintro e w1 ⟨rfl, hp, ho⟩
 have S1 := hidden (S0.out.only ho hp)
 clear hp ho
 go_wp2_with fail
 cases hs : isS [41] (tk c.ts (i + 1)) with
 | true =>
  have t2 := isS_in hs
  have E2 := hidden (ex_skip E0.out hs)
  refine (has_yes S1.out.ps [41] (by decide) hs).mono ?_
  rintro e w2 ⟨rfl, hp, ho⟩
  have S2 := hidden (S1.out.only ho hp)
  clear hp ho hs
  obtain ⟨z0, z1, z2, z3, z4, zf⟩ := S2.out.zc
  go_wp2_with fail
  refine bodyPost_ret (results_cell_row rfl _ _ w.heap.size 25 #[.int .i64 un, .int .i64 (c.pl i), .int .i64 0, .string ⟨#[]⟩, .slice none 0 0] (0, 0) _ rfl (S2.out.row _ _ _ _ _) Tryz.underlying25 rfl (by kernel_rfl)) rfl ?_
  exact S2.out.ret (x := .mk un i 0 [] []) (ao := none) (cp := 0) RL.nil (E2.out) rfl
 | false =>
  have E2 := hidden (ex_skipN E0.out hs)
  refine (has_no S1.out.ps (by omega) [41] (by decide) hs).mono ?_
  rintro e w2 ⟨rfl, hb⟩
  have S2 := hidden (S1.out.below hb)
  clear hb hs
  go_wp2_with fail
  refine (r1 _ S2.out.ps).mono ?_
  intro e w3 hg
  cases hx : reads c.ts n1 (i + 1) with
  | error m =>
   rw [hx] at hg
   obtain ⟨rfl, ho⟩ := hg
   exact ⟨rfl, S2.out.stop ho (ex_err E2.out hx)⟩
  | ok xj =>
   obtain ⟨x3, j3⟩ := xj
   have f3 := reads_fine (ts := c.ts) n1 (i := i + 1) (by omega)
   rw [hx] at hg f3
   obtain ⟨ao3, cp3, rfl, hl, hp, ho⟩ := hg
   have E3 := hidden (ex_ok E2.out hx)
   have b3 : j3 ≤ c.ts.length := f3.2.1
   have a3 : i + 1 < j3 := f3.2.2 _ _ rfl hh
   have X3 := hidden (Has.of hl S2.out)
   have S3 := hidden (S2.out.only ho hp)
   clear hl hp ho hx f3
   have V3 := hidden (Lc.new S3.out x3.kind (c.pl x3.pl) x3.N ⟨x3.S.toArray⟩ (.slice ao3 x3.L.length cp3))
   go_wp2_with fail
   cases hs : isS [41] (tk c.ts (j3)) with
   | false =>
    refine (must_no (S3.out.alloc _).ps (by omega) [41] (by decide) hs).mono ?_
    rintro e w' ⟨rfl, ho⟩
    exact ⟨rfl, (S3.out.alloc _).stop ho (ex_mustN E3.out hs)⟩
   | true =>
    have t4 := isS_in hs
    have E4 := hidden (ex_must E3.out hs)
    refine (must_yes (S3.out.alloc _).ps [41] (by decide) hs).mono ?_
    rintro e w4 ⟨rfl, hp, ho⟩
    have X3_4 := hidden ((X3.out.alloc _).only (S3.out.alloc _) ho)
    have V3_4 := hidden (V3.out.only (S3.out.alloc _) ho)
    have S4 := hidden ((S3.out.alloc _).only ho hp)
    clear hp ho hs
    obtain ⟨y0, y1, y2, y3, y4, yf⟩ := V3_4.out.n.cells
    obtain ⟨z0, z1, z2, z3, z4, zf⟩ := S4.out.zc
    clear yf
    go_wp2_with fail
    refine bodyPost_ret (results_cell_row rfl _ _ w.heap.size 25 #[.int .i64 x3.kind, .int .i64 (c.pl x3.pl), .int .i64 x3.N, .string ⟨x3.S.toArray⟩, .slice ao3 x3.L.length cp3] (0, 0) _ rfl (S4.out.row _ _ _ _ _) Tryz.underlying25 rfl (by kernel_rfl)) rfl ?_
    exact S4.out.ret X3_4.out (E4.out) rfl
theorem m_pat {R : Res} (h : PS c w i) (hi : i ≤ c.ts.length) (hA : Rule c 122 .alt i) (ih : Beh c i) (hE : R = exec c.ts (reads c.ts) (.call .alt fun x => .call (.patR x) .ret) (i)) : Calls Tryz.prog 109 #[.pointer (some ⟨c.b, 0, none⟩)] w fun e w' => Got8 c R w e w' := by
 have E0 := hidden hE
 have S0 := hidden (St.new h)
 have fl0 := fld1
 have fl1 := fld3
 clear h hE
 go_enter Tryz.func109, Tryz.ntmps109
 go_wp2_with fail
 refine (hA _ S0.out.ps).mono ?_
 intro e w1 hg
 cases hx : reads c.ts .alt (i) with
 | error m =>
  rw [hx] at hg
  obtain ⟨rfl, ho⟩ := hg
  exact ⟨rfl, S0.out.stop ho (ex_err E0.out hx)⟩
 | ok xj =>
  obtain ⟨x1, j1⟩ := xj
  have f1 := reads_fine (ts := c.ts) .alt (i := i) (by omega)
  rw [hx] at hg f1
  obtain ⟨ao1, cp1, rfl, hl, hp, ho⟩ := hg
  have E1 := hidden (ex_ok E0.out hx)
  have b1 : j1 ≤ c.ts.length := f1.2.1
  have a1 : i < j1 := f1.2.2 _ _ rfl rfl
  have X1 := hidden (Has.of hl S0.out)
  have S1 := hidden (S0.out.only ho hp)
  clear hl hp ho hx f1
  have Eb := hidden (ex_end E1.out)
  go_wp2_with fail
  have U2 := hidden (Va.new S1.out X1.out cp1)
  go_loopg [] (c.ts.length + 1 - (j1)) (fun gk wr => InV c w (i + 1) (fun x k => R = reads c.ts (.patR x) k) w1.heap.size gk wr)
  case atStart => exact ⟨_, _, _, _, by omega, by omega, rfl, U2.out, Eb.out⟩
  case round =>
   obtain ⟨k3, x3, ao3, cp3, kb3, ka3, kg3, hm, hE⟩ := hrel
   have U3 := hidden hm
   have E3 := hidden hE
   clear hm hE
   have EE : Hid (R = exec c.ts (reads c.ts) (.skip [97, 115] (.token 3 fun t => .call (.patR (.mk 113 k3 0 t.S [x3])) .ret) (.ret x3)) k3) := E3.out.trans (reads_eq _ kb3)
   go_wp2_with fail
   cases hs : isS [97, 115] (tk c.ts (k3)) with
   | true =>
    have t4 := isS_in hs
    have E4 := hidden (ex_skip EE.out hs)
    refine (comesR1 U3.out.st.ps (by omega) [97, 115] (by decide) hs (by first | exact nblk_alloc _ _ | rfl | simp only [nblk_alloc, nblk_setCell])).mono ?_
    rintro e w4 ⟨rfl, hb⟩
    have U4 := hidden (U3.out.below hb)
    go_wp2_with fail
    obtain ⟨n0, n1, n2, n3, n4, nf⟩ := U4.out.n.cells
    have U0 := U4.out
    clear nf hb hs
    refine region_till (S := (fun w' => w'.cell? ⟨w1.heap.size, 0, none⟩ = some (.int .i64 x3.kind) ∧ w'.cell? ⟨w1.heap.size, 1, none⟩ = some (.int .i64 (c.pl x3.pl)) ∧ w'.cell? ⟨w1.heap.size, 2, none⟩ = some (.int .i64 x3.N) ∧ w'.cell? ⟨w1.heap.size, 3, none⟩ = some (.string ⟨x3.S.toArray⟩) ∧ w'.cell? ⟨w1.heap.size, 4, none⟩ = some (.slice ao3 x3.L.length cp3))) (kz := 9) (by kernel_rfl) ⟨n0, n1, n2, n3, n4⟩ (fun hHeld => ?_)
    refine AnyTill.tk (i := 0) (v := ?_) hHeld ?_ ?_
    rotate_left
    ·(intro w hSw; (try dsimp only at hSw); go_simp; (try with_reducible rfl))
    (try simp only [Act.put, q4, q5, q6, q1, q2, q3])
    refine AnyTill.tk (i := 3) (v := ?_) hHeld ?_ ?_
    rotate_left
    ·(intro w hSw; (try dsimp only at hSw); go_simp; (try with_reducible rfl))
    (try simp only [Act.put, q4, q5, q6, q1, q2, q3])
    refine AnyTill.tk (i := 6) (v := ?_) hHeld ?_ ?_
    rotate_left
    ·(intro w hSw; (try dsimp only at hSw); go_simp; (try with_reducible rfl))
    (try simp only [Act.put, q4, q5, q6, q1, q2, q3])
    refine AnyTill.two (i := 1) (j := 7) (by kernel_rfl) rfl rfl (fun K hK => ?_) (fun K hK => ?_)
    ·(try simp only [q1, q2, q3])
     go_simp
     refine (take8 (U4.out.drew).st.ps (by omega)).mono ?_
     rintro e w5 ⟨rfl, hp, ho⟩
     have U5 := hidden ((U4.out.drew).only ho hp)
     clear hp ho
     obtain ⟨n0, n1, n2, n3, n4, nf⟩ := U5.out.n.cells
     refine hK.out _ _ (fun _ => ⟨n0, n1, n2, n3, n4⟩) ?_
     clear hK K
     (try simp only [Act.put, q4, q5, q6, q1, q2, q3])
     refine AnyTill.take (i := 2) (v := ?_) rfl (by kernel_rfl) (by kernel_rfl) (by kernel_rfl) (by kernel_rfl) (fun _ _ _ h => h) (Or.inl ⟨by rfl, ?_⟩) ⟨n0, n1, n2, n3, n4⟩ ?_
     rotate_left
     ·(intro w hSw; (try dsimp only at hSw); go_simp; (try with_reducible rfl))
     (try simp only [Act.put, q4, q5, q6, q1, q2, q3])
     refine AnyTill.two (i := 4) (j := 7) (by kernel_rfl) rfl rfl (fun K hK => ?_) (fun K hK => ?_)
     ·(try simp only [q1, q2, q3])
      go_simp
      cases hs : isK 3 (tk c.ts (k3 + 1)) with
      | false =>
       refine (mustBe_no U5.out.st.ps (by omega) 3 hs).mono ?_
       rintro e w' ⟨rfl, ho⟩
       exact ⟨rfl, U5.out.st.stop ho (ex_tokenN E4.out hs)⟩
      | true =>
       have t6 := isK_in hs (by decide)
       have E6 := hidden (ex_token E4.out hs (by decide))
       refine (mustBe_yes U5.out.st.ps 3 (by decide) hs).mono ?_
       rintro e w6 ⟨rfl, hp, ho⟩
       have U6 := hidden (U5.out.only ho hp)
       clear hp ho hs
       obtain ⟨n0, n1, n2, n3, n4, nf⟩ := U6.out.n.cells
       refine hK.out _ _ (fun _ => ⟨n0, n1, n2, n3, n4⟩) ?_
       clear hK K
       (try simp only [Act.put, q4, q5, q6, q1, q2, q3])
       refine AnyTill.take (i := 5) (v := ?_) rfl (by kernel_rfl) (by kernel_rfl) (by kernel_rfl) (by kernel_rfl) (fun _ _ _ h => h) (Or.inl ⟨by rfl, ?_⟩) ⟨n0, n1, n2, n3, n4⟩ ?_
       rotate_left
       ·(intro w hSw; (try dsimp only at hSw); go_simp; (try with_reducible rfl))
       (try simp only [Act.put, q4, q5, q6, q1, q2, q3])
       refine AnyTill.one (i := 7) (by kernel_rfl) rfl (fun K hK => ?_)
       (try simp only [q1, q2, q3])
       go_simp
       have vne := (Nat.ne_of_lt U6.out.n.lt).symm
       have VR7 := hidden (Lc.new U6.out.st x3.kind (c.pl x3.pl) x3.N ⟨x3.S.toArray⟩ (.slice ao3 x3.L.length cp3))
       obtain ⟨n0, n1, n2, n3, n4, nf⟩ := ((U6.out.alloc (.cells #[.int .i64 x3.kind, .int .i64 (c.pl x3.pl), .int .i64 x3.N, .string ⟨x3.S.toArray⟩, .slice ao3 x3.L.length cp3] 25))).n.cells
       refine hK.out _ _ (fun _ => ⟨n0, n1, n2, n3, n4⟩) ?_
       clear hK K
       (try simp only [Act.put, q4, q5, q6, q1, q2, q3])
       have nl := U6.out.n.lt
       have nn := Nat.ne_of_lt nl
       obtain ⟨m0, m1, m2, m3, m4, mf⟩ := U6.out.n.cells
       refine AnyTill.take (i := 8) (v := ?_) rfl (by kernel_rfl) (by kernel_rfl) (by kernel_rfl) (by kernel_rfl) (fun _ _ _ h => h) (Or.inl ⟨by rfl, ?_⟩) ⟨n0, n1, n2, n3, n4⟩ ?_
       rotate_left
       ·(intro w hSw; (try dsimp only at hSw); go_simp; (try with_reducible rfl))
       (try simp only [Act.put, q4, q5, q6, q1, q2, q3])
       refine AnyTill.one (i := 9) (by kernel_rfl) rfl (fun K hK => ?_)
       (try simp only [q1, q2, q3])
       go_simp
       refine hK.out _ _ (fun h => absurd rfl h) ?_
       clear hK K
       (try simp only [Act.put, q4, q5, q6, q1, q2, q3])
       refine AnyTill.done (by kernel_rfl) ?_ _
       (try simp only [Act.put, q4, q5, q6, q1, q2, q3])
       clear n0 n1 n2 n3 n4 nf
       clear nl nn m0 m1 m2 m3 m4 mf
       go_wp2_with fail
       go_roundg (c.ts.length + 1 - (k3 + 1 + 1))
       case rel => exact ⟨_, _, _, _, by omega, by omega, rfl, (U6.out.wrap 113 k3 0 (tk c.ts (k3 + 1)).S), ex_end E6.out⟩
       case measure => omega
     ·(try simp only [q1, q2, q3])
      go_simp
      have vne := (Nat.ne_of_lt U5.out.n.lt).symm
      have VR8 := hidden (Lc.new U5.out.st x3.kind (c.pl x3.pl) x3.N ⟨x3.S.toArray⟩ (.slice ao3 x3.L.length cp3))
      obtain ⟨n0, n1, n2, n3, n4, nf⟩ := ((U5.out.alloc (.cells #[.int .i64 x3.kind, .int .i64 (c.pl x3.pl), .int .i64 x3.N, .string ⟨x3.S.toArray⟩, .slice ao3 x3.L.length cp3] 25))).n.cells
      refine hK.out _ _ (fun _ => ⟨n0, n1, n2, n3, n4⟩) ?_
      clear hK K
      (try simp only [Act.put, q4, q5, q6, q1, q2, q3])
      refine AnyTill.one (i := 4) (by kernel_rfl) rfl (fun K hK => ?_)
      (try simp only [q1, q2, q3])
      go_simp
      cases hs : isK 3 (tk c.ts (k3 + 1)) with
      | false =>
       refine (mustBe_no (U5.out.alloc _).st.ps (by omega) 3 hs).mono ?_
       rintro e w' ⟨rfl, ho⟩
       exact ⟨rfl, (U5.out.alloc _).st.stop ho (ex_tokenN E4.out hs)⟩
      | true =>
       have t9 := isK_in hs (by decide)
       have E9 := hidden (ex_token E4.out hs (by decide))
       refine (mustBe_yes (U5.out.alloc _).st.ps 3 (by decide) hs).mono ?_
       rintro e w9 ⟨rfl, hp, ho⟩
       have VR_9 := hidden (VR8.out.only (U5.out.alloc _).st ho)
       have U9 := hidden ((U5.out.alloc _).only ho hp)
       clear hp ho hs
       obtain ⟨n0, n1, n2, n3, n4, nf⟩ := U9.out.n.cells
       refine hK.out _ _ (fun _ => ⟨n0, n1, n2, n3, n4⟩) ?_
       clear hK K
       (try simp only [Act.put, q4, q5, q6, q1, q2, q3])
       refine AnyTill.take (i := 5) (v := ?_) rfl (by kernel_rfl) (by kernel_rfl) (by kernel_rfl) (by kernel_rfl) (fun _ _ _ h => h) (Or.inl ⟨by rfl, ?_⟩) ⟨n0, n1, n2, n3, n4⟩ ?_
       rotate_left
       ·(intro w hSw; (try dsimp only at hSw); go_simp; (try with_reducible rfl))
       (try simp only [Act.put, q4, q5, q6, q1, q2, q3])
       refine AnyTill.take (i := 8) (v := ?_) rfl (by kernel_rfl) (by kernel_rfl) (by kernel_rfl) (by kernel_rfl) (fun _ _ _ h => h) (Or.inl ⟨by rfl, ?_⟩) ⟨n0, n1, n2, n3, n4⟩ ?_
       rotate_left
       ·(intro w hSw; (try dsimp only at hSw); go_simp; (try with_reducible rfl))
       (try simp only [Act.put, q4, q5, q6, q1, q2, q3])
       refine AnyTill.one (i := 9) (by kernel_rfl) rfl (fun K hK => ?_)
       (try simp only [q1, q2, q3])
       go_simp
       refine hK.out _ _ (fun h => absurd rfl h) ?_
       clear hK K
       (try simp only [Act.put, q4, q5, q6, q1, q2, q3])
       refine AnyTill.done (by kernel_rfl) ?_ _
       (try simp only [Act.put, q4, q5, q6, q1, q2, q3])
       clear n0 n1 n2 n3 n4 nf
       go_wp2_with fail
       go_roundg (c.ts.length + 1 - (k3 + 1 + 1))
       case rel => exact ⟨_, _, _, _, by omega, by omega, rfl, (U9.out.wrapAt VR_9.out vne 113 k3 0 (tk c.ts (k3 + 1)).S), ex_end E9.out⟩
       case measure => omega
    ·(try simp only [q1, q2, q3])
     go_simp
     have vne := (Nat.ne_of_lt (U4.out.drew).n.lt).symm
     have VR10 := hidden (Lc.new (U4.out.drew).st x3.kind (c.pl x3.pl) x3.N ⟨x3.S.toArray⟩ (.slice ao3 x3.L.length cp3))
     obtain ⟨n0, n1, n2, n3, n4, nf⟩ := ((U4.out.drew.alloc (.cells #[.int .i64 x3.kind, .int .i64 (c.pl x3.pl), .int .i64 x3.N, .string ⟨x3.S.toArray⟩, .slice ao3 x3.L.length cp3] 25))).n.cells
     refine hK.out _ _ (fun _ => ⟨n0, n1, n2, n3, n4⟩) ?_
     clear hK K
     (try simp only [Act.put, q4, q5, q6, q1, q2, q3])
     refine AnyTill.one (i := 1) (by kernel_rfl) rfl (fun K hK => ?_)
     (try simp only [q1, q2, q3])
     go_simp
     refine (take8 (U4.out.drew.alloc _).st.ps (by omega)).mono ?_
     rintro e w11 ⟨rfl, hp, ho⟩
     have VR_11 := hidden (VR10.out.only (U4.out.drew.alloc _).st ho)
     have U11 := hidden ((U4.out.drew.alloc _).only ho hp)
     clear hp ho
     obtain ⟨n0, n1, n2, n3, n4, nf⟩ := U11.out.n.cells
     refine hK.out _ _ (fun _ => ⟨n0, n1, n2, n3, n4⟩) ?_
     clear hK K
     (try simp only [Act.put, q4, q5, q6, q1, q2, q3])
     refine AnyTill.take (i := 2) (v := ?_) rfl (by kernel_rfl) (by kernel_rfl) (by kernel_rfl) (by kernel_rfl) (fun _ _ _ h => h) (Or.inl ⟨by rfl, ?_⟩) ⟨n0, n1, n2, n3, n4⟩ ?_
     rotate_left
     ·(intro w hSw; (try dsimp only at hSw); go_simp; (try with_reducible rfl))
     (try simp only [Act.put, q4, q5, q6, q1, q2, q3])
     refine AnyTill.one (i := 4) (by kernel_rfl) rfl (fun K hK => ?_)
     (try simp only [q1, q2, q3])
     go_simp
     cases hs : isK 3 (tk c.ts (k3 + 1)) with
     | false =>
      refine (mustBe_no U11.out.st.ps (by omega) 3 hs).mono ?_
      rintro e w' ⟨rfl, ho⟩
      exact ⟨rfl, U11.out.st.stop ho (ex_tokenN E4.out hs)⟩
     | true =>
      have t12 := isK_in hs (by decide)
      have E12 := hidden (ex_token E4.out hs (by decide))
      refine (mustBe_yes U11.out.st.ps 3 (by decide) hs).mono ?_
      rintro e w12 ⟨rfl, hp, ho⟩
      have VR_12 := hidden (VR_11.out.only U11.out.st ho)
      have U12 := hidden (U11.out.only ho hp)
      clear hp ho hs
      obtain ⟨n0, n1, n2, n3, n4, nf⟩ := U12.out.n.cells
      refine hK.out _ _ (fun _ => ⟨n0, n1, n2, n3, n4⟩) ?_
      clear hK K
      (try simp only [Act.put, q4, q5, q6, q1, q2, q3])
      refine AnyTill.take (i := 5) (v := ?_) rfl (by kernel_rfl) (by kernel_rfl) (by kernel_rfl) (by kernel_rfl) (fun _ _ _ h => h) (Or.inl ⟨by rfl, ?_⟩) ⟨n0, n1, n2, n3, n4⟩ ?_
      rotate_left
      ·(intro w hSw; (try dsimp only at hSw); go_simp; (try with_reducible rfl))
      (try simp only [Act.put, q4, q5, q6, q1, q2, q3])
      refine AnyTill.take (i := 8) (v := ?_) rfl (by kernel_rfl) (by kernel_rfl) (by kernel_rfl) (by kernel_rfl) (fun _ _ _ h => h) (Or.inl ⟨by rfl, ?_⟩) ⟨n0, n1, n2, n3, n4⟩ ?_
      rotate_left
      ·(intro w hSw; (try dsimp only at hSw); go_simp; (try with_reducible rfl))
      (try simp only [Act.put, q4, q5, q6, q1, q2, q3])
      refine AnyTill.one (i := 9) (by kernel_rfl) rfl (fun K hK => ?_)
      (try simp only [q1, q2, q3])
      go_simp
      refine hK.out _ _ (fun h => absurd rfl h) ?_
      clear hK K
      (try simp only [Act.put, q4, q5, q6, q1, q2, q3])
      refine AnyTill.done (by kernel_rfl) ?_ _
      (try simp only [Act.put, q4, q5, q6, q1, q2, q3])
      clear n0 n1 n2 n3 n4 nf
      go_wp2_with fail
      go_roundg (c.ts.length + 1 - (k3 + 1 + 1))
      case rel => exact ⟨_, _, _, _, by omega, by omega, rfl, (U12.out.wrapAt VR_12.out vne 113 k3 0 (tk c.ts (k3 + 1)).S), ex_end E12.out⟩
      case measure => omega
   | false =>
    have E4 := hidden (ex_skipN EE.out hs)
    refine (comesR1 U3.out.st.ps (by omega) [97, 115] (by decide) hs (by first | exact nblk_alloc _ _ | rfl | simp only [nblk_alloc, nblk_setCell])).mono ?_
    rintro e w4 ⟨rfl, hb⟩
    have U4 := hidden (U3.out.below hb)
    clear hb hs
    obtain ⟨y0, y1, y2, y3, y4, yf⟩ := U4.out.n.cells
    obtain ⟨z0, z1, z2, z3, z4, zf⟩ := U4.out.st.zc
    clear yf
    go_wp2_with fail
    refine bodyPost_ret (results_cell_row rfl _ _ w.heap.size 25 #[.int .i64 x3.kind, .int .i64 (c.pl x3.pl), .int .i64 x3.N, .string ⟨x3.S.toArray⟩, .slice ao3 x3.L.length cp3] (0, 0) _ rfl (U4.out.st.row _ _ _ _ _) Tryz.underlying25 rfl (by kernel_rfl)) rfl ?_
    exact U4.out.ret (E4.out) rfl
end
end Go.Proofs.YthjmakjhidjbaaaGreat

/-
 Layer 8, the program's parser: rules' methods. Condition: the rules that they are made of do as the grammar says.
-/
namespace Go.Proofs.YthjmakjhidjbaaaGreat
open Go.ChangeShapes Go.WideShapes Go.ChangeAt Go.RowKit Go.Deep
set_option linter.unusedVariables false
set_option linter.unusedSimpArgs false
set_option maxHeartbeats 2000000
set_option maxRecDepth 20000
attribute [local go_sem ↓] Go.wp_at_zero Go.wp_at_succ

section
variable {c : PC} {w : World} {i : Nat}
theorem elems_eq {ts : List Tk} {R : Res} {e : List UInt8} {p : Bool} {i : Nat} {kd : Int} (hi : i + 1 ≤ ts.length) (h : R = exec ts (reads ts) (.call (.elems e p) fun l => .must e (.ret (.mk kd i 0 [] l.L))) (i + 1)) : R = (if isS e (tk ts (i + 1)) then .ok (.mk kd i 0 [] [], i + 1 + 1) else brR ts (elN p) e (elT ts e p) kd i) := by
 cases hs : isS e (tk ts (i + 1)) with
 | true =>
  have h1 : reads ts (.elems e p) (i + 1) = .ok (lst [], i + 1) := by
   rw [reads_eq _ hi]
   exact ex_yes (p := isS e) (z := .call (elN p) fun x => .skip [59] (.call (.elems e p) fun r => .ret (lst (x :: r.L))) (.ret (lst [x]))) rfl hs
  exact ex_must (ex_ok h h1) hs
 | false =>
  show R = brR ts (elN p) e (elT ts e p) kd i
  unfold brR lstR lgo
  have h1 : reads ts (.elems e p) (i + 1) = exec ts (reads ts) (.call (elN p) fun x => .skip [59] (.call (.elems e p) fun r => .ret (lst (x :: r.L))) (.ret (lst [x]))) (i + 1) := by
   rw [reads_eq _ hi]
   exact ex_no (p := isS e) (y := .ret (lst [])) rfl hs
  cases hx : reads ts (elN p) (i + 1) with
  | error m => exact ex_err h (h1.trans (ex_err rfl hx))
  | ok xj =>
   obtain ⟨x, j⟩ := xj
   have h2 := h1.trans (ex_ok rfl hx)
   show R = _
   simp only
   unfold elT
   cases hs2 : isS [59] (tk ts j) with
   | false =>
    have h3 : exec ts (reads ts) (.skip [59] (.call (.elems e p) fun r => .ret (lst r.L)) (.ret (lst []))) j = .ok (lst [], j) := ex_skipN rfl hs2
    rw [h3]
    have h4 := h2.trans (ex_skipN rfl hs2)
    have h5 := ex_ok h h4
    cases hs3 : isS e (tk ts j) with
    | true => rw [ex_ret (ex_must h5 hs3)]; simp [hs3, lst, Tr.L]
    | false => rw [ex_mustN h5 hs3]; simp [hs3]
   | true =>
    have h3 : exec ts (reads ts) (.skip [59] (.call (.elems e p) fun r => .ret (lst r.L)) (.ret (lst []))) j = exec ts (reads ts) (.call (.elems e p) fun r => .ret (lst r.L)) (j + 1) := ex_skip rfl hs2
    rw [h3]
    have h4 := h2.trans (ex_skip rfl hs2)
    cases hr : reads ts (.elems e p) (j + 1) with
    | error m =>
     have h6 : exec ts (reads ts) (.call (.elems e p) fun r => .ret (lst r.L)) (j + 1) = .error m := ex_err rfl hr
     rw [h6]
     exact ex_err h (h4.trans (ex_err rfl hr))
    | ok rq =>
     obtain ⟨r, q⟩ := rq
     have h6 : exec ts (reads ts) (.call (.elems e p) fun r => .ret (lst r.L)) (j + 1) = .ok (lst r.L, q) := ex_ok rfl hr
     rw [h6]
     have h7 := ex_ok h (h4.trans (ex_ok rfl hr))
     cases hs3 : isS e (tk ts q) with
     | true => rw [ex_ret (ex_must h7 hs3)]; simp [hs3, lst, Tr.L]
     | false => rw [ex_mustN h7 hs3]; simp [hs3]
theorem fields_no {ts : List Tk} {R : Res} {p : Bool} {i : Nat} (hi : i ≤ ts.length) (h : R = reads ts (.fields p) i) (hs : isS [123] (tk ts i) = false) : R = .error i := by
 rw [h, reads_eq _ hi]
 exact ex_mustN (s := [123]) (y := .call (.field p) fun x => .call (.fieldsR p) fun r => .must [125] (.ret (.mk (if p then 110 else 10) i 0 [] (x :: r.L)))) rfl hs
end
end Go.Proofs.YthjmakjhidjbaaaGreat
