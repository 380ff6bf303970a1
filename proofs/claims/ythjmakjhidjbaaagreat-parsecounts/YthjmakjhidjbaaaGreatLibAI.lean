/-
  Several small texts in one; each tells at its head what it proves, and on what condition.
-/
import Derived.Test.YthjmakjhidjbaaaGreatLibAG
import Derived.Test.YthjmakjhidjbaaaGreatLibAF
import Derived.Test.YthjmakjhidjbaaaGreatP8R

/-
 Layer 8, the program's parser: rules' methods. Condition: the rules that they are made of do as the grammar says.
-/
namespace Go.Proofs.YthjmakjhidjbaaaGreat
open Go.ChangeShapes Go.WideShapes Go.ChangeAt Go.RowKit Go.Deep
set_option linter.unusedVariables false
set_option linter.unusedSimpArgs false
set_option maxHeartbeats 2000000
set_option maxRecDepth 20000
attribute [local go_sem ↓] Go.wp_at_zero Go.wp_at_succ

section
variable {c : PC} {w : World} {i : Nat}
/-- Which part of something is meant. -/
def partR (ts : List Tk) (x : Tr) (k : Nat) : Res := exec ts (reads ts) (.skip [46] (.token 3 fun t => .ret (.mk 12 k 0 t.S [x])) (.must [46, 40] (.call .seq fun y => .must [41] (.ret (.mk 14 k 0 [] [x, y]))))) k
theorem part_eq {ts : List Tk} {R : Res} {x : Tr} {k : Nat} (hk : k ≤ ts.length) (h : R = reads ts (.postR x) k) (hd : isS [46] (tk ts k) = true ∨ isS [46, 40] (tk ts k) = true) : R = (match partR ts x k with | .error m => .error m | .ok (y, q) => reads ts (.postR y) q) := by
 have h0 : R = exec ts (reads ts) (.skip [46] (.token 3 fun t => .call (.postR (.mk 12 k 0 t.S [x])) .ret) (.skip [46, 40] (.call .seq fun y => .must [41] (.call (.postR (.mk 14 k 0 [] [x, y])) .ret)) (.ret x))) k := h.trans (reads_eq _ hk)
 unfold partR
 cases hs : isS [46] (tk ts k) with
 | true =>
  have e1 := ex_skip h0 hs
  have e2 : exec ts (reads ts) (.skip [46] (.token 3 fun t => .ret (.mk 12 k 0 t.S [x])) (.must [46, 40] (.call .seq fun y => .must [41] (.ret (.mk 14 k 0 [] [x, y]))))) k = exec ts (reads ts) (.token 3 fun t => .ret (.mk 12 k 0 t.S [x])) (k + 1) := ex_skip rfl hs
  rw [e2]
  cases ht : isK 3 (tk ts (k + 1)) with
  | true =>
   have e3 : exec ts (reads ts) (.token 3 fun t => .ret (.mk 12 k 0 t.S [x])) (k + 1) = .ok (.mk 12 k 0 (tk ts (k + 1)).S [x], k + 1 + 1) := ex_token rfl ht (by decide)
   rw [e3]
   exact ex_end (ex_token e1 ht (by decide))
  | false =>
   have e3 : exec ts (reads ts) (.token 3 fun t => .ret (.mk 12 k 0 t.S [x])) (k + 1) = .error (k + 1) := ex_tokenN rfl ht
   rw [e3]
   exact ex_tokenN e1 ht
 | false =>
  have hs2 : isS [46, 40] (tk ts k) = true := hd.resolve_left (by rw [hs]; decide)
  have e1 := ex_skip (ex_skipN h0 hs) hs2
  have e2 : exec ts (reads ts) (.skip [46] (.token 3 fun t => .ret (.mk 12 k 0 t.S [x])) (.must [46, 40] (.call .seq fun y => .must [41] (.ret (.mk 14 k 0 [] [x, y]))))) k = exec ts (reads ts) (.call .seq fun y => .must [41] (.ret (.mk 14 k 0 [] [x, y]))) (k + 1) := ex_must (ex_skipN rfl hs) hs2
  rw [e2]
  cases hy : reads ts .seq (k + 1) with
  | error m =>
   have e3 : exec ts (reads ts) (.call .seq fun y => .must [41] (.ret (.mk 14 k 0 [] [x, y]))) (k + 1) = .error m := ex_err rfl hy
   rw [e3]
   exact ex_err e1 hy
  | ok yq =>
   obtain ⟨y, q⟩ := yq
   have e3 : exec ts (reads ts) (.call .seq fun y => .must [41] (.ret (.mk 14 k 0 [] [x, y]))) (k + 1) = exec ts (reads ts) (.must [41] (.ret (.mk 14 k 0 [] [x, y]))) q := ex_ok rfl hy
   rw [e3]
   have e4 := ex_ok e1 hy
   cases hc : isS [41] (tk ts q) with
   | true =>
    have e5 : exec ts (reads ts) (.must [41] (.ret (.mk 14 k 0 [] [x, y]))) q = .ok (.mk 14 k 0 [] [x, y], q + 1) := ex_must rfl hc
    rw [e5]
    exact ex_end (ex_must e4 hc)
   | false =>
    have e5 : exec ts (reads ts) (.must [41] (.ret (.mk 14 k 0 [] [x, y]))) q = .error q := ex_mustN rfl hc
    rw [e5]
    exact ex_mustN e4 hc
theorem part_fine {ts : List Tk} {x y : Tr} {k q : Nat} (hk : k ≤ ts.length) (h : partR ts x k = .ok (y, q)) (hd : isS [46] (tk ts k) = true ∨ isS [46, 40] (tk ts k) = true) : q ≤ ts.length ∧ k < q := by
 have hg := exec_ge (ts := ts) (rec := reads ts) (fun n i hi => reads_fine n hi) (.skip [46] (.token 3 fun t => .ret (.mk 12 k 0 t.S [x])) (.must [46, 40] (.call .seq fun y => .must [41] (.ret (.mk 14 k 0 [] [x, y]))))) k hk
 unfold partR at h
 rw [h] at hg
 refine ⟨hg.2, ?_⟩
 have hl : k < ts.length := hd.elim isS_in isS_in
 cases hs : isS [46] (tk ts k) with
 | true =>
  have e2 := ex_skip (R := .ok (y, q)) h.symm hs
  have hg2 := exec_ge (ts := ts) (rec := reads ts) (fun n i hi => reads_fine n hi) (.token 3 fun t => .ret (.mk 12 k 0 t.S [x])) (k + 1) hl
  rw [← e2] at hg2
  exact hg2.1
 | false =>
  have hs2 : isS [46, 40] (tk ts k) = true := hd.resolve_left (by rw [hs]; decide)
  have e2 := ex_must (ex_skipN (R := .ok (y, q)) h.symm hs) hs2
  have hg2 := exec_ge (ts := ts) (rec := reads ts) (fun n i hi => reads_fine n hi) (.call .seq fun y => .must [41] (.ret (.mk 14 k 0 [] [x, y]))) (k + 1) hl
  rw [← e2] at hg2
  exact hg2.1
theorem dots {t : Tk} (h : isOne [[46], [46, 40]] t = true) : isS [46] t = true ∨ isS [46, 40] t = true := by
 simpa [isOne] using h
theorem dots_no {t : Tk} (h : isOne [[46], [46, 40]] t = false) : isS [46] t = false ∧ isS [46, 40] t = false := by
 simpa [isOne] using h
end
end Go.Proofs.YthjmakjhidjbaaaGreat

/-
 Layer 8, the program's parser: rules' methods. Condition: the rules that they are made of do as the grammar says.
-/
namespace Go.Proofs.YthjmakjhidjbaaaGreat
open Go.ChangeShapes Go.WideShapes Go.ChangeAt Go.RowKit Go.Deep
set_option linter.unusedVariables false
set_option linter.unusedSimpArgs false
set_option maxHeartbeats 2000000
set_option maxRecDepth 20000
attribute [local go_sem ↓] Go.wp_at_zero Go.wp_at_succ

section
variable {c : PC} {w : World} {i : Nat}
theorem m_signed {R : Res} (h : PS c w i) {k1 : Nat} {n1 : NT} (hi : i < c.ts.length) (hk : (tk c.ts i).kind ≠ 1) (hh : hard n1 = true) (e1 : EntersF k1) (r1 : Rule c k1 n1 (i + 1)) (ih : Beh c i) (hE : R = exec c.ts (reads c.ts) (.call n1 fun x => .ret (.mk 30 i 0 (tk c.ts i).S [x])) (i + 1)) : Calls Tryz.prog 178 #[.pointer (some ⟨c.b, 0, none⟩), .func (.func k1) #[.pointer (some ⟨c.b, 0, none⟩)] #[]] w fun e w' => Got8 c R w e w' := by
 have E0 := hidden hE
 have S0 := hidden (St.new h)
 have fl0 := fld1
 clear h hE
 go_enter Tryz.func178, Tryz.ntmps178
 go_wp2_with fail
 refine (leafS S0.out.ps 30 (by omega) hk).mono ?_
 rintro e w1 ⟨rfl, hp, ho⟩
 have S1 := hidden (S0.out.only ho hp)
 clear hp ho
 have M2 := hidden (Mk.zero S1.out 30 (c.pl i) 0 ⟨(tk c.ts i).S.toArray⟩)
 go_wp2_with fail
 refine (r1 _ M2.out.st.ps).mono ?_
 intro e w3 hg
 cases hx : reads c.ts n1 (i + 1) with
 | error m =>
  rw [hx] at hg
  obtain ⟨rfl, ho⟩ := hg
  exact ⟨rfl, M2.out.st.stop ho (ex_err E0.out hx)⟩
 | ok xj =>
  obtain ⟨x3, j3⟩ := xj
  have f3 := reads_fine (ts := c.ts) n1 (i := i + 1) (by omega)
  rw [hx] at hg f3
  obtain ⟨ao3, cp3, rfl, hl, hp, ho⟩ := hg
  have E3 := hidden (ex_ok E0.out hx)
  have b3 : j3 ≤ c.ts.length := f3.2.1
  have a3 : i + 1 < j3 := f3.2.2 _ _ rfl hh
  have X3 := hidden (M2.out.fresh hl)
  have M3 := hidden (M2.out.only ho hp)
  clear hl hp ho hx f3
  obtain ⟨y0, y1, y2, y3, y4, yf⟩ := M3.out.n.cells
  have yl := M3.out.n.lt
  have yn := Nat.ne_of_lt yl
  obtain ⟨z0, z1, z2, z3, z4, zf⟩ := M3.out.st.zc
  have zl := M3.out.st.size
  have zn := Nat.ne_of_lt zl
  have zq := M3.out.hq
  have zq2 := Nat.ne_of_lt zq
  have zq3 := (Nat.ne_of_lt zq).symm
  go_wp2_with fail
  refine bodyPost_ret (results_cell_row rfl _ _ w.heap.size 25 #[.int .i64 30, .int .i64 (c.pl i), .int .i64 0, .string ⟨(tk c.ts i).S.toArray⟩, .slice (some ⟨w3.heap.size, 0, none⟩) 1 1] (0, 0) _ rfl (M3.out.row1 _ _ _ _ _ _ _) Tryz.underlying25 rfl (by kernel_rfl)) rfl ?_
  exact M3.out.ret1 (s := (tk c.ts i).S) X3.out (E3.out) rfl
theorem m_papp {R : Res} (h : PS c w i) (hi : i ≤ c.ts.length) (hP : Rule c 123 .patom i) (ih : Beh c i) (hE : R = exec c.ts (reads c.ts) (.test (isK 4) (.eat fun t => .test patomAhead (.call .patom fun p => .ret (.mk 107 i 0 t.S [p])) (.ret (.mk 107 i 0 t.S []))) (.call .patom .ret)) (i)) : Calls Tryz.prog 161 #[.pointer (some ⟨c.b, 0, none⟩)] w fun e w' => Got8 c R w e w' := by
 have E0 := hidden hE
 have S0 := hidden (St.new h)
 have fl0 := fld0
 clear h hE
 go_enter Tryz.func161, Tryz.ntmps161
 go_wp2_with fail
 refine (next_any S0.out.ps (by omega)).mono ?_
 rintro e w1 ⟨rfl, hb⟩
 have S1 := hidden (S0.out.below hb)
 clear hb
 cases hk : isK 4 (tk c.ts i) with
 | false =>
  have z : ((tk c.ts i).kind != 4) = true := by unfold isK at hk; simpa using hk
  have E9 := hidden (ex_end (ex_no E0.out hk))
  clear hk
  go_wp2_with fail
  refine (E9.out ▸ hP _ S1.out.ps).mono ?_
  intro e w2 hg
  cases hR : R with
  | error m =>
   rw [hR] at hg
   obtain ⟨rfl, ho⟩ := hg
   exact ⟨rfl, S1.out.stop ho hR⟩
  | ok xj =>
   obtain ⟨x2, j2⟩ := xj
   rw [hR] at hg
   obtain ⟨ao2, cp2, rfl, hl, hp, ho⟩ := hg
   have X2 := hidden (Has.of hl S1.out)
   have HR := hidden hR
   have S2 := hidden (S1.out.only ho hp)
   clear hl hp ho hR
   obtain ⟨z0, z1, z2, z3, z4, zf⟩ := S2.out.zc
   go_wp2_with fail
   refine bodyPost_ret (results_cell_row rfl _ _ w.heap.size 25 #[.int .i64 x2.kind, .int .i64 (c.pl x2.pl), .int .i64 x2.N, .string ⟨x2.S.toArray⟩, .slice ao2 x2.L.length cp2] (0, 0) _ rfl (S2.out.row _ _ _ _ _) Tryz.underlying25 rfl (by kernel_rfl)) rfl ?_
   exact S2.out.ret X2.out HR.out rfl
 | true =>
  have z : ((tk c.ts i).kind != 4) = false := by unfold isK at hk; simpa using hk
  have hlt := isK_in hk (by decide)
  have h4 : (tk c.ts i).kind ≠ 1 := by unfold isK at hk; have := eq_of_beq hk; omega
  have E9 := hidden (ex_eat (ex_yes E0.out hk) hlt)
  clear hk
  go_wp2_with fail
  refine (leafS S1.out.ps 107 (by omega) h4).mono ?_
  rintro e w3 ⟨rfl, hp, ho⟩
  have S3 := hidden (S1.out.only ho hp)
  clear hp ho
  have M4 := hidden (Mk.zero S3.out 107 (c.pl i) 0 ⟨(tk c.ts i).S.toArray⟩)
  go_wp2_with fail
  have hb := begPatom M4.out.st.ps (by omega)
  cases hs : patomAhead (tk c.ts (i + 1)) with
  | true =>
   rw [hs] at hb
   have E5 := hidden (ex_yes E9.out hs)
   refine hb.mono ?_
   clear hb
   rintro e w5 ⟨rfl, hb⟩
   have M5 := hidden (M4.out.below hb)
   clear hb hs
   go_wp2_with fail
   refine ((ih .patom (i + 1) (by omega) (by omega) : Rule c 123 .patom (i + 1)) _ M5.out.st.ps).mono ?_
   intro e w6 hg
   cases hx : reads c.ts .patom (i + 1) with
   | error m =>
    rw [hx] at hg
    obtain ⟨rfl, ho⟩ := hg
    exact ⟨rfl, M5.out.st.stop ho (ex_err E5.out hx)⟩
   | ok xj =>
    obtain ⟨x6, j6⟩ := xj
    have f6 := reads_fine (ts := c.ts) .patom (i := i + 1) (by omega)
    rw [hx] at hg f6
    obtain ⟨ao6, cp6, rfl, hl, hp, ho⟩ := hg
    have E6 := hidden (ex_ok E5.out hx)
    have b6 : j6 ≤ c.ts.length := f6.2.1
    have a6 : i + 1 < j6 := f6.2.2 _ _ rfl rfl
    have X6 := hidden (M5.out.fresh hl)
    have M6 := hidden (M5.out.only ho hp)
    clear hl hp ho hx f6
    obtain ⟨y0, y1, y2, y3, y4, yf⟩ := M6.out.n.cells
    have yl := M6.out.n.lt
    have yn := Nat.ne_of_lt yl
    obtain ⟨z0, z1, z2, z3, z4, zf⟩ := M6.out.st.zc
    have zl := M6.out.st.size
    have zn := Nat.ne_of_lt zl
    have zq := M6.out.hq
    have zq2 := Nat.ne_of_lt zq
    have zq3 := (Nat.ne_of_lt zq).symm
    go_wp2_with fail
    refine bodyPost_ret (results_cell_row rfl _ _ w.heap.size 25 #[.int .i64 107, .int .i64 (c.pl i), .int .i64 0, .string ⟨(tk c.ts i).S.toArray⟩, .slice (some ⟨w6.heap.size, 0, none⟩) 1 1] (0, 0) _ rfl (M6.out.row1 _ _ _ _ _ _ _) Tryz.underlying25 rfl (by kernel_rfl)) rfl ?_
    exact M6.out.ret1 (s := (tk c.ts i).S) X6.out (E6.out) rfl
  | false =>
   rw [hs] at hb
   have E5 := hidden (ex_no E9.out hs)
   refine hb.mono ?_
   clear hb
   rintro e w5 ⟨rfl, hb⟩
   have M5 := hidden (M4.out.below hb)
   clear hb hs
   obtain ⟨y0, y1, y2, y3, y4, yf⟩ := M5.out.n.cells
   obtain ⟨z0, z1, z2, z3, z4, zf⟩ := M5.out.st.zc
   clear yf
   go_wp2_with fail
   refine bodyPost_ret (results_cell_row rfl _ _ w.heap.size 25 #[.int .i64 107, .int .i64 (c.pl i), .int .i64 0, .string ⟨(tk c.ts i).S.toArray⟩, (.slice none 0 0)] (0, 0) _ rfl (M5.out.st.row _ _ _ _ _) Tryz.underlying25 rfl (by kernel_rfl)) rfl ?_
   exact M5.out.ret (s := (tk c.ts i).S) (E5.out) rfl
theorem m_loop {R : Res} (h : PS c w i) {C : Tr → Pg} (hi : i < c.ts.length + 1) (ih : Beh c i) (hE : R = exec c.ts (reads c.ts) (.must [100, 111] (.call .seq fun x => .must [100, 111, 110, 101] (.ret x))) (i)) : Calls Tryz.prog 147 #[.pointer (some ⟨c.b, 0, none⟩)] w fun e w' => Got8 c R w e w' := by
 have E0 := hidden hE
 have S0 := hidden (St.new h)
 have fl0 := fld1
 clear h hE
 go_enter Tryz.func147, Tryz.ntmps147
 go_wp2_with fail
 cases hs : isS [100, 111] (tk c.ts (i)) with
 | false =>
  refine (must_no S0.out.ps (by omega) [100, 111] (by decide) hs).mono ?_
  rintro e w' ⟨rfl, ho⟩
  exact ⟨rfl, S0.out.stop ho (ex_mustN E0.out hs)⟩
 | true =>
  have t1 := isS_in hs
  have E1 := hidden (ex_must E0.out hs)
  refine (must_yes S0.out.ps [100, 111] (by decide) hs).mono ?_
  rintro e w1 ⟨rfl, hp, ho⟩
  have S1 := hidden (S0.out.only ho hp)
  clear hp ho hs
  go_wp2_with fail
  refine ((ih .seq (i + 1) (by omega) (by omega) : Rule c 111 .seq (i + 1)) _ S1.out.ps).mono ?_
  intro e w2 hg
  cases hx : reads c.ts .seq (i + 1) with
  | error m =>
   rw [hx] at hg
   obtain ⟨rfl, ho⟩ := hg
   exact ⟨rfl, S1.out.stop ho (ex_err E1.out hx)⟩
  | ok xj =>
   obtain ⟨x2, j2⟩ := xj
   have f2 := reads_fine (ts := c.ts) .seq (i := i + 1) (by omega)
   rw [hx] at hg f2
   obtain ⟨ao2, cp2, rfl, hl, hp, ho⟩ := hg
   have E2 := hidden (ex_ok E1.out hx)
   have b2 : j2 ≤ c.ts.length := f2.2.1
   have a2 : i + 1 < j2 := f2.2.2 _ _ rfl rfl
   have X2 := hidden (Has.of hl S1.out)
   have S2 := hidden (S1.out.only ho hp)
   clear hl hp ho hx f2
   have V2 := hidden (Lc.new S2.out x2.kind (c.pl x2.pl) x2.N ⟨x2.S.toArray⟩ (.slice ao2 x2.L.length cp2))
   go_wp2_with fail
   cases hs : isS [100, 111, 110, 101] (tk c.ts (j2)) with
   | false =>
    refine (must_no (S2.out.alloc _).ps (by omega) [100, 111, 110, 101] (by decide) hs).mono ?_
    rintro e w' ⟨rfl, ho⟩
    exact ⟨rfl, (S2.out.alloc _).stop ho (ex_mustN E2.out hs)⟩
   | true =>
    have t3 := isS_in hs
    have E3 := hidden (ex_must E2.out hs)
    refine (must_yes (S2.out.alloc _).ps [100, 111, 110, 101] (by decide) hs).mono ?_
    rintro e w3 ⟨rfl, hp, ho⟩
    have X2_3 := hidden ((X2.out.alloc _).only (S2.out.alloc _) ho)
    have V2_3 := hidden (V2.out.only (S2.out.alloc _) ho)
    have S3 := hidden ((S2.out.alloc _).only ho hp)
    clear hp ho hs
    obtain ⟨y0, y1, y2, y3, y4, yf⟩ := V2_3.out.n.cells
    obtain ⟨z0, z1, z2, z3, z4, zf⟩ := S3.out.zc
    clear yf
    go_wp2_with fail
    refine bodyPost_ret (results_cell_row rfl _ _ w.heap.size 25 #[.int .i64 x2.kind, .int .i64 (c.pl x2.pl), .int .i64 x2.N, .string ⟨x2.S.toArray⟩, .slice ao2 x2.L.length cp2] (0, 0) _ rfl (S3.out.row _ _ _ _ _) Tryz.underlying25 rfl (by kernel_rfl)) rfl ?_
    exact S3.out.ret X2_3.out (E3.out) rfl
theorem m_tatom {R : Res} (h : PS c w i) (hi : i ≤ c.ts.length) (ih : Beh c i) (hE : R = exec c.ts (reads c.ts) (.test (isS [40]) (.eat fun _ => .call .ty fun x => .must [41] (.ret x)) (.token 3 fun t => .ret (.mk 201 i 0 t.S []))) (i)) : Calls Tryz.prog 151 #[.pointer (some ⟨c.b, 0, none⟩)] w fun e w' => Got8 c R w e w' := by
 have E0 := hidden hE
 have S0 := hidden (St.new h)
 have fl0 := fld0
 clear h hE
 go_enter Tryz.func151, Tryz.ntmps151
 go_wp2_with fail
 cases hs : isS [40] (tk c.ts (i)) with
 | true =>
  have t1 := isS_in hs
  have E1 := hidden (ex_skip E0.out hs)
  refine (has_yes S0.out.ps [40] (by decide) hs).mono ?_
  rintro e w1 ⟨rfl, hp, ho⟩
  have S1 := hidden (S0.out.only ho hp)
  clear hp ho hs
  go_wp2_with fail
  refine ((ih .ty (i + 1) (by omega) (by omega) : Rule c 96 .ty (i + 1)) _ S1.out.ps).mono ?_
  intro e w2 hg
  cases hx : reads c.ts .ty (i + 1) with
  | error m =>
   rw [hx] at hg
   obtain ⟨rfl, ho⟩ := hg
   exact ⟨rfl, S1.out.stop ho (ex_err E1.out hx)⟩
  | ok xj =>
   obtain ⟨x2, j2⟩ := xj
   have f2 := reads_fine (ts := c.ts) .ty (i := i + 1) (by omega)
   rw [hx] at hg f2
   obtain ⟨ao2, cp2, rfl, hl, hp, ho⟩ := hg
   have E2 := hidden (ex_ok E1.out hx)
   have b2 : j2 ≤ c.ts.length := f2.2.1
   have a2 : i + 1 < j2 := f2.2.2 _ _ rfl rfl
   have X2 := hidden (Has.of hl S1.out)
   have S2 := hidden (S1.out.only ho hp)
   clear hl hp ho hx f2
   have V2 := hidden (Lc.new S2.out x2.kind (c.pl x2.pl) x2.N ⟨x2.S.toArray⟩ (.slice ao2 x2.L.length cp2))
   go_wp2_with fail
   cases hs : isS [41] (tk c.ts (j2)) with
   | false =>
    refine (must_no (S2.out.alloc _).ps (by omega) [41] (by decide) hs).mono ?_
    rintro e w' ⟨rfl, ho⟩
    exact ⟨rfl, (S2.out.alloc _).stop ho (ex_mustN E2.out hs)⟩
   | true =>
    have t3 := isS_in hs
    have E3 := hidden (ex_must E2.out hs)
    refine (must_yes (S2.out.alloc _).ps [41] (by decide) hs).mono ?_
    rintro e w3 ⟨rfl, hp, ho⟩
    have X2_3 := hidden ((X2.out.alloc _).only (S2.out.alloc _) ho)
    have V2_3 := hidden (V2.out.only (S2.out.alloc _) ho)
    have S3 := hidden ((S2.out.alloc _).only ho hp)
    clear hp ho hs
    obtain ⟨y0, y1, y2, y3, y4, yf⟩ := V2_3.out.n.cells
    obtain ⟨z0, z1, z2, z3, z4, zf⟩ := S3.out.zc
    clear yf
    go_wp2_with fail
    refine bodyPost_ret (results_cell_row rfl _ _ w.heap.size 25 #[.int .i64 x2.kind, .int .i64 (c.pl x2.pl), .int .i64 x2.N, .string ⟨x2.S.toArray⟩, .slice ao2 x2.L.length cp2] (0, 0) _ rfl (S3.out.row _ _ _ _ _) Tryz.underlying25 rfl (by kernel_rfl)) rfl ?_
    exact S3.out.ret X2_3.out (E3.out) rfl
 | false =>
  have E1 := hidden (ex_no E0.out hs)
  refine (has_no S0.out.ps (by omega) [40] (by decide) hs).mono ?_
  rintro e w1 ⟨rfl, hb⟩
  have S1 := hidden (S0.out.below hb)
  clear hb hs
  go_wp2_with fail
  refine (next_any S1.out.ps (by omega)).mono ?_
  rintro e w4 ⟨rfl, hb⟩
  have S4 := hidden (S1.out.below hb)
  clear hb
  cases hk : isK 3 (tk c.ts i) with
  | false =>
   have z : ((tk c.ts i).kind != 3) = true := by unfold isK at hk; simpa using hk
   have E9 := hidden (ex_tokenN E1.out hk)
   clear hk
   go_wp2_with fail
   refine (giveUp8 S4.out.ps (by omega)).mono ?_
   rintro e w' ⟨rfl, ho⟩
   exact ⟨rfl, S4.out.stop ho (E9.out)⟩
  | true =>
   have z : ((tk c.ts i).kind != 3) = false := by unfold isK at hk; simpa using hk
   have hlt := isK_in hk (by decide)
   have h4 : (tk c.ts i).kind ≠ 1 := by unfold isK at hk; have := eq_of_beq hk; omega
   have E9 := hidden (ex_token E1.out hk (by decide))
   clear hk
   go_wp2_with fail
   refine (leafS S4.out.ps 201 (by omega) h4).mono ?_
   rintro e w5 ⟨rfl, hp, ho⟩
   have S5 := hidden (S4.out.only ho hp)
   clear hp ho
   obtain ⟨z0, z1, z2, z3, z4, zf⟩ := S5.out.zc
   go_wp2_with fail
   refine bodyPost_ret (results_cell_row rfl _ _ w.heap.size 25 #[.int .i64 201, .int .i64 (c.pl i), .int .i64 0, .string ⟨(tk c.ts i).S.toArray⟩, .slice none 0 0] (0, 0) _ rfl (S5.out.row _ _ _ _ _) Tryz.underlying25 rfl (by kernel_rfl)) rfl ?_
   exact S5.out.ret (x := .mk 201 i 0 (tk c.ts i).S []) (ao := none) (cp := 0) RL.nil (E9.out) rfl
end
end Go.Proofs.YthjmakjhidjbaaaGreat

/-
 Layer 8, the program's parser: rules' methods. Condition: the rules that they are made of do as the grammar says.
-/
namespace Go.Proofs.YthjmakjhidjbaaaGreat
open Go.ChangeShapes Go.WideShapes Go.ChangeAt Go.RowKit Go.Deep
set_option linter.unusedVariables false
set_option linter.unusedSimpArgs false
set_option maxHeartbeats 2000000
set_option maxRecDepth 20000
attribute [local go_sem ↓] Go.wp_at_zero Go.wp_at_succ

section
variable {c : PC} {w : World} {i : Nat}
theorem m_post {R : Res} (h : PS c w i) (hi : i ≤ c.ts.length) (hA : Rule c 182 .atom i) (ih : Beh c i) (hE : R = exec c.ts (reads c.ts) (.skip [33] (.call .post fun x => .ret (.mk 30 i 0 [33] [x])) (.call .atom fun x => .call (.postR x) .ret)) (i)) : Calls Tryz.prog 180 #[.pointer (some ⟨c.b, 0, none⟩)] w fun e w' => Got8 c R w e w' := by
 have E0 := hidden hE
 have S0 := hidden (St.new h)
 have fl0 := fld1
 clear h hE
 have hmf : ∀ (fn : Fn) (first cap : Array Value) (w : World), (Instr.makeFunc fn first cap).run Tryz.prog w = .ok (.func fn first cap) w := fun _ _ _ _ => rfl
 go_enter Tryz.func180, Tryz.ntmps180
 go_wp2_with fail
 cases hs : isS [33] (tk c.ts (i)) with
 | true =>
  have t1 := isS_in hs
  have E1 := hidden (ex_skip E0.out hs)
  refine (comesR1 S0.out.ps (by omega) [33] (by decide) hs (by first | exact nblk_alloc _ _ | rfl | simp only [nblk_alloc, nblk_setCell] | omega)).mono ?_
  rintro e w1 ⟨rfl, hb⟩
  have S1 := hidden (S0.out.below hb)
  clear hb
  have E9 : Hid (R = exec c.ts (reads c.ts) (.call .post fun x => .ret (.mk 30 i 0 (tk c.ts i).S [x])) (i + 1)) := by show _ = _; rw [(isS_is hs).1]; exact E1.out
  have hk1 := sign_ne1 hs
  clear hs
  go_wp2_with fail
  have HX := hidden (m_signed S1.out.ps t1 hk1 rfl (enters_of Tryz.func180 (by kernel_rfl) rfl) (ih .post (i + 1) (by omega) (by omega)) ih E9.out)
  refine (HX.out).mono ?_
  intro e w2 hg
  cases hR : R with
  | error m =>
   rw [hR] at hg
   obtain ⟨rfl, ho⟩ := hg
   exact ⟨rfl, S1.out.stop ho hR⟩
  | ok xj =>
   obtain ⟨x2, j2⟩ := xj
   rw [hR] at hg
   obtain ⟨ao2, cp2, rfl, hl, hp, ho⟩ := hg
   have X2 := hidden (Has.of hl S1.out)
   have HR := hidden hR
   have S2 := hidden (S1.out.only ho hp)
   clear hl hp ho hR
   obtain ⟨z0, z1, z2, z3, z4, zf⟩ := S2.out.zc
   go_wp2_with fail
   refine bodyPost_ret (results_cell_row rfl _ _ w.heap.size 25 #[.int .i64 x2.kind, .int .i64 (c.pl x2.pl), .int .i64 x2.N, .string ⟨x2.S.toArray⟩, .slice ao2 x2.L.length cp2] (0, 0) _ rfl (S2.out.row _ _ _ _ _) Tryz.underlying25 rfl (by kernel_rfl)) rfl ?_
   exact S2.out.ret X2.out HR.out rfl
 | false =>
  have E1 := hidden (ex_skipN E0.out hs)
  refine (comesR1 S0.out.ps (by omega) [33] (by decide) hs (by first | exact nblk_alloc _ _ | rfl | simp only [nblk_alloc, nblk_setCell] | omega)).mono ?_
  rintro e w1 ⟨rfl, hb⟩
  have S1 := hidden (S0.out.below hb)
  clear hb hs
  go_wp2_with fail
  refine (hA _ S1.out.ps).mono ?_
  intro e w3 hg
  cases hx : reads c.ts .atom (i) with
  | error m =>
   rw [hx] at hg
   obtain ⟨rfl, ho⟩ := hg
   exact ⟨rfl, S1.out.stop ho (ex_err E1.out hx)⟩
  | ok xj =>
   obtain ⟨x3, j3⟩ := xj
   have f3 := reads_fine (ts := c.ts) .atom (i := i) (by omega)
   rw [hx] at hg f3
   obtain ⟨ao3, cp3, rfl, hl, hp, ho⟩ := hg
   have E3 := hidden (ex_ok E1.out hx)
   have b3 : j3 ≤ c.ts.length := f3.2.1
   have a3 : i < j3 := f3.2.2 _ _ rfl rfl
   have X3 := hidden (Has.of hl S1.out)
   have S3 := hidden (S1.out.only ho hp)
   clear hl hp ho hx f3
   have Eb := hidden (ex_end E3.out)
   go_wp2_with fail
   have U4 := hidden (Va.new S3.out X3.out cp3)
   go_loopg [] (c.ts.length + 1 - (j3)) (fun gk wr => InV c w (i + 1) (fun x k => R = reads c.ts (.postR x) k) w3.heap.size gk wr)
   case atStart => exact ⟨_, _, _, _, by omega, by omega, rfl, U4.out, Eb.out⟩
   case round =>
    obtain ⟨k5, x5, ao5, cp5, kb5, ka5, kg5, hm, hE⟩ := hrel
    have U5 := hidden hm
    have E5 := hidden hE
    clear hm hE
    go_wp2_with fail
    cases hs : isOne [[46], [46, 40]] (tk c.ts (k5)) with
    | true =>
     have t6 := isOne_in hs
     have E6 := hidden ((fun _ h => h : _ → isOne [[46], [46, 40]] (tk c.ts k5) = true → isOne [[46], [46, 40]] (tk c.ts k5) = true) E5.out hs)
     refine (comesR U5.out.st.ps (by omega) [[46], [46, 40]] 2 rfl (by decide) (by decide) hs (by first | exact nblk_alloc _ _ | rfl | simp only [nblk_alloc, nblk_setCell] | omega)).mono ?_
     rintro e w6 ⟨rfl, hb⟩
     have U6 := hidden (U5.out.below hb)
     clear hb
     have hd := dots hs
     clear hs
     obtain ⟨Rl, hRl⟩ : ∃ Rl, Rl = partR c.ts x5 k5 := ⟨_, rfl⟩
     have HRl := hidden hRl
     have EE := part_eq kb5 E5.out hd
     rw [← hRl] at EE
     have EP := hidden EE
     clear hRl EE
     obtain ⟨y0, y1, y2, y3, y4, yf⟩ := U6.out.n.cells
     have yl := U6.out.n.lt
     have yn := Nat.ne_of_lt yl
     go_wp2_with fail
     have HX := hidden (m_part (cp := cp5) (P := fun g => w.heap.size + 1 ≤ g ∧ g ≠ w3.heap.size) U6.out.st.ps (by omega) (fun g hg => by have := U6.out.st.b0; omega) U6.out.rl hd (fun n j h1 h2 => ih n j (by omega) h2) HRl.out)
     refine HX.out.mono ?_
     clear HX
     intro e w7 hg
     cases hL : Rl with
     | error m =>
      rw [hL] at hg
      obtain ⟨rfl, ho⟩ := hg
      exact ⟨rfl, U6.out.st.stop ho (by rw [EP.out, hL])⟩
     | ok xj =>
      obtain ⟨x7, j7⟩ := xj
      rw [hL] at hg
      obtain ⟨ao7, cp7, rfl, hl, hp, ho⟩ := hg
      have E7 : Hid (R = reads c.ts (.postR x7) j7) := by show _ = _; rw [EP.out, hL]
      have fb := part_fine kb5 (HRl.out.symm.trans hL) hd
      have YB := hidden (hl.mono (Q := fun g => w.heap.size + 1 ≤ g ∧ g ≠ w3.heap.size) (fun g hg _ => by have h1 := U6.out.st.size; have h2 := U6.out.n.lt; omega))
      clear y0 y1 y2 y3 y4 yf yl yn
      have U7 := hidden (U6.out.only ho hp)
      clear hl hp ho hL
      obtain ⟨y0, y1, y2, y3, y4, yf⟩ := U7.out.n.cells
      have yl := U7.out.n.lt
      have yn := Nat.ne_of_lt yl
      go_wp2_with fail
      clear y0 y1 y2 y3 y4 yf yl yn
      go_roundg (c.ts.length + 1 - (j7))
      case rel => exact ⟨_, _, _, _, by omega, by omega, rfl, (U7.out.put (y := x7) YB.out cp7), E7.out⟩
      case measure => omega
    | false =>
     have E6 := hidden ((fun _ h => h : _ → isOne [[46], [46, 40]] (tk c.ts k5) = false → isOne [[46], [46, 40]] (tk c.ts k5) = false) E5.out hs)
     refine (comesR U5.out.st.ps (by omega) [[46], [46, 40]] 2 rfl (by decide) (by decide) hs (by first | exact nblk_alloc _ _ | rfl | simp only [nblk_alloc, nblk_setCell] | omega)).mono ?_
     rintro e w6 ⟨rfl, hb⟩
     have U6 := hidden (U5.out.below hb)
     clear hb
     obtain ⟨d1, d2⟩ := dots_no hs
     have EZ : Hid (R = .ok (x5, k5)) := ex_ret (ex_skipN (ex_skipN (y := .token 3 fun t => .call (.postR (.mk 12 k5 0 t.S [x5])) .ret) (z := .skip [46, 40] (.call .seq fun y => .must [41] (.call (.postR (.mk 14 k5 0 [] [x5, y])) .ret)) (.ret x5)) (E5.out.trans (reads_eq _ kb5)) d1) d2)
     clear hs d1 d2
     obtain ⟨y0, y1, y2, y3, y4, yf⟩ := U6.out.n.cells
     obtain ⟨z0, z1, z2, z3, z4, zf⟩ := U6.out.st.zc
     clear yf
     go_wp2_with fail
     refine bodyPost_ret (results_cell_row rfl _ _ w.heap.size 25 #[.int .i64 x5.kind, .int .i64 (c.pl x5.pl), .int .i64 x5.N, .string ⟨x5.S.toArray⟩, .slice ao5 x5.L.length cp5] (0, 0) _ rfl (U6.out.st.row _ _ _ _ _) Tryz.underlying25 rfl (by kernel_rfl)) rfl ?_
     exact U6.out.ret (EZ.out) rfl
end
end Go.Proofs.YthjmakjhidjbaaaGreat
