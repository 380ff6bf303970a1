/-
  Several small texts in one; each tells at its head what it proves, and on what condition.
-/
import Derived.Test.YthjmakjhidjbaaaGreatLibAF
import Derived.Test.YthjmakjhidjbaaaGreatLibAG

/-
 Layer 8, the program's parser: rules' methods. Condition: the rules that they are made of do as the grammar says.
-/
namespace Go.Proofs.YthjmakjhidjbaaaGreat
open Go.ChangeShapes Go.WideShapes Go.ChangeAt Go.RowKit Go.Deep
set_option linter.unusedVariables false
set_option linter.unusedSimpArgs false
set_option maxHeartbeats 2000000
set_option maxRecDepth 20000
attribute [local go_sem ↓] Go.wp_at_zero Go.wp_at_succ

section
variable {c : PC} {w : World} {i : Nat}
theorem m_list {R : Res} {k1 : Nat} {fst cap : Array Value} {n1 : NT} {sg : List UInt8} {tail : Nat → Res} (h : PS c w i) (hi : i ≤ c.ts.length) (hsg : sg ≠ []) (hh : hard n1 = true) (e1 : EntersF k1) (ht : Tail c.ts n1 sg tail) (r1 : ∀ j, i ≤ j → j ≤ c.ts.length → ∀ w', OnlyB c.b w w' → PS c w' j → Calls Tryz.prog k1 (fst ++ cap) w' fun e w'' => Got8 c (reads c.ts n1 j) w' e w'') (hE : R = (match reads c.ts n1 i with | .error m => .error m | .ok (x, j) => lgo c.ts sg tail [x] j)) : Calls Tryz.prog 94 #[.pointer (some ⟨c.b, 0, none⟩), .func (.func k1) fst cap, .string ⟨sg.toArray⟩] w fun e w' => GotL c R w e w' := by
 have E0 := hidden hE
 have A0 := hidden (Ro.nil h)
 have HT := hidden ht
 have H1 := hidden r1
 clear h hE ht r1
 go_enter Tryz.func94, Tryz.ntmps94
 go_wp2_with fail
 refine (H1.out i (by omega) (by omega) _ A0.out.on A0.out.ps).mono ?_
 intro e w1 hg
 cases hx : reads c.ts n1 (i) with
 | error m =>
  rw [hx] at hg
  obtain ⟨rfl, ho⟩ := hg
  exact ⟨rfl, A0.out.stop ho (ml_err E0.out hx)⟩
 | ok xj =>
  obtain ⟨x1, j1⟩ := xj
  have f1 := reads_fine (ts := c.ts) n1 (i := i) (by omega)
  rw [hx] at hg f1
  obtain ⟨ao1, cp1, rfl, hl, hp, ho⟩ := hg
  have E1 := hidden (ml_ok (f := fun x j => lgo c.ts sg tail [x] j) E0.out hx)
  have b1 : j1 ≤ c.ts.length := f1.2.1
  have a1 : i < j1 := f1.2.2 _ _ rfl hh
  have X1 := hidden (A0.out.fresh hl)
  have A1 := hidden (A0.out.only ho hp)
  clear hl hp ho hx f1
  go_wp2_with fail
  go_loopg [7] (c.ts.length + 1 - (j1)) (fun gk v wr => InL c w (i + 1) (fun l k => R = lgo c.ts sg tail l k) gk v wr)
  case atStart => exact ⟨_, _, _, _, _, by omega, by omega, (by simp; omega), rfl, rfl, (A1.out.one cp1 X1.out), E1.out⟩
  case round =>
   obtain ⟨k2, ao2, n2, cp2, L2, kb2, ka2, kl2, kg2, rfl, hm, hE⟩ := hrel
   have A2 := hidden hm
   have E2 := hidden hE
   clear hm hE
   have EK := E2
   go_wp2_with fail
   cases hs : isS [59] (tk c.ts (k2)) with
   | true =>
    have t3 := isS_in hs
    have E3 := hidden ((fun _ hs => hs : R = lgo c.ts sg tail (L2.map ND.t) k2 → _ → isS [59] (tk c.ts k2) = true) E2.out hs)
    refine (has_yes A2.out.ps [59] (by decide) hs).mono ?_
    rintro e w3 ⟨rfl, hp, ho⟩
    have A3 := hidden (A2.out.only ho hp)
    clear hp ho hs
    have h59 := E3.out
    go_wp2_with fail
    have hb := comesL1 A3.out.ps (by omega) sg hsg (gl := _) (by first | rfl | simp only [nblk_alloc, nblk_setCell])
    cases hs : isS sg (tk c.ts (k2 + 1)) with
    | true =>
     rw [hs] at hb
     have HS := hidden hs
     have t4 := isS_in hs
     refine hb.mono ?_
     clear hb
     rintro e w4 ⟨rfl, hb⟩
     have A4 := hidden (A3.out.below hb)
     clear hb hs
     go_wp2_with fail
     refine (must_yes A4.out.ps sg hsg HS.out).mono ?_
     rintro e w5 ⟨rfl, hp, ho⟩
     have A5 := hidden (A4.out.only ho hp)
     clear hp ho
     go_wp2_with fail
     go_ret
     exact A5.out.ret (EK.out.trans (lgo_last HT.out kb2 h59 HS.out)) rfl
    | false =>
     rw [hs] at hb
     have E6 := hidden (EK.out.trans (lgo_go HT.out kb2 h59 hs))
     refine hb.mono ?_
     clear hb
     rintro e w6 ⟨rfl, hb⟩
     have A6 := hidden (A3.out.below hb)
     clear hb hs
     go_wp2_with fail
     refine (H1.out (k2 + 1) (by omega) (by omega) _ A6.out.on A6.out.ps).mono ?_
     intro e w7 hg
     cases hx : reads c.ts n1 (k2 + 1) with
     | error m =>
      rw [hx] at hg
      obtain ⟨rfl, ho⟩ := hg
      exact ⟨rfl, A6.out.stop ho (ml_err E6.out hx)⟩
     | ok xj =>
      obtain ⟨x7, j7⟩ := xj
      have f7 := reads_fine (ts := c.ts) n1 (i := k2 + 1) (by omega)
      rw [hx] at hg f7
      obtain ⟨ao7, cp7, rfl, hl, hp, ho⟩ := hg
      have E7 := hidden (ml_ok (f := fun x j => lgo c.ts sg tail (L2.map ND.t ++ [x]) j) E6.out hx)
      have b7 : j7 ≤ c.ts.length := f7.2.1
      have a7 : k2 + 1 < j7 := f7.2.2 _ _ rfl hh
      have X7 := hidden (A6.out.fresh hl)
      have A7 := hidden (A6.out.only ho hp)
      clear hl hp ho hx f7
      go_wp2_with (at_builtin; refine app_nodes rfl (.tmp 20) (.tmp 23) rfl (.slice ao2 n2 cp2) L2 [⟨x7, ao7, cp7⟩] rfl (A7.out.alloc _).v (by have := A7.out.ps.lt; rw [nblk_alloc]; omega) w7.heap.size 1 rfl (news_one (blk_alloc_new _ _)) (fun d hd => (by rw [List.mem_singleton.1 hd]; exact X7.out.alloc _)) (by simp) (by have := c.small; have := c.tm.len; simp; omega) (by have := A7.out.on.size; rw [nblk_alloc]; omega) ?_; intro va vn vc w9 hv hgr; have A9 := hidden ((A7.out.alloc _).grown hgr hv); clear hv hgr)
      go_roundg (c.ts.length + 1 - (j7))
      case rel => exact ⟨_, _, _, _, _, by omega, by omega, by simp; omega, rfl, rfl, A9.out, by rw [List.map_append]; exact E7.out⟩
      case measure => omega
   | false =>
    have E3 := hidden ((fun _ hs => hs : R = lgo c.ts sg tail (L2.map ND.t) k2 → _ → isS [59] (tk c.ts k2) = false) E2.out hs)
    refine (has_no A2.out.ps (by omega) [59] (by decide) hs).mono ?_
    rintro e w3 ⟨rfl, hb⟩
    have A3 := hidden (A2.out.below hb)
    clear hb hs
    have h59 := E3.out
    go_wp2_with fail
    cases hs : isS sg (tk c.ts (k2)) with
    | false =>
     refine (must_no A3.out.ps (by omega) sg hsg hs).mono ?_
     rintro e w' ⟨rfl, ho⟩
     exact ⟨rfl, A3.out.stop ho ((fun h hs => by rw [EK.out, lgo_end HT.out kb2 h59, hs]; rfl : _ → _ → R = .error k2) E3.out hs)⟩
    | true =>
     have t8 := isS_in hs
     have E8 := hidden ((fun h hs => by rw [EK.out, lgo_end HT.out kb2 h59, hs]; rfl : _ → _ → R = .ok (lst (L2.map ND.t), k2 + 1)) E3.out hs)
     refine (must_yes A3.out.ps sg hsg hs).mono ?_
     rintro e w8 ⟨rfl, hp, ho⟩
     have A8 := hidden (A3.out.only ho hp)
     clear hp ho hs
     go_wp2_with fail
     go_ret
     exact A8.out.ret E8.out rfl
end
end Go.Proofs.YthjmakjhidjbaaaGreat

/-
 Layer 8, the program's parser: rules' methods. Condition: the rules that they are made of do as the grammar says.
-/
namespace Go.Proofs.YthjmakjhidjbaaaGreat
open Go.ChangeShapes Go.WideShapes Go.ChangeAt Go.RowKit Go.Deep
set_option linter.unusedVariables false
set_option linter.unusedSimpArgs false
set_option maxHeartbeats 2000000
set_option maxRecDepth 20000
attribute [local go_sem ↓] Go.wp_at_zero Go.wp_at_succ

section
variable {c : PC} {w : World} {i : Nat}
theorem Got8.from {v0 w w' : World} {R : Res} {e : Ending} (h : Got8 c R w e w') (hv : OnlyB c.b v0 w) : Got8 c R v0 e w' := by
 cases R with
 | error m => exact ⟨h.1, hv.trans h.2⟩
 | ok xj =>
  obtain ⟨x, j⟩ := xj
  obtain ⟨ao, cp, h1, h2, h3, h4⟩ := h
  exact ⟨ao, cp, h1, h2.mono (fun g hg _ => by have := hv.size; omega), h3, hv.trans h4⟩
theorem lst_eq {ts : List Tk} {R : Res} {i : Nat} {n1 T : NT} {sg : List UInt8} {f : List Tr → Tr} (h : R = exec ts (reads ts) (.call n1 fun x => .call T fun r => .must sg (.ret (f (x :: r.L)))) i) : R = (match lstR ts n1 sg (reads ts T) i with | .error m => .error m | .ok (l, q) => .ok (f l.L, q)) := by
 unfold lstR lgo
 cases hx : reads ts n1 i with
 | error m => exact ex_err h hx
 | ok xj =>
  obtain ⟨x, j⟩ := xj
  have h1 := ex_ok h hx
  simp only
  cases hr : reads ts T j with
  | error m => exact ex_err h1 hr
  | ok rq =>
   obtain ⟨r, q⟩ := rq
   have h2 := ex_ok h1 hr
   simp only
   cases hs : isS sg (tk ts q) with
   | true => rw [ex_ret (ex_must h2 hs)]; rfl
   | false => rw [ex_mustN h2 hs]; rfl
theorem m_record {R : Res} {v0 : World} {kd fk : Int} {k1 : Nat} {n1 nf T : NT} (h : PS c v0 i) (hi : i < c.ts.length) (hbF : body nf = .here fun a => .token 3 fun t => .must [61] (.call n1 fun x => .ret (.mk fk a 0 t.S [x]))) (hbT : body T = .skip [59] (.test (isS [125]) (.ret (lst [])) (.call nf fun x => .call T fun r => .ret (lst (x :: r.L)))) (.ret (lst []))) (hnf : hard nf = true) (hn1 : hard n1 = true) (e1 : EntersF k1) (r1 : ∀ j, i < j → j ≤ c.ts.length → Rule c k1 n1 j) (hE : R = exec c.ts (reads c.ts) (.call nf fun x => .call T fun r => .must [125] (.ret (.mk kd i 0 [] (x :: r.L)))) (i + 1)) : Calls Tryz.prog 143 #[.pointer (some ⟨c.b, 0, none⟩), .int .i64 kd, .int .i64 fk, .func (.func k1) #[.pointer (some ⟨c.b, 0, none⟩)] #[]] v0 fun e w' => Got8 c R v0 e w' := by
 have E0 := hidden hE
 have f1 := fld1
 have hmf : ∀ (fn : Fn) (first cap : Array Value) (w : World), (Instr.makeFunc fn first cap).run Tryz.prog w = .ok (.func fn first cap) w := fun _ _ _ _ => rfl
 have z3 : (((v0.alloc (.cells #[.pointer (some ⟨c.b, 0, none⟩)] 63)).alloc (.cells #[.int .i64 fk] 3)).alloc (.cells #[.func (.func k1) #[.pointer (some ⟨c.b, 0, none⟩)] #[]] 108)).heap.size = v0.heap.size + 1 + 1 + 1 := by simp only [nblk_alloc]
 have hp3 : PS c (((v0.alloc (.cells #[.pointer (some ⟨c.b, 0, none⟩)] 63)).alloc (.cells #[.int .i64 fk] 3)).alloc (.cells #[.func (.func k1) #[.pointer (some ⟨c.b, 0, none⟩)] #[]] 108)) i := ((h.alloc _).alloc _).alloc _
 have ho3 : OnlyB c.b v0 (((v0.alloc (.cells #[.pointer (some ⟨c.b, 0, none⟩)] 63)).alloc (.cells #[.int .i64 fk] 3)).alloc (.cells #[.func (.func k1) #[.pointer (some ⟨c.b, 0, none⟩)] #[]] 108)) := ((alloc_only v0 c.b _).alloc _).alloc _
 have hf3 : FF c (((v0.alloc (.cells #[.pointer (some ⟨c.b, 0, none⟩)] 63)).alloc (.cells #[.int .i64 fk] 3)).alloc (.cells #[.func (.func k1) #[.pointer (some ⟨c.b, 0, none⟩)] #[]] 108)) (v0.heap.size + 1) v0.heap.size (v0.heap.size + 1 + 1) k1 fk := ⟨cellL (cellN _ _ _ (by simp only [nblk_alloc])) _, cellL (cellL (cellN _ _ _ rfl) _) _, cellN _ _ _ (by simp only [nblk_alloc])⟩
 have hb0 := h.lt
 have H1 := hidden r1
 have HbF := hidden hbF
 have HbT := hidden hbT
 obtain ⟨w, hW⟩ : ∃ w, ((v0.alloc (.cells #[.pointer (some ⟨c.b, 0, none⟩)] 63)).alloc (.cells #[.int .i64 fk] 3)).alloc (.cells #[.func (.func k1) #[.pointer (some ⟨c.b, 0, none⟩)] #[]] 108) = w := ⟨_, rfl⟩
 rw [hW] at z3 hp3 ho3 hf3
 refine (show Calls Tryz.prog 143 #[.pointer (some ⟨c.b, 0, none⟩), .int .i64 kd, .int .i64 fk, .func (.func k1) #[.pointer (some ⟨c.b, 0, none⟩)] #[]] v0 (fun e w' => Got8 c R w e w') from ?_).mono (fun e w' h9 => h9.from ho3)
 have S0 := hidden (St.new hp3)
 have HF := hidden hf3
 have HW := hidden hW
 have Z3 := hidden z3
 have c0 := hf3.p
 have l0 := cell_lt c0
 have l1 := Nat.ne_of_lt l0
 clear h hE hp3 hf3 r1 hbF hbT hW z3 ho3
 go_enter Tryz.func143, Tryz.ntmps143
 go_wp2_with fail
 rw [HW.out, ← Z3.out]
 clear c0 l0 l1
 refine (take8 S0.out.ps (by omega)).mono ?_
 rintro e w1 ⟨rfl, hp, ho⟩
 have S1 := hidden (S0.out.only ho hp)
 clear hp ho
 have b1 : c.b < v0.heap.size + 1 := by omega
 have b3 : c.b < v0.heap.size + 1 + 1 := by omega
 have F := HF.out.only S1.out.on b1 hb0 b3
 have c1 := F.p
 have l1 := cell_lt c1
 have l2 := Nat.ne_of_lt l1
 clear F
 have M2 := hidden (Mk.zero S1.out kd (c.pl i) 0 ⟨#[]⟩)
 go_wp2_with fail
 obtain ⟨Rl, hRl⟩ : ∃ Rl, Rl = lstR c.ts nf [125] (reads c.ts T) (i + 1) := ⟨_, rfl⟩
 have HRl := hidden hRl
 have EE := lst_eq (f := fun l => .mk kd i 0 [] l) E0.out
 rw [← hRl] at EE
 have EE2 := hidden EE
 clear hRl EE c1 l1 l2
 have e2 : EntersF 155 := enters_of Tryz.func155 (by kernel_rfl) rfl
 have HX := hidden (m_list (k1 := 155) (n1 := nf) (fst := #[]) (cap := #[.pointer (some ⟨v0.heap.size + 1, 0, none⟩), .pointer (some ⟨v0.heap.size, 0, none⟩), .pointer (some ⟨v0.heap.size + 1 + 1, 0, none⟩)]) (sg := [125]) M2.out.st.ps (by omega) (by decide) hnf e2 (Tail.of (T := T) HbT.out) (fun j h1 h2 w' ho hp => m_field hp h2 (HF.out.only (M2.out.st.on.trans ho) b1 hb0 b3) b1 hb0 b3 hn1 e1 (fun j' h3 h4 => H1.out j' (by omega) h4) ((reads_eq nf h2).trans (by rw [HbF.out]; rfl))) HRl.out)
 clear e2
 refine (HX.out).mono ?_
 intro e w3 hg
 cases hL : Rl with
 | error m =>
  rw [hL] at hg
  obtain ⟨rfl, ho⟩ := hg
  exact ⟨rfl, M2.out.st.stop ho (by rw [EE2.out, hL])⟩
 | ok xj =>
  obtain ⟨x3, j3⟩ := xj
  rw [hL] at hg
  obtain ⟨ao3, cp3, rfl, hl, hp, ho⟩ := hg
  have E3 := hidden (show R = .ok (.mk kd i 0 [] _, _) by rw [EE2.out, hL])
  have X3 := hidden (M2.out.fresh hl)
  have M3 := hidden (M2.out.only ho hp)
  clear hl hp ho
  clear hL HX
  obtain ⟨y0, y1, y2, y3, y4, yf⟩ := M3.out.n.cells
  have yl := M3.out.n.lt
  have yn := Nat.ne_of_lt yl
  obtain ⟨z0, z1, z2, z3, z4, zf⟩ := M3.out.st.zc
  have zl := M3.out.st.size
  have zn := Nat.ne_of_lt zl
  have zq := M3.out.hq
  have zq2 := Nat.ne_of_lt zq
  have zq3 := (Nat.ne_of_lt zq).symm
  go_wp2_with fail
  refine bodyPost_ret (results_cell_row rfl _ _ w.heap.size 25 #[.int .i64 kd, .int .i64 (c.pl i), .int .i64 0, .string ⟨[].toArray⟩, .slice ao3 x3.L.length cp3] (0, 0) _ rfl ((M3.out.st.set (a := ⟨w1.heap.size, 4, none⟩) M3.out.hq _).row _ _ _ _ _) Tryz.underlying25 rfl (by kernel_rfl)) rfl ?_
  exact M3.out.retL (s := []) X3.out (E3.out) rfl
end
end Go.Proofs.YthjmakjhidjbaaaGreat
