/-
  Several small texts in one; each tells at its head what it proves, and on what condition.
-/
import Derived.Test.YthjmakjhidjbaaaGreatLibAF

/-
 Layer 8, the program's parser: rules' methods. Condition: the rules that they are made of do as the grammar says.
-/
namespace Go.Proofs.YthjmakjhidjbaaaGreat
open Go.ChangeShapes Go.WideShapes Go.ChangeAt Go.RowKit Go.Deep
set_option linter.unusedVariables false
set_option linter.unusedSimpArgs false
set_option maxHeartbeats 2000000
set_option maxRecDepth 20000
attribute [local go_sem ↓] Go.wp_at_zero Go.wp_at_succ

section
variable {c : PC} {w : World} {i : Nat}
theorem m_left1 {R : Res} {s k1 gl n : Nat} {n1 : NT} {ss : List (List UInt8)} {f : Tr → Nat → Res} (h : PS c w i) (hi : i ≤ c.ts.length) (hf : FL c w s k1 gl n ss) (hsb : c.b < s) (hgb : c.b ≠ gl) (hn : n = ss.length) (hss : n ≤ 100) (hse : ([] : List UInt8) ∉ ss) (hh : hard n1 = true) (hL : LeftE c.ts n1 ss f) (e1 : EntersF k1) (r1 : ∀ j, i ≤ j → j ≤ c.ts.length → Rule c k1 n1 j) (hE : R = (match reads c.ts n1 i with | .error m => .error m | .ok (x, j) => f x j)) : Calls Tryz.prog 173 #[.pointer (some ⟨s + 1, 0, none⟩), .pointer (some ⟨s, 0, none⟩), .pointer (some ⟨s + 2, 0, none⟩)] w fun e w' => Got8 c R w e w' := by
 have hl := hf.lt
 have E0 := hidden hE
 have S0 := hidden (St.new h)
 have HF := hidden hf
 have HL := hidden hL
 have H1 := hidden r1
 have HE_ := hidden hse
 have HN_ := hidden hn
 have fl := fld1
 have c0 := hf.nx
 have l1 : s + 1 < w.heap.size := by omega
 have l2 := Nat.ne_of_lt l1
 clear h hf hL r1 hE hse hn
 go_enter Tryz.func173, Tryz.ntmps173
 go_wp2_with fail
 refine (H1.out i (by omega) hi _ S0.out.ps).mono ?_
 intro e w1 hg
 cases hx : reads c.ts n1 (i) with
 | error m =>
  rw [hx] at hg
  obtain ⟨rfl, ho⟩ := hg
  exact ⟨rfl, S0.out.stop ho (ml_err E0.out hx)⟩
 | ok xj =>
  obtain ⟨x1, j1⟩ := xj
  have f1 := reads_fine (ts := c.ts) n1 (i := i) (by omega)
  rw [hx] at hg f1
  obtain ⟨ao1, cp1, rfl, hl, hp, ho⟩ := hg
  have E1 := hidden (ml_ok (f := f) E0.out hx)
  have b1 : j1 ≤ c.ts.length := f1.2.1
  have a1 : i < j1 := f1.2.2 _ _ rfl hh
  have X1 := hidden (Has.of hl S0.out)
  have S1 := hidden (S0.out.only ho hp)
  clear hl hp ho hx f1
  clear c0
  go_wp2_with fail
  have U2 := hidden (Va.new S1.out X1.out cp1)
  go_loopg [] (c.ts.length + 1 - (j1)) (fun gk wr => InV c w (i + 1) (fun x k => R = f x k) w1.heap.size gk wr)
  case atStart => exact ⟨_, _, _, _, by omega, by omega, rfl, U2.out, E1.out⟩
  case round =>
   obtain ⟨k3, x3, ao3, cp3, kb3, ka3, kg3, hm, hE⟩ := hrel
   have U3 := hidden hm
   have E3 := hidden hE
   clear hm hE
   have F := HF.out.only U3.out.st.on hsb hgb
   have c1 := F.p
   have c2 := F.sn
   have FLS := hidden F.ls
   clear F
   go_wp2_with fail
   have hb := comes8 U3.out.st.ps (by omega) ss gl n HN_.out hss HE_.out FLS.out
   cases hs : isOne ss (tk c.ts k3) with
   | false =>
    rw [hs] at hb
    have EE := hidden (E3.out.trans (HL.out.no _ _ kb3 hs))
    refine hb.mono ?_
    clear hb
    rintro e w4 ⟨rfl, hb⟩
    have U4 := hidden (U3.out.below hb)
    clear hb hs c1 c2
    obtain ⟨y0, y1, y2, y3, y4, yf⟩ := U4.out.n.cells
    obtain ⟨z0, z1, z2, z3, z4, zf⟩ := U4.out.st.zc
    clear yf
    go_wp2_with fail
    refine bodyPost_ret (results_cell_row rfl _ _ w.heap.size 25 #[.int .i64 x3.kind, .int .i64 (c.pl x3.pl), .int .i64 x3.N, .string ⟨x3.S.toArray⟩, .slice ao3 x3.L.length cp3] (0, 0) _ rfl (U4.out.st.row _ _ _ _ _) Tryz.underlying25 rfl (by kernel_rfl)) rfl ?_
    exact U4.out.ret (EE.out) rfl
   | true =>
    rw [hs] at hb
    have tt := isOne_in hs
    have EE := hidden (E3.out.trans (HL.out.go _ _ kb3 hs))
    refine hb.mono ?_
    clear hb
    rintro e w4 ⟨rfl, hb⟩
    have U4 := hidden (U3.out.below hb)
    clear hb hs c1 c2
    go_wp2_with fail
    have F := HF.out.only U4.out.st.on hsb hgb
    obtain ⟨n0, n1_, n2, n3, n4, nf⟩ := U4.out.n.cells
    refine region_till (S := (fun w' => w'.cell? ⟨s, 0, none⟩ = some (.pointer (some ⟨c.b, 0, none⟩)) ∧ w'.cell? ⟨s + 1, 0, none⟩ = some (.func (.func k1) #[.pointer (some ⟨c.b, 0, none⟩)] #[]) ∧ w'.cell? ⟨w1.heap.size, 0, none⟩ = some (.int .i64 x3.kind) ∧ w'.cell? ⟨w1.heap.size, 1, none⟩ = some (.int .i64 (c.pl x3.pl)) ∧ w'.cell? ⟨w1.heap.size, 2, none⟩ = some (.int .i64 x3.N) ∧ w'.cell? ⟨w1.heap.size, 3, none⟩ = some (.string ⟨x3.S.toArray⟩) ∧ w'.cell? ⟨w1.heap.size, 4, none⟩ = some (.slice ao3 x3.L.length cp3))) (kz := 6) (by kernel_rfl) ⟨F.p, F.nx, n0, n1_, n2, n3, n4⟩ (fun hHeld => ?_)
    refine AnyTill.tk (i := 0) (v := ?_) hHeld ?_ ?_
    rotate_left
    ·(intro w hSw; (try dsimp only at hSw); go_simp; (try with_reducible rfl))
    (try simp only [Act.put, q4, q5, q6, q1, q2, q3])
    refine AnyTill.tk (i := 2) (v := ?_) hHeld ?_ ?_
    rotate_left
    ·(intro w hSw; (try dsimp only at hSw); go_simp; (try with_reducible rfl))
    (try simp only [Act.put, q4, q5, q6, q1, q2, q3])
    refine AnyTill.tk (i := 3) (v := ?_) hHeld ?_ ?_
    rotate_left
    ·(intro w hSw; (try dsimp only at hSw); go_simp; (try with_reducible rfl))
    (try simp only [Act.put, q4, q5, q6, q1, q2, q3])
    clear nf
    refine AnyTill.one (i := 1) (by kernel_rfl) rfl (fun K hK => ?_)
    (try simp only [q1, q2, q3])
    go_simp
    refine (take8 (U4.out.drew).st.ps (by omega)).mono ?_
    rintro e w5 ⟨rfl, hp, ho⟩
    have U5 := hidden ((U4.out.drew).only ho hp)
    clear hp ho
    have F := HF.out.only U5.out.st.on hsb hgb
    obtain ⟨n0, n1_, n2, n3, n4, nf⟩ := U5.out.n.cells
    refine hK.out _ _ (fun _ => ⟨F.p, F.nx, n0, n1_, n2, n3, n4⟩) ?_
    clear hK K
    (try simp only [Act.put, q4, q5, q6, q1, q2, q3])
    clear nf hHeld
    refine AnyTill.one (i := 4) (by kernel_rfl) rfl (fun K hK => ?_)
    (try simp only [q1, q2, q3])
    go_simp
    refine (H1.out (k3 + 1) (by omega) (by omega) _ U5.out.st.ps).mono ?_
    intro e w6 hg
    cases hx : reads c.ts n1 (k3 + 1) with
    | error m =>
     rw [hx] at hg
     obtain ⟨rfl, ho⟩ := hg
     exact ⟨rfl, U5.out.st.stop ho (ml_err EE.out hx)⟩
    | ok xj =>
     obtain ⟨x6, j6⟩ := xj
     have f6 := reads_fine (ts := c.ts) n1 (i := k3 + 1) (by omega)
     rw [hx] at hg f6
     obtain ⟨ao6, cp6, rfl, hl, hp, ho⟩ := hg
     have E6 := hidden (ml_ok (f := fun y m => f (.mk 29 k3 0 (tk c.ts k3).S [x3, y]) m) EE.out hx)
     have b6 : j6 ≤ c.ts.length := f6.2.1
     have a6 : k3 + 1 < j6 := f6.2.2 _ _ rfl hh
     have X6 := hidden (hl.mono (Q := fun g => w.heap.size + 1 ≤ g ∧ g ≠ w1.heap.size) (fun g hg _ => by have h1 := U5.out.st.size; have h2 := U5.out.n.lt; omega))
     have U6 := hidden (U5.out.only ho hp)
     clear hl hp ho hx f6
     have F := HF.out.only U6.out.st.on hsb hgb
     obtain ⟨n0, n1_, n2, n3, n4, nf⟩ := U6.out.n.cells
     refine hK.out _ _ (fun _ => ⟨F.p, F.nx, n0, n1_, n2, n3, n4⟩) ?_
     clear hK K
     (try simp only [Act.put, q4, q5, q6, q1, q2, q3])
     clear nf
     refine AnyTill.one (i := 5) (by kernel_rfl) rfl (fun K hK => ?_)
     (try simp only [q1, q2, q3])
     go_simp
     refine (binary8 c w6 (fun g => w.heap.size + 1 ≤ g ∧ g ≠ w1.heap.size) _ _ (tk c.ts k3).S k3 x3 x6 ao3 ao6 cp3 cp6 trivial U6.out.rl X6.out).mono ?_
     rintro e w7 ⟨ao7, cp7, rfl, hl, hb⟩
     have nlt := U6.out.n.lt
     have YB := hidden (hl.mono (Q := fun g => w.heap.size + 1 ≤ g ∧ g ≠ w1.heap.size) (fun g hg _ => by have := U6.out.st.size; omega))
     have U7 := hidden (U6.out.below hb)
     clear hl hb nlt
     have F := HF.out.only U7.out.st.on hsb hgb
     obtain ⟨n0, n1_, n2, n3, n4, nf⟩ := U7.out.n.cells
     refine hK.out _ _ (fun _ => ⟨F.p, F.nx, n0, n1_, n2, n3, n4⟩) ?_
     clear hK K
     (try simp only [Act.put, q4, q5, q6, q1, q2, q3])
     refine AnyTill.one (i := 6) (by kernel_rfl) rfl (fun K hK => ?_)
     (try simp only [q1, q2, q3])
     go_simp
     refine hK.out _ _ (fun h => absurd rfl h) ?_
     clear hK K
     (try simp only [Act.put, q4, q5, q6, q1, q2, q3])
     refine AnyTill.done (by kernel_rfl) ?_ _
     (try simp only [Act.put, q4, q5, q6, q1, q2, q3])
     clear n0 n1_ n2 n3 n4 nf
     go_wp2_with fail
     go_roundg (c.ts.length + 1 - (j6))
     case rel => exact ⟨_, _, _, _, by omega, by omega, rfl, (U7.out.put (y := .mk 29 k3 0 (tk c.ts k3).S [x3, x6]) YB.out cp7), E6.out⟩
     case measure => omega
end
end Go.Proofs.YthjmakjhidjbaaaGreat

/-
 Layer 8, the program's parser: rules' methods. Condition: the rules that they are made of do as the grammar says.
-/
namespace Go.Proofs.YthjmakjhidjbaaaGreat
open Go.ChangeShapes Go.WideShapes Go.ChangeAt Go.RowKit Go.Deep
set_option linter.unusedVariables false
set_option linter.unusedSimpArgs false
set_option maxHeartbeats 2000000
set_option maxRecDepth 20000
attribute [local go_sem ↓] Go.wp_at_zero Go.wp_at_succ

section
variable {c : PC} {w : World} {i : Nat}
theorem left_eq {ts : List Tk} {lv i : Nat} (hl : leftAt lv = true) (h7 : lv < 7) (hi : i ≤ ts.length) : reads ts (.join lv) i = (match reads ts (.join (lv + 1)) i with | .error m => .error m | .ok (x, j) => reads ts (.joinR lv x) j) := by
 rw [reads_eq (.join lv) hi]
 have hb : body (.join lv) = .call (.join (lv + 1)) fun x => .call (.joinR lv x) .ret := by
  simp only [body]
  rw [if_neg (by omega), if_pos hl]
 rw [hb]
 simp only [exec]
 cases reads ts (.join (lv + 1)) i with
 | error m => rfl
 | ok xj =>
  obtain ⟨x, j⟩ := xj
  simp only
  cases reads ts (.joinR lv x) j with
  | error m => rfl
  | ok z => rfl
theorem m_cmp (hi : i ≤ c.ts.length) (r0 : Rule c 172 (.join 3) i) (ih : Beh c i) : Rule c 169 (.join 2) i := by
 intro w h
 obtain ⟨R, hR⟩ : ∃ R, R = reads c.ts (.join 2) i := ⟨_, rfl⟩
 rw [← hR]
 have HR := hidden hR
 have S0 := hidden (St.new h)
 have hmf : ∀ (fn : Fn) (first cap : Array Value) (w : World), (Instr.makeFunc fn first cap).run Tryz.prog w = .ok (.func fn first cap) w := fun _ _ _ _ => rfl
 have r1 : ∀ j, i ≤ j → j ≤ c.ts.length → Rule c 172 (.join 3) j := fun j h1 h2 => by
  rcases Nat.lt_or_ge i j with h3 | h3
  ·exact ih (.join 3) j h3 h2
  ·have : j = i := by omega
   subst this
   exact r0
 have H1 := hidden r1
 clear h hR r0 r1
 go_enter Tryz.func169, Tryz.ntmps169
 go_wp2_with fail
 have zz : (w.alloc (.cells #[.int .i64 0, .int .i64 0, .int .i64 0, .string ⟨#[]⟩, .slice none 0 0] 25)).heap.size = w.heap.size + 1 := nblk_alloc _ _
 obtain ⟨W0, hW⟩ : ∃ W0, w.alloc (.cells #[.int .i64 0, .int .i64 0, .int .i64 0, .string ⟨#[]⟩, .slice none 0 0] 25) = W0 := ⟨_, rfl⟩
 rw [hW] at S0 zz ⊢
 clear hW
 have HLS : LS (W0.alloc (.cells ([[61], [60, 62], [60], [62], [60, 61], [62, 61]].map fun s => Value.string ⟨s.toArray⟩).toArray 9)) (w.heap.size + 1) [[61], [60, 62], [60], [62], [60, 61], [62, 61]] := zz ▸ LS.new W0 [[61], [60, 62], [60], [62], [60, 61], [62, 61]]
 refine (leftF c (W0.alloc (.cells ([[61], [60, 62], [60], [62], [60, 61], [62, 61]].map fun s => Value.string ⟨s.toArray⟩).toArray 9)) _ (w.heap.size + 1) 6 [[61], [60, 62], [60], [62], [60, 61], [62, 61]] HLS).mono ?_
 rintro e w2 ⟨s, rfl, hf, hz, hb⟩
 have HF := hidden hf
 have S2 := hidden ((S0.out.alloc _).below hb)
 rw [nblk_alloc] at hz
 clear hf hb HLS
 go_wp2_with fail
 have sb : c.b < s := by have := S0.out.ps.lt; omega
 have gb : c.b ≠ w.heap.size + 1 := by have := S0.out.b0; omega
 have e1 : EntersF 172 := (enters_of Tryz.func172 (by kernel_rfl) rfl)
 have hh : hard (.join 3) = true := rfl
 have hx := m_left1 (f := fun x k => reads c.ts (.joinR 2 x) k) S2.out.ps hi HF.out sb gb rfl (by decide) (by decide) hh (left_of (lv := 2) rfl (by decide)) e1 H1.out (HR.out.trans (left_eq (lv := 2) rfl (by decide) hi))
 have HX := hidden hx
 clear hx e1 hh
 refine (HX.out).mono ?_
 intro e w3 hg
 cases hR : R with
 | error m =>
  rw [hR] at hg
  obtain ⟨rfl, ho⟩ := hg
  exact ⟨rfl, S2.out.stop ho hR⟩
 | ok xj =>
  obtain ⟨x3, j3⟩ := xj
  rw [hR] at hg
  obtain ⟨ao3, cp3, rfl, hl, hp, ho⟩ := hg
  have X3 := hidden (Has.of hl S2.out)
  have HR := hidden hR
  have S3 := hidden (S2.out.only ho hp)
  clear hl hp ho hR
  obtain ⟨z0, z1, z2, z3, z4, zf⟩ := S3.out.zc
  go_wp2_with fail
  refine bodyPost_ret (results_cell_row rfl _ _ w.heap.size 25 #[.int .i64 x3.kind, .int .i64 (c.pl x3.pl), .int .i64 x3.N, .string ⟨x3.S.toArray⟩, .slice ao3 x3.L.length cp3] (0, 0) _ rfl (S3.out.row _ _ _ _ _) Tryz.underlying25 rfl (by kernel_rfl)) rfl ?_
  exact S3.out.ret X3.out HR.out rfl
theorem m_sum (hi : i ≤ c.ts.length) (r0 : Rule c 176 (.join 6) i) (ih : Beh c i) : Rule c 175 (.join 5) i := by
 intro w h
 obtain ⟨R, hR⟩ : ∃ R, R = reads c.ts (.join 5) i := ⟨_, rfl⟩
 rw [← hR]
 have HR := hidden hR
 have S0 := hidden (St.new h)
 have hmf : ∀ (fn : Fn) (first cap : Array Value) (w : World), (Instr.makeFunc fn first cap).run Tryz.prog w = .ok (.func fn first cap) w := fun _ _ _ _ => rfl
 have r1 : ∀ j, i ≤ j → j ≤ c.ts.length → Rule c 176 (.join 6) j := fun j h1 h2 => by
  rcases Nat.lt_or_ge i j with h3 | h3
  ·exact ih (.join 6) j h3 h2
  ·have : j = i := by omega
   subst this
   exact r0
 have H1 := hidden r1
 clear h hR r0 r1
 go_enter Tryz.func175, Tryz.ntmps175
 go_wp2_with fail
 have zz : (w.alloc (.cells #[.int .i64 0, .int .i64 0, .int .i64 0, .string ⟨#[]⟩, .slice none 0 0] 25)).heap.size = w.heap.size + 1 := nblk_alloc _ _
 obtain ⟨W0, hW⟩ : ∃ W0, w.alloc (.cells #[.int .i64 0, .int .i64 0, .int .i64 0, .string ⟨#[]⟩, .slice none 0 0] 25) = W0 := ⟨_, rfl⟩
 rw [hW] at S0 zz ⊢
 clear hW
 have HLS : LS (W0.alloc (.cells ([[43], [45]].map fun s => Value.string ⟨s.toArray⟩).toArray 9)) (w.heap.size + 1) [[43], [45]] := zz ▸ LS.new W0 [[43], [45]]
 refine (leftF c (W0.alloc (.cells ([[43], [45]].map fun s => Value.string ⟨s.toArray⟩).toArray 9)) _ (w.heap.size + 1) 2 [[43], [45]] HLS).mono ?_
 rintro e w2 ⟨s, rfl, hf, hz, hb⟩
 have HF := hidden hf
 have S2 := hidden ((S0.out.alloc _).below hb)
 rw [nblk_alloc] at hz
 clear hf hb HLS
 go_wp2_with fail
 have sb : c.b < s := by have := S0.out.ps.lt; omega
 have gb : c.b ≠ w.heap.size + 1 := by have := S0.out.b0; omega
 have e1 : EntersF 176 := (enters_of Tryz.func176 (by kernel_rfl) rfl)
 have hh : hard (.join 6) = true := rfl
 have hx := m_left1 (f := fun x k => reads c.ts (.joinR 5 x) k) S2.out.ps hi HF.out sb gb rfl (by decide) (by decide) hh (left_of (lv := 5) rfl (by decide)) e1 H1.out (HR.out.trans (left_eq (lv := 5) rfl (by decide) hi))
 have HX := hidden hx
 clear hx e1 hh
 refine (HX.out).mono ?_
 intro e w3 hg
 cases hR : R with
 | error m =>
  rw [hR] at hg
  obtain ⟨rfl, ho⟩ := hg
  exact ⟨rfl, S2.out.stop ho hR⟩
 | ok xj =>
  obtain ⟨x3, j3⟩ := xj
  rw [hR] at hg
  obtain ⟨ao3, cp3, rfl, hl, hp, ho⟩ := hg
  have X3 := hidden (Has.of hl S2.out)
  have HR := hidden hR
  have S3 := hidden (S2.out.only ho hp)
  clear hl hp ho hR
  obtain ⟨z0, z1, z2, z3, z4, zf⟩ := S3.out.zc
  go_wp2_with fail
  refine bodyPost_ret (results_cell_row rfl _ _ w.heap.size 25 #[.int .i64 x3.kind, .int .i64 (c.pl x3.pl), .int .i64 x3.N, .string ⟨x3.S.toArray⟩, .slice ao3 x3.L.length cp3] (0, 0) _ rfl (S3.out.row _ _ _ _ _) Tryz.underlying25 rfl (by kernel_rfl)) rfl ?_
  exact S3.out.ret X3.out HR.out rfl
theorem m_mul (hi : i ≤ c.ts.length) (r0 : Rule c 177 (.join 7) i) (ih : Beh c i) : Rule c 176 (.join 6) i := by
 intro w h
 obtain ⟨R, hR⟩ : ∃ R, R = reads c.ts (.join 6) i := ⟨_, rfl⟩
 rw [← hR]
 have HR := hidden hR
 have S0 := hidden (St.new h)
 have hmf : ∀ (fn : Fn) (first cap : Array Value) (w : World), (Instr.makeFunc fn first cap).run Tryz.prog w = .ok (.func fn first cap) w := fun _ _ _ _ => rfl
 have r1 : ∀ j, i ≤ j → j ≤ c.ts.length → Rule c 177 (.join 7) j := fun j h1 h2 => by
  rcases Nat.lt_or_ge i j with h3 | h3
  ·exact ih (.join 7) j h3 h2
  ·have : j = i := by omega
   subst this
   exact r0
 have H1 := hidden r1
 clear h hR r0 r1
 go_enter Tryz.func176, Tryz.ntmps176
 go_wp2_with fail
 have zz : (w.alloc (.cells #[.int .i64 0, .int .i64 0, .int .i64 0, .string ⟨#[]⟩, .slice none 0 0] 25)).heap.size = w.heap.size + 1 := nblk_alloc _ _
 obtain ⟨W0, hW⟩ : ∃ W0, w.alloc (.cells #[.int .i64 0, .int .i64 0, .int .i64 0, .string ⟨#[]⟩, .slice none 0 0] 25) = W0 := ⟨_, rfl⟩
 rw [hW] at S0 zz ⊢
 clear hW
 have HLS : LS (W0.alloc (.cells ([[42], [47], [109, 111, 100]].map fun s => Value.string ⟨s.toArray⟩).toArray 9)) (w.heap.size + 1) [[42], [47], [109, 111, 100]] := zz ▸ LS.new W0 [[42], [47], [109, 111, 100]]
 refine (leftF c (W0.alloc (.cells ([[42], [47], [109, 111, 100]].map fun s => Value.string ⟨s.toArray⟩).toArray 9)) _ (w.heap.size + 1) 3 [[42], [47], [109, 111, 100]] HLS).mono ?_
 rintro e w2 ⟨s, rfl, hf, hz, hb⟩
 have HF := hidden hf
 have S2 := hidden ((S0.out.alloc _).below hb)
 rw [nblk_alloc] at hz
 clear hf hb HLS
 go_wp2_with fail
 have sb : c.b < s := by have := S0.out.ps.lt; omega
 have gb : c.b ≠ w.heap.size + 1 := by have := S0.out.b0; omega
 have e1 : EntersF 177 := (enters_of Tryz.func177 (by kernel_rfl) rfl)
 have hh : hard (.join 7) = true := rfl
 have hx := m_left1 (f := fun x k => reads c.ts (.joinR 6 x) k) S2.out.ps hi HF.out sb gb rfl (by decide) (by decide) hh (left_of (lv := 6) rfl (by decide)) e1 H1.out (HR.out.trans (left_eq (lv := 6) rfl (by decide) hi))
 have HX := hidden hx
 clear hx e1 hh
 refine (HX.out).mono ?_
 intro e w3 hg
 cases hR : R with
 | error m =>
  rw [hR] at hg
  obtain ⟨rfl, ho⟩ := hg
  exact ⟨rfl, S2.out.stop ho hR⟩
 | ok xj =>
  obtain ⟨x3, j3⟩ := xj
  rw [hR] at hg
  obtain ⟨ao3, cp3, rfl, hl, hp, ho⟩ := hg
  have X3 := hidden (Has.of hl S2.out)
  have HR := hidden hR
  have S3 := hidden (S2.out.only ho hp)
  clear hl hp ho hR
  obtain ⟨z0, z1, z2, z3, z4, zf⟩ := S3.out.zc
  go_wp2_with fail
  refine bodyPost_ret (results_cell_row rfl _ _ w.heap.size 25 #[.int .i64 x3.kind, .int .i64 (c.pl x3.pl), .int .i64 x3.N, .string ⟨x3.S.toArray⟩, .slice ao3 x3.L.length cp3] (0, 0) _ rfl (S3.out.row _ _ _ _ _) Tryz.underlying25 rfl (by kernel_rfl)) rfl ?_
  exact S3.out.ret X3.out HR.out rfl
end
end Go.Proofs.YthjmakjhidjbaaaGreat
