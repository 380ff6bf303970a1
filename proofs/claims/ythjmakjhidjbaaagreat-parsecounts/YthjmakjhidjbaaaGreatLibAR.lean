/-
  Several small texts in one; each tells at its head what it proves, and on what condition.
-/
import Derived.Test.YthjmakjhidjbaaaGreatLibAI
import Derived.Test.YthjmakjhidjbaaaGreatLibAF
import Derived.Test.YthjmakjhidjbaaaGreatLibAH
import Derived.Test.YthjmakjhidjbaaaGreatLibAJ
import Derived.Test.YthjmakjhidjbaaaGreatP8N
import Derived.Test.YthjmakjhidjbaaaGreatLibAM
import Derived.Test.YthjmakjhidjbaaaGreatLibAO
import Derived.Test.YthjmakjhidjbaaaGreatLibAP
import Derived.Test.YthjmakjhidjbaaaGreatLibAQ
import Derived.Test.YthjmakjhidjbaaaGreatP8G
import Derived.Test.YthjmakjhidjbaaaGreatLibAN
import Derived.Test.YthjmakjhidjbaaaGreatLibAG
import Derived.Test.YthjmakjhidjbaaaGreatP8R

/-
 Layer 8, the program's parser: rules' methods. Condition: the rules that they are made of do as the grammar says.
-/
namespace Go.Proofs.YthjmakjhidjbaaaGreat
open Go.ChangeShapes Go.WideShapes Go.ChangeAt Go.RowKit Go.Deep
set_option linter.unusedVariables false
set_option linter.unusedSimpArgs false
set_option maxHeartbeats 2000000
set_option maxRecDepth 20000
attribute [local go_sem ↓] Go.wp_at_zero Go.wp_at_succ

section
variable {c : PC} {w : World} {i : Nat}
theorem m_un {R : Res} (h : PS c w i) (hi : i ≤ c.ts.length) (hA : Rule c 179 .app i) (ih : Beh c i) (hE : R = exec c.ts (reads c.ts) (.test (isOne [[45], [110, 111, 116]]) (.eat fun t => .call .un fun x => .ret (.mk 30 i 0 t.S [x])) (.call .app .ret)) (i)) : Calls Tryz.prog 177 #[.pointer (some ⟨c.b, 0, none⟩)] w fun e w' => Got8 c R w e w' := by
 have E0 := hidden hE
 have S0 := hidden (St.new h)
 have fl0 := fld1
 clear h hE
 go_enter Tryz.func177, Tryz.ntmps177
 have hmf : ∀ (fn : Fn) (first cap : Array Value) (w : World), (Instr.makeFunc fn first cap).run Tryz.prog w = .ok (.func fn first cap) w := fun _ _ _ _ => rfl
 go_wp2_with fail
 cases hs : isOne [[45], [110, 111, 116]] (tk c.ts (i)) with
 | true =>
  have t1 := isOne_in hs
  have E1 := hidden (ex_yes E0.out hs)
  refine (comesR S0.out.ps (by omega) [[45], [110, 111, 116]] 2 rfl (by decide) (by decide) hs (by first | exact nblk_alloc _ _ | rfl | simp only [nblk_alloc, nblk_setCell])).mono ?_
  rintro e w1 ⟨rfl, hb⟩
  have S1 := hidden (S0.out.below hb)
  clear hb
  have E9 := hidden (ex_eat E1.out t1)
  have hk1 := one_ne1 hs
  clear hs
  go_wp2_with fail
  refine (m_signed S1.out.ps t1 hk1 rfl (enters_of Tryz.func177 (by kernel_rfl) rfl) (ih .un (i + 1) (by omega) (by omega)) ih E9.out).mono ?_
  intro e w2 hg
  cases hR : R with
  | error m =>
   rw [hR] at hg
   obtain ⟨rfl, ho⟩ := hg
   exact ⟨rfl, S1.out.stop ho hR⟩
  | ok xj =>
   obtain ⟨x2, j2⟩ := xj
   rw [hR] at hg
   obtain ⟨ao2, cp2, rfl, hl, hp, ho⟩ := hg
   have X2 := hidden (Has.of hl S1.out)
   have HR := hidden hR
   have S2 := hidden (S1.out.only ho hp)
   clear hl hp ho hR
   obtain ⟨z0, z1, z2, z3, z4, zf⟩ := S2.out.zc
   go_wp2_with fail
   refine bodyPost_ret (results_cell_row rfl _ _ w.heap.size 25 #[.int .i64 x2.kind, .int .i64 (c.pl x2.pl), .int .i64 x2.N, .string ⟨x2.S.toArray⟩, .slice ao2 x2.L.length cp2] (0, 0) _ rfl (S2.out.row _ _ _ _ _) Tryz.underlying25 rfl (by kernel_rfl)) rfl ?_
   exact S2.out.ret X2.out HR.out rfl
 | false =>
  have E1 := hidden (ex_no E0.out hs)
  refine (comesR S0.out.ps (by omega) [[45], [110, 111, 116]] 2 rfl (by decide) (by decide) hs (by first | exact nblk_alloc _ _ | rfl | simp only [nblk_alloc, nblk_setCell])).mono ?_
  rintro e w1 ⟨rfl, hb⟩
  have S1 := hidden (S0.out.below hb)
  clear hb hs
  have E9 := hidden (ex_end E1.out)
  go_wp2_with fail
  refine (E9.out ▸ hA _ S1.out.ps).mono ?_
  intro e w3 hg
  cases hR : R with
  | error m =>
   rw [hR] at hg
   obtain ⟨rfl, ho⟩ := hg
   exact ⟨rfl, S1.out.stop ho hR⟩
  | ok xj =>
   obtain ⟨x3, j3⟩ := xj
   rw [hR] at hg
   obtain ⟨ao3, cp3, rfl, hl, hp, ho⟩ := hg
   have X3 := hidden (Has.of hl S1.out)
   have HR := hidden hR
   have S3 := hidden (S1.out.only ho hp)
   clear hl hp ho hR
   obtain ⟨z0, z1, z2, z3, z4, zf⟩ := S3.out.zc
   go_wp2_with fail
   refine bodyPost_ret (results_cell_row rfl _ _ w.heap.size 25 #[.int .i64 x3.kind, .int .i64 (c.pl x3.pl), .int .i64 x3.N, .string ⟨x3.S.toArray⟩, .slice ao3 x3.L.length cp3] (0, 0) _ rfl (S3.out.row _ _ _ _ _) Tryz.underlying25 rfl (by kernel_rfl)) rfl ?_
   exact S3.out.ret X3.out HR.out rfl
end
end Go.Proofs.YthjmakjhidjbaaaGreat

/-
 Layer 8, the program's parser: all rules' methods. Condition: bind does as the grammar says where the rules that it is made of do.
-/
namespace Go.Proofs.YthjmakjhidjbaaaGreat
open Go.ChangeShapes Go.WideShapes Go.ChangeAt Go.RowKit Go.Deep
set_option linter.unusedVariables false
set_option linter.unusedSimpArgs false
set_option maxHeartbeats 4000000
set_option maxRecDepth 20000

section
variable {c : PC}
theorem entersExpr : EntersF 125 := enters_of Tryz.func125 (by kernel_rfl) rfl
theorem entersPat : EntersF 109 := enters_of Tryz.func109 (by kernel_rfl) rfl
theorem record_false {i : Nat} (hi : i ≤ c.ts.length) (ih : Beh c i) (w : World) (h : PS c w i) (hs : isS [123] (tk c.ts i) = true) : Calls Tryz.prog 143 #[.pointer (some ⟨c.b, 0, none⟩), .int .i64 10, .int .i64 11, .func (.func 125) #[.pointer (some ⟨c.b, 0, none⟩)] #[]] w fun e w' => Got8 c (reads c.ts (.fields false) i) w e w' := by
 have hE : reads c.ts (.fields false) i = exec c.ts (reads c.ts) (.must [123] (.call (.field false) fun x => .call (.fieldsR false) fun r => .must [125] (.ret (.mk 10 i 0 [] (x :: r.L))))) i := reads_eq _ hi
 exact m_record (nf := .field false) (T := .fieldsR false) (n1 := .expr) h (isS_in hs) rfl rfl rfl rfl entersExpr (fun j h1 h2 => ih .expr j h1 h2) (ex_must hE hs)
theorem record_true {i : Nat} (hi : i ≤ c.ts.length) (ih : Beh c i) (w : World) (h : PS c w i) (hs : isS [123] (tk c.ts i) = true) : Calls Tryz.prog 143 #[.pointer (some ⟨c.b, 0, none⟩), .int .i64 110, .int .i64 111, .func (.func 109) #[.pointer (some ⟨c.b, 0, none⟩)] #[]] w fun e w' => Got8 c (reads c.ts (.fields true) i) w e w' := by
 have hE : reads c.ts (.fields true) i = exec c.ts (reads c.ts) (.must [123] (.call (.field true) fun x => .call (.fieldsR true) fun r => .must [125] (.ret (.mk 110 i 0 [] (x :: r.L))))) i := reads_eq _ hi
 exact m_record (nf := .field true) (T := .fieldsR true) (n1 := .pat) h (isS_in hs) rfl rfl rfl rfl entersPat (fun j h1 h2 => ih .pat j h1 h2) (ex_must hE hs)
theorem rule_all (hN : ∀ j, j < c.ts.length → -4611686018427387904 ≤ (tk c.ts j).N ∧ (tk c.ts j).N ≤ 4611686018427387904) (hB : ∀ i, i ≤ c.ts.length → Rule c 109 .pat i → Beh c i → Rule c 93 .bind i) : ∀ (m : Nat) (n : NT) (i : Nat), i ≤ c.ts.length → (c.ts.length - i) * 32 + rank n < m → Ru c n i
 | 0, n, i, hi, hm => by omega
 | m + 1, n, i, hi, hm => by
  have ih : Beh c i := fun n' j h1 h2 => rule_all hN hB m n' j h2 (by have := rank_lt n'; omega)
  have same : ∀ n', rank n' < rank n → Ru c n' i := fun n' h => rule_all hN hB m n' i hi (by omega)
  cases n
  case seq => exact m_seq hi (same .expr (by decide)) ih
  case expr => exact fun w h => m_expr h hi ih (fun R w h hl e => m_count h hl ih e) (fun R w h e => m_put h hi (same .tup (by decide)) ih e) (reads_eq _ hi)
  case item => exact fun w h => m_item h hi ih (reads_eq _ hi)
  case lab => exact fun w h => m_lab h hi ih (reads_eq _ hi)
  case con k =>
   by_cases hk : k = 207
   ·subst hk
    exact fun w h => m_con h hi ih (reads_eq _ hi)
   ·have e : fnOf (.con k) = none := if_neg hk
    unfold Ru
    rw [e]
    trivial
  case bind => exact hB i hi (same .pat (by decide)) ih
  case arm => exact fun w h => m_arm h hi (same .pat (by decide)) ih (reads_eq _ hi)
  case tup => exact m_tup hi (same (.join 0) (by decide)) ih
  case join lv =>
   match lv, same with
   | 0, same => exact m_or hi (same (.join 1) (by decide)) ih
   | 1, same => exact m_and hi (same (.join 2) (by decide)) ih
   | 2, same => exact m_cmp hi (same (.join 3) (by decide)) ih
   | 3, same => exact m_cat hi (same (.join 4) (by decide)) ih
   | 4, same => exact m_cons hi (same (.join 5) (by decide)) ih
   | 5, same => exact m_sum hi (same (.join 6) (by decide)) ih
   | 6, same => exact m_mul hi (same (.join 7) (by decide)) ih
   | 7, same =>
    have e : reads c.ts (.join 7) i = reads c.ts .un i := ex_end (reads_eq (.join 7) hi)
    have hu : Rule c 177 .un i := same .un (by decide)
    intro w h
    rw [e]
    exact hu w h
   | n + 8, same => trivial
  case un => exact fun w h => m_un h hi (same .app (by decide)) ih (reads_eq _ hi)
  case app => exact fun w h => m_app h hi (same .post (by decide)) ih (reads_eq _ hi)
  case post => exact fun w h => m_post h hi (same .atom (by decide)) ih (reads_eq _ hi)
  case atom => exact fun w h => m_atom h hi ih (record_false hi ih) (reads_eq _ hi)
  case pat => exact fun w h => m_pat h hi (same .alt (by decide)) ih (reads_eq _ hi)
  case alt => exact m_alt hi (same .ptup (by decide)) ih
  case ptup => exact m_ptup hi (same .pcons (by decide)) ih
  case pcons => exact m_pcons hi (same .papp (by decide)) ih
  case papp => exact fun w h => m_papp h hi (same .patom (by decide)) ih (reads_eq _ hi)
  case patom => exact fun w h => m_patom h hi hN ih (record_true hi ih) (reads_eq _ hi)
  case ty => exact m_ty hi (same .tprod (by decide)) ih
  case tprod => exact m_tprod hi (same .tpost (by decide)) ih
  case tpost => exact m_tpost hi ih
  all_goals trivial
end
end Go.Proofs.YthjmakjhidjbaaaGreat

/-
 Layer 8, plain: a pattern that is one token. No program is named.
-/
namespace Go.Proofs.YthjmakjhidjbaaaGreat
set_option linter.unusedVariables false
set_option linter.unusedSimpArgs false
set_option maxHeartbeats 2000000

section
variable {ts : List Tk} {i : Nat} {x : Tr}
theorem right_one {n1 n2 : NT} {sg : List UInt8} {J : List UInt8 → Nat → Tr → Tr → Tr} (hi : i ≤ ts.length) (hh : hard n1 = true) (h : rightR ts n1 n2 sg J i = .ok (x, i + 1)) : reads ts n1 i = .ok (x, i + 1) := by
 unfold rightR at h
 have hf := reads_fine (ts := ts) n1 hi
 cases hx : reads ts n1 i with
 | error m => rw [hx] at h; cases h
 | ok xj =>
  obtain ⟨y, j⟩ := xj
  rw [hx] at h hf
  have h1 : i < j := hf.2.2 y j rfl hh
  simp only at h
  cases hs : isS sg (tk ts j) with
  | false =>
   rw [hs] at h
   exact h
  | true =>
   rw [hs] at h
   have hl := isS_in hs
   have hg := reads_fine (ts := ts) n2 (i := j + 1) hl
   simp only [if_true] at h
   cases hy : reads ts n2 (j + 1) with
   | error m => rw [hy] at h; cases h
   | ok yq =>
    obtain ⟨z, q⟩ := yq
    rw [hy] at h hg
    have h2 : j + 1 ≤ q := hg.1
    simp only [Except.ok.injEq, Prod.mk.injEq] at h
    omega
theorem in_one {n1 T : NT} {sg : List UInt8} {kd : Int} (hi : i ≤ ts.length) (hh : hard n1 = true) (ht : body T = .skip sg (.call n1 fun x => .call T fun r => .ret (lst (x :: r.L))) (.ret (lst []))) (h : inR ts n1 T sg kd i = .ok (x, i + 1)) : reads ts n1 i = .ok (x, i + 1) := by
 unfold inR at h
 have hf := reads_fine (ts := ts) n1 hi
 cases hx : reads ts n1 i with
 | error m => rw [hx] at h; cases h
 | ok xj =>
  obtain ⟨y, j⟩ := xj
  rw [hx] at h hf
  have h1 : i < j := hf.2.2 y j rfl hh
  have hj : j ≤ ts.length := hf.2.1
  simp only at h
  cases hs : isS sg (tk ts j) with
  | false =>
   rw [hs] at h
   exact h
  | true =>
   rw [hs, if_pos rfl] at h
   have hl := isS_in hs
   have e := tail_skip (T := T) (C := fun l => .ret (.mk kd j 0 [] l)) (acc := [y]) ht hj h.symm hs
   have hg := exec_ge (ts := ts) (rec := reads ts) (fun n i hi => reads_fine n hi) (.call n1 fun x => .call T fun r => (fun l => .ret (.mk kd j 0 [] l)) (([y] ++ [x]) ++ r.L)) (j + 1) hl
   rw [← e] at hg
   have h2 : j + 1 ≤ i + 1 := hg.1
   omega
theorem pat_patom (hi : i ≤ ts.length) (h : reads ts .pat i = .ok (x, i + 1)) : (isK 4 (tk ts i) = true ∧ x.kind = 107) ∨ reads ts .patom i = .ok (x, i + 1) := by
 have hf := reads_fine (ts := ts) .alt hi
 have h0 : .ok (x, i + 1) = exec ts (reads ts) (.call .alt fun y => .call (.patR y) .ret) i := h.symm.trans (reads_eq _ hi)
 cases hx : reads ts .alt i with
 | error m => have := ex_err h0 hx; cases this
 | ok xj =>
  obtain ⟨y, j⟩ := xj
  rw [hx] at hf
  have h1 : i < j := hf.2.2 y j rfl rfl
  have hj : j ≤ ts.length := hf.2.1
  have h2 := ex_end (ex_ok h0 hx)
  have hr : x = y ∧ j = i + 1 := by
   have e : .ok (x, i + 1) = exec ts (reads ts) (.skip [97, 115] (.token 3 fun t => .call (.patR (.mk 113 j 0 t.S [y])) .ret) (.ret y)) j := h2.trans (reads_eq _ hj)
   cases hs : isS [97, 115] (tk ts j) with
   | false =>
    have e2 := ex_ret (ex_skipN e hs)
    simp only [Except.ok.injEq, Prod.mk.injEq] at e2
    exact ⟨e2.1, e2.2.symm⟩
   | true =>
    have hl := isS_in hs
    have e2 := ex_skip e hs
    have hg := exec_ge (ts := ts) (rec := reads ts) (fun n i hi => reads_fine n hi) (.token 3 fun t => .call (.patR (.mk 113 j 0 t.S [y])) .ret) (j + 1) hl
    rw [← e2] at hg
    have h3 : j + 1 ≤ i + 1 := hg.1
    omega
  obtain ⟨rfl, rfl⟩ := hr
  have ha : reads ts .ptup i = .ok (x, i + 1) := right_one (n1 := .ptup) hi rfl ((right_of (n := .alt) (n1 := .ptup) (n2 := .alt) (sg := [124]) (J := fun s j x y => .mk 112 j 0 [] [x, y]) rfl hi).symm.trans hx)
  have hb : reads ts .pcons i = .ok (x, i + 1) := in_one (n1 := .pcons) (T := .ptupR) hi rfl rfl ((in_of (n := .ptup) (n1 := .pcons) (T := .ptupR) (sg := [44]) (kd := 108) rfl rfl hi).symm.trans ha)
  have hc : reads ts .papp i = .ok (x, i + 1) := right_one (n1 := .papp) hi rfl ((right_of (n := .pcons) (n1 := .papp) (n2 := .pcons) (sg := [58, 58]) (J := fun s j x y => .mk 107 j 0 s [.mk 108 j 0 [] [x, y]]) rfl hi).symm.trans hb)
  have hd : .ok (x, i + 1) = exec ts (reads ts) (.test (isK 4) (.eat fun t => .test patomAhead (.call .patom fun p => .ret (.mk 107 i 0 t.S [p])) (.ret (.mk 107 i 0 t.S []))) (.call .patom .ret)) i := hc.symm.trans (reads_eq _ hi)
  cases hk : isK 4 (tk ts i) with
  | false => exact Or.inr (ex_end (ex_no hd hk)).symm
  | true =>
   left
   refine ⟨rfl, ?_⟩
   have e1 := ex_eat (ex_yes hd hk) (isK_in hk (by decide))
   cases hp : patomAhead (tk ts (i + 1)) with
   | false =>
    have e2 := ex_ret (ex_no e1 hp)
    simp only [Except.ok.injEq, Prod.mk.injEq] at e2
    rw [e2.1]; rfl
   | true =>
    have e2 := ex_yes e1 hp
    cases hy : reads ts .patom (i + 1) with
    | error m => have := ex_err e2 hy; cases this
    | ok yq =>
     obtain ⟨z, q⟩ := yq
     have e3' := ex_ok e2 hy
     have e3 := ex_ret e3'
     simp only [Except.ok.injEq, Prod.mk.injEq] at e3
     rw [e3.1]; rfl
end
end Go.Proofs.YthjmakjhidjbaaaGreat

/-
 Layer 8, plain: a pattern that is one token is a name just if its token is one. No program is named.
-/
namespace Go.Proofs.YthjmakjhidjbaaaGreat
set_option linter.unusedVariables false
set_option linter.unusedSimpArgs false
set_option maxHeartbeats 2000000

section
variable {ts : List Tk} {i : Nat} {x : Tr}
theorem isK_ne {k k' : Int} {t : Tk} (h : isK k t = true) (hn : k ≠ k') : isK k' t = false := by
 unfold isK at *
 simp only [beq_iff_eq] at h
 simp only [beq_eq_false_iff_ne]
 omega
theorem ok_tr {a b : Tr} {p q : Nat} (h : (Except.ok (a, p) : Res) = .ok (b, q)) : a = b ∧ p = q := by
 simp only [Except.ok.injEq, Prod.mk.injEq] at h
 exact h
theorem must_ret {s : List UInt8} {y : Tr} {j q : Nat} (h : .ok (x, q) = exec ts (reads ts) (.must s (.ret y)) j) : x = y ∧ q = j + 1 := by
 cases hs : isS s (tk ts j) with
 | false => have := ex_mustN h hs; cases this
 | true => exact ok_tr (ex_ret (ex_must h hs))
theorem fields_kind {j : Nat} (hi : i ≤ ts.length) (h : reads ts (.fields true) i = .ok (x, j)) : x.kind = 110 := by
 have h0 : .ok (x, j) = exec ts (reads ts) (.must [123] (.call (.field true) fun x => .call (.fieldsR true) fun r => .must [125] (.ret (.mk 110 i 0 [] (x :: r.L))))) i := h.symm.trans (reads_eq _ hi)
 cases hs : isS [123] (tk ts i) with
 | false => have := ex_mustN h0 hs; cases this
 | true =>
  have h1 := ex_must h0 hs
  cases ha : reads ts (.field true) (i + 1) with
  | error m => have := ex_err h1 ha; cases this
  | ok a =>
   have h2 := ex_ok h1 ha
   cases hb : reads ts (.fieldsR true) a.2 with
   | error m => have := ex_err h2 hb; cases this
   | ok b =>
    have h3 := ex_ok h2 hb
    rw [(must_ret h3).1]; rfl
theorem patom_name (hi : i ≤ ts.length) (h : reads ts .patom i = .ok (x, i + 1)) : isK 3 (tk ts i) = decide (x.kind = 106) := by
 have h0 : .ok (x, i + 1) = exec ts (reads ts) (body .patom) i := h.symm.trans (reads_eq _ hi)
 have h0 := ex_here h0
 cases k1 : isK 1 (tk ts i) with
 | true =>
  rw [isK_ne k1 (by decide), (ok_tr (ex_ret (ex_eat (ex_yes h0 k1) (isK_in k1 (by decide))))).1]; rfl
 | false =>
 have h0 := ex_no h0 k1
 cases k2 : isK 2 (tk ts i) with
 | true =>
  rw [isK_ne k2 (by decide), (ok_tr (ex_ret (ex_eat (ex_yes h0 k2) (isK_in k2 (by decide))))).1]; rfl
 | false =>
 have h0 := ex_no h0 k2
 cases k3 : isK 3 (tk ts i) with
 | true =>
  rw [(ok_tr (ex_ret (ex_eat (ex_yes h0 k3) (isK_in k3 (by decide))))).1]; rfl
 | false =>
 have h0 := ex_no h0 k3
 cases k4 : isK 4 (tk ts i) with
 | true =>
  rw [(ok_tr (ex_ret (ex_eat (ex_yes h0 k4) (isK_in k4 (by decide))))).1]; rfl
 | false =>
 have h0 := ex_no h0 k4
 cases s0 : isS [45] (tk ts i) with
 | true =>
  have h1 := ex_skip h0 s0
  cases kk : isK 1 (tk ts (i + 1)) with
  | false => have := ex_tokenN h1 kk; cases this
  | true => have := (ok_tr (ex_ret (ex_token h1 kk (by decide)))).2; omega
 | false =>
 have h0 := ex_skipN h0 s0
 cases s1 : isS [116, 114, 117, 101] (tk ts i) with
 | true => rw [(ok_tr (ex_ret (ex_skip h0 s1))).1]; rfl
 | false =>
 have h0 := ex_skipN h0 s1
 cases s2 : isS [102, 97, 108, 115, 101] (tk ts i) with
 | true => rw [(ok_tr (ex_ret (ex_skip h0 s2))).1]; rfl
 | false =>
 have h0 := ex_skipN h0 s2
 cases s3 : isS [95] (tk ts i) with
 | true => rw [(ok_tr (ex_ret (ex_skip h0 s3))).1]; rfl
 | false =>
 have h0 := ex_skipN h0 s3
 cases s4 : isS [40] (tk ts i) with
 | true =>
  have hl := isS_in s4
  have h1 := ex_skip h0 s4
  cases s5 : isS [41] (tk ts (i + 1)) with
  | true => have := (ok_tr (ex_ret (ex_skip h1 s5))).2; omega
  | false =>
   have h2 := ex_skipN h1 s5
   have hf := reads_fine (ts := ts) .pat (i := i + 1) hl
   cases ha : reads ts .pat (i + 1) with
   | error m => have := ex_err h2 ha; cases this
   | ok a =>
    rw [ha] at hf
    have h4 : i + 1 < a.2 := hf.2.2 a.1 a.2 rfl rfl
    have h3 := ex_ok h2 ha
    have := (must_ret h3).2
    omega
 | false =>
 have h0 := ex_skipN h0 s4
 cases s6 : isS [91] (tk ts i) with
 | true =>
  have h1 := ex_skip h0 s6
  cases ha : reads ts (.elems [93] true) (i + 1) with
  | error m => have := ex_err h1 ha; cases this
  | ok a => rw [(must_ret (ex_ok h1 ha)).1]; rfl
 | false =>
 have h0 := ex_end (ex_skipN h0 s6)
 rw [fields_kind hi h0.symm]; rfl
theorem pat_name (hi : i ≤ ts.length) (h : reads ts .pat i = .ok (x, i + 1)) : isK 3 (tk ts i) = decide (x.kind = 106) := by
 rcases pat_patom hi h with ⟨h4, hk⟩ | h1
 ·rw [isK_ne h4 (by decide), hk]; rfl
 ·exact patom_name hi h1
end
end Go.Proofs.YthjmakjhidjbaaaGreat

/-
 Layer 8, the program's parser: a token in a variable of a method's own (for bind).
-/
namespace Go.Proofs.YthjmakjhidjbaaaGreat
open Go.ChangeShapes Go.WideShapes Go.ChangeAt Go.RowKit Go.Deep
set_option linter.unusedVariables false
set_option linter.unusedSimpArgs false
set_option maxHeartbeats 2000000

/-- A token in a variable of the method's own. -/
structure Tc (c : PC) (w0 w : World) (q : Nat) (k p N : Int) (s : ByteArray) : Prop where
 n : B4 w q k p N s
 hq : w0.heap.size < q
section
variable {c : PC} {w0 w w' : World} {i j q : Nat} {k p N : Int} {s : ByteArray}
theorem Tc.new (h : St c w0 w i) (k p N : Int) (s : ByteArray) : Tc c w0 (w.alloc (.cells #[.int .i64 k, .int .i64 p, .int .i64 N, .string s] 40)) w.heap.size k p N s := ⟨B4.new _ _ _ _ _, h.size⟩
theorem Tc.only (h : Tc c w0 w q k p N s) (hs : St c w0 w i) (ho : OnlyB c.b w w') : Tc c w0 w' q k p N s := ⟨h.n.only ho (by have := hs.b0; have := h.hq; omega), h.hq⟩
theorem Tc.below (h : Tc c w0 w q k p N s) (hb : Below w.heap.size w w') : Tc c w0 w' q k p N s := ⟨h.n.below hb, h.hq⟩
theorem Tc.alloc (h : Tc c w0 w q k p N s) (o : Obj) : Tc c w0 (w.alloc o) q k p N s := ⟨h.n.alloc _, h.hq⟩
theorem Tc.drew (h : Tc c w0 w q k p N s) : Tc c w0 w.drew q k p N s := ⟨h.n, h.hq⟩
theorem Tc.drw (h : Tc c w0 w q k p N s) : Tc c w0 w.drew q k p N s := ⟨h.n, h.hq⟩
theorem Tc.set (h : Tc c w0 w q k p N s) {a : Addr} (ha : a.block ≠ q) (u : Value) : Tc c w0 (w.setCell a u) q k p N s := ⟨h.n.other ha u, h.hq⟩
theorem Tc.fill (h : Tc c w0 w q k p N s) (a b d : Int) (x : ByteArray) : Tc c w0 (fill4 w q a b d x) q a b d x := ⟨h.n.fill _ _ _ _, h.hq⟩
theorem St.fill4 (h : St c w0 w i) (hq : w0.heap.size < q) (a b d : Int) (x : ByteArray) : St c w0 (fill4 w q a b d x) i := (((h.set (a := ⟨q, 0, none⟩) hq _).set (a := ⟨q, 1, none⟩) hq _).set (a := ⟨q, 2, none⟩) hq _).set (a := ⟨q, 3, none⟩) hq _
theorem St.pcell (h : St c w0 w i) : w.cell? ⟨c.b, 0, none⟩ = some (.slice (some ⟨c.g, i * 4, none⟩) (c.M.length - i) (c.lc - i)) := h.ps.cells.1
/-- Only the last token of two places is between them just if the lengths say so. -/
theorem one_taken (hi : i ≤ c.ts.length) (hj : j ≤ c.ts.length) : ((c.M.length - j : Nat) : Int) = ((c.M.length - i : Nat) : Int) - 1 ↔ j = i + 1 := by
 have := c.tm.len
 omega
end
/-- What bind asks of the tokens: the first is a name and one token was taken. -/
theorem bind_alone {ts : List Tk} {i j : Nat} {x : Tr} (hi : i ≤ ts.length) (h : reads ts .pat i = .ok (x, j)) : (isK 3 (tk ts i) = true ∧ j = i + 1) ↔ (x.kind = 106 ∧ j = i + 1) := by
 constructor
 ·rintro ⟨h1, rfl⟩
  have := pat_name hi h
  rw [h1] at this
  exact ⟨of_decide_eq_true this.symm, rfl⟩
 ·rintro ⟨h1, rfl⟩
  have := pat_name hi h
  rw [h1] at this
  exact ⟨this, rfl⟩
end Go.Proofs.YthjmakjhidjbaaaGreat

/-
 Layer 8, the program's parser: a node with one part, laid in any order (for bind).
-/
namespace Go.Proofs.YthjmakjhidjbaaaGreat
open Go.ChangeShapes Go.WideShapes Go.ChangeAt Go.RowKit Go.Deep
set_option linter.unusedVariables false
set_option linter.unusedSimpArgs false
set_option maxHeartbeats 2000000

section
variable {c : PC} {w0 w w' : World} {i j q g A B : Nat} {k p N : Int} {s : ByteArray}
/-- A node that was laid empty is filled, with one part. -/
theorem Mk.firstAt (h : St c w0 w i) (hz : Lc c w0 w q 0 0 0 ⟨#[]⟩ (.slice none 0 0)) {x : Tr} {ao : Option Addr} {cp : Nat} (hr : Rw c w0 w g #[.int .i64 x.kind, .int .i64 (c.pl x.pl), .int .i64 x.N, .string ⟨x.S.toArray⟩, .slice ao x.L.length cp]) (hx : HasI c A B w x.L ao) (hA : w0.heap.size + 1 ≤ A) (h1 : q < A ∨ B ≤ q) (h2 : g < A ∨ B ≤ g) (h3 : g ≠ q) (k p N : Int) (s : ByteArray) : Mk c w0 (fill5 w q k p N s (.slice (some ⟨g, 0, none⟩) 1 1)) i q k p N s (.slice (some ⟨g, 0, none⟩) 1 1) [⟨x, ao, cp⟩] := by
 have hg := hr.hq
 refine ⟨h.fillq hz.hq _ _ _ _ _, hz.n.fill _ _ _ _ _, NWq.one (hr.fill h3 _ _ _ _ _).blk (by omega) h3 ?_, hz.hq⟩
 exact (hx.rl.fill5 (fun b hb => by omega) _ _ _ _ _).mono (fun b hb _ => by omega)
theorem Tc.fillq (h : Tc c w0 w q k p N s) {b : Nat} (hb : q ≠ b) (a' b' d' : Int) (s' : ByteArray) (v' : Value) : Tc c w0 (fill5 w b a' b' d' s' v') q k p N s := ⟨(fill5_blk w hb _ _ _ _ _).trans h.n, h.hq⟩
end
end Go.Proofs.YthjmakjhidjbaaaGreat

/-
 Layer 8, the program's parser: a bind behind its pattern, as the program asks.
-/
namespace Go.Proofs.YthjmakjhidjbaaaGreat
set_option linter.unusedVariables false
set_option linter.unusedSimpArgs false

theorem wrapId9 (z : Int) (h : -9223372036854775808 ≤ z) (h' : z ≤ 9223372036854775807) : IntKind.i64.wrap z = z := by
 rw [IntKind.wrap_i64]; omega
/-- What is proved at its end, once for all. -/
structure Cut9 (P : Prop) : Prop where
 out : P
theorem cut9 {P Q : Prop} (h : P) (k : Cut9 P → Q) : Q := k ⟨h⟩
/-- What is left of a bind behind its pattern. -/
def bindR (i : Nat) (p : Tr) (j : Nat) : Pg :=
 .skip [61] (.call .seq fun x => .ret (.mk 20 i 0 [] [p, x]))
  (if p.kind = 106 ∧ j = i + 1 then .call .patoms fun r => .must [61] (.call .seq fun x => .ret (.mk 20 i 0 [] [p, .mk 17 j 0 [] (r.L ++ [x])])) else .bad)
section
variable {ts : List Tk} {R : Res} {i j m : Nat} {x : Tr}
theorem bind_must (h : R = exec ts (reads ts) (bindR i x j) j) (hn : ¬ (x.kind = 106 ∧ j = i + 1) ∨ isS [61] (tk ts j) = true) : R = exec ts (reads ts) (.must [61] (.call .seq fun z => .ret (.mk 20 i 0 [] [x, z]))) j := by
 unfold bindR at h
 cases hs : isS [61] (tk ts j) with
 | true =>
  rw [ex_skip h hs]
  exact (ex_must rfl hs).symm
 | false =>
  rcases hn with hn | hn
  ·have h1 := ex_skipN h hs
   rw [if_neg hn] at h1
   rw [ex_bad h1]
   exact (ex_mustN rfl hs).symm
  ·rw [hs] at hn; cases hn
theorem bind_fun (h : R = exec ts (reads ts) (bindR i x j) j) (hy : x.kind = 106 ∧ j = i + 1) (hs : isS [61] (tk ts j) = false) : R = exec ts (reads ts) (.call .patoms fun r => .must [61] (.call .seq fun y => .ret (.mk 20 i 0 [] [x, .mk 17 j 0 [] (r.L ++ [y])]))) j := by
 unfold bindR at h
 have h1 := ex_skipN h hs
 rw [if_pos hy] at h1
 exact h1
/-- A function's tree, as a result of its own. -/
def funR (ts : List Tk) (j : Nat) : Res := exec ts (reads ts) (.call .patoms fun r => (fun l => .must [61] (.call .seq fun x => .ret (.mk 17 j 0 [] (l ++ [x])))) r.L) j
theorem fun_err (h : R = exec ts (reads ts) (.call .patoms fun r => .must [61] (.call .seq fun y => .ret (.mk 20 i 0 [] [x, .mk 17 j 0 [] (r.L ++ [y])]))) j) (e : funR ts j = .error m) : R = .error m := by
 unfold funR at e
 cases hr : reads ts .patoms j with
 | error m' =>
  have h1 := ex_err h hr
  have h2 := ex_err e.symm hr
  rw [h1]; exact h2.symm
 | ok rj =>
  obtain ⟨r, k⟩ := rj
  have h1 := ex_ok h hr
  have h2 := ex_ok e.symm hr
  cases hs : isS [61] (tk ts k) with
  | false =>
   have h3 := ex_mustN h1 hs
   have h4 := ex_mustN h2 hs
   rw [h3]; exact h4.symm
  | true =>
   have h3 := ex_must h1 hs
   have h4 := ex_must h2 hs
   cases hq : reads ts .seq (k + 1) with
   | error m' =>
    have h5 := ex_err h3 hq
    have h6 := ex_err h4 hq
    rw [h5]; exact h6.symm
   | ok yj =>
    obtain ⟨y, l⟩ := yj
    have h6 := ex_ok h4 hq
    cases h6
theorem fun_ok {y : Tr} {k : Nat} (h : R = exec ts (reads ts) (.call .patoms fun r => .must [61] (.call .seq fun y => .ret (.mk 20 i 0 [] [x, .mk 17 j 0 [] (r.L ++ [y])]))) j) (e : funR ts j = .ok (y, k)) : R = .ok (.mk 20 i 0 [] [x, y], k) := by
 unfold funR at e
 cases hr : reads ts .patoms j with
 | error m' => cases ex_err e.symm hr
 | ok rj =>
  obtain ⟨r, k'⟩ := rj
  have h1 := ex_ok h hr
  have h2 := ex_ok e.symm hr
  cases hs : isS [61] (tk ts k') with
  | false => cases ex_mustN h2 hs
  | true =>
   have h3 := ex_must h1 hs
   have h4 := ex_must h2 hs
   cases hq : reads ts .seq (k' + 1) with
   | error m' => cases ex_err h4 hq
   | ok yj =>
    obtain ⟨z, l⟩ := yj
    have h5 := ex_ok h3 hq
    have h6 := ex_ok h4 hq
    cases h6
    exact h5
end
end Go.Proofs.YthjmakjhidjbaaaGreat
