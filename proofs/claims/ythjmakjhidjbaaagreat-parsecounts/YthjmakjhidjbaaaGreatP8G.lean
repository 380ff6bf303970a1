/-
 Layer 8, the program's parser: rules' methods. Condition: the rules that they are made of do as the grammar says.
-/
import Derived.Test.YthjmakjhidjbaaaGreatLibAF
namespace Go.Proofs.YthjmakjhidjbaaaGreat
open Go.ChangeShapes Go.WideShapes Go.ChangeAt Go.RowKit Go.Deep
set_option linter.unusedVariables false
set_option linter.unusedSimpArgs false
set_option maxHeartbeats 2000000
set_option maxRecDepth 20000
attribute [local go_sem ↓] Go.wp_at_zero Go.wp_at_succ

section
variable {c : PC} {w : World} {i : Nat}
/-- Rules that join from the right. -/
theorem right_of {ts : List Tk} {n n1 n2 : NT} {sg : List UInt8} {J : List UInt8 → Nat → Tr → Tr → Tr} {i : Nat} (hb : body n = .call n1 fun x => .here fun a => .skip sg (.call n2 fun y => .ret (J sg a x y)) (.ret x)) (hi : i ≤ ts.length) : reads ts n i = rightR ts n1 n2 sg J i := by
 rw [reads_eq n hi, hb]
 unfold rightR
 simp only [exec]
 cases reads ts n1 i with
 | error m => rfl
 | ok xj =>
  obtain ⟨x, j⟩ := xj
  simp only
  cases hs : isS sg (tk ts j) with
  | false => exact ex_skipN rfl hs
  | true =>
   refine Eq.trans (ex_skip rfl hs) ?_
   simp only [exec, if_true]
   cases reads ts n2 (j + 1) with
   | error m => rfl
   | ok yq => rfl
theorem right_ofJ {ts : List Tk} {n n1 n2 : NT} {sg : List UInt8} {i : Nat} (hb : body n = .call n1 fun x => .here fun a => .test (isOne [sg]) (.eat fun t => .call n2 fun y => .ret (mkJ t.S a x y)) (.ret x)) (hi : i ≤ ts.length) : reads ts n i = rightR ts n1 n2 sg mkJ i := by
 rw [reads_eq n hi, hb]
 unfold rightR
 simp only [exec]
 cases reads ts n1 i with
 | error m => rfl
 | ok xj =>
  obtain ⟨x, j⟩ := xj
  simp only [one_is]
  cases hs : isS sg (tk ts j) with
  | false => rfl
  | true =>
   simp only [if_true, if_pos (isS_in hs), (isS_is hs).1]
   cases reads ts n2 (j + 1) with
   | error m => rfl
   | ok yq => rfl
section
variable {c : PC} {w : World} {i : Nat}
theorem right2 {R : Res} {s k1 k2 jf : Nat} {cap : Array Value} {sg : List UInt8} {K : World → Prop} {J : List UInt8 → Nat → Tr → Tr → Tr} {n1 n2 : NT} (hR : R = rightR c.ts n1 n2 sg J i)
  (h : PS c w i) (hi : i ≤ c.ts.length) (hf : FR c w s k1 k2 jf cap sg) (hs : c.b < s) (hsg : sg ≠ []) (hh : hard n1 = true)
  (hK : K w) (hKk : ∀ w w', K w → OnlyB c.b w w' → K w') (hJ : JoinOk c jf cap K J) (e1 : EntersF k1) (e2 : EntersF k2) (e3 : EntersF jf)
  (r1 : Rule c k1 n1 i) (r2 : ∀ j, i < j → j ≤ c.ts.length → Rule c k2 n2 j) :
  Calls Tryz.prog 126 #[.pointer (some ⟨s + 1, 0, none⟩), .pointer (some ⟨s, 0, none⟩), .pointer (some ⟨s + 4, 0, none⟩), .pointer (some ⟨s + 3, 0, none⟩), .pointer (some ⟨s + 2, 0, none⟩)] w fun e w' => Got8 c R w e w' := by
 subst hR
 exact right1 h hi hf hs hsg hh hK hKk hJ e1 e2 e3 r1 r2
theorem pairG (k : Int) (w : World) : Calls Tryz.prog 114 #[.int .i64 k] w fun e w' => ∃ kb, e = .returned (.func (.func 129) #[] #[.pointer (some ⟨kb, 0, none⟩)]) ∧ w'.cell? ⟨kb, 0, none⟩ = some (.int .i64 k) ∧ w.heap.size ≤ kb ∧ Below w.heap.size w w' := (pairF k w).mono fun e w' ⟨h1, h2, h3, h4⟩ => ⟨_, h1, h2, Nat.le_refl _, h4⟩
theorem appliedG (k t : Int) (w : World) : Calls Tryz.prog 162 #[.int .i64 k, .int .i64 t] w fun e w' => ∃ kb tb, e = .returned (.func (.func 165) #[] #[.pointer (some ⟨kb, 0, none⟩), .pointer (some ⟨tb, 0, none⟩)]) ∧ (w'.cell? ⟨kb, 0, none⟩ = some (.int .i64 k) ∧ w'.cell? ⟨tb, 0, none⟩ = some (.int .i64 t)) ∧ (w.heap.size ≤ kb ∧ w.heap.size ≤ tb) ∧ Below w.heap.size w w' := (appliedF k t w).mono fun e w' ⟨h1, h2, h3, h4⟩ => ⟨_, _, h1, h2, ⟨Nat.le_refl _, Nat.le_succ _⟩, h4⟩
end
theorem right_mono {ts : List Tk} {n1 n2 : NT} {sg : List UInt8} {J J' : List UInt8 → Nat → Tr → Tr → Tr} {i : Nat} (h : ∀ j x y, J sg j x y = J' sg j x y) : rightR ts n1 n2 sg J i = rightR ts n1 n2 sg J' i := by
 unfold rightR
 simp only [h]

theorem m_seq (hi : i ≤ c.ts.length) (r1 : Rule c 125 .expr i) (ih : Beh c i) : Rule c 111 .seq i := by
 intro w h
 obtain ⟨R, hR⟩ : ∃ R, R = reads c.ts .seq i := ⟨_, rfl⟩
 rw [← hR]
 have HR := hidden (hR.trans (right_of (J := fun s j x y => .mk 28 j 0 [] [x, y]) rfl hi))
 have S0 := hidden (St.new h)
 have hmf : ∀ (fn : Fn) (first cap : Array Value) (w : World), (Instr.makeFunc fn first cap).run Tryz.prog w = .ok (.func fn first cap) w := fun _ _ _ _ => rfl
 have r2 : ∀ j, i < j → j ≤ c.ts.length → Rule c 111 .seq j := fun j h1 h2 => ih .seq j h1 h2
 have HR2 := hidden r2
 have HR1 := hidden r1
 clear h hR r1 r2
 go_enter Tryz.func111, Tryz.ntmps111
 go_wp2_with fail
 refine (pairG 28 _).mono ?_
 rintro e w1 ⟨kb, rfl, hk, hz, hb⟩
 have nk : kb ≠ c.b := by have := S0.out.ps.lt; omega
 have HK := hidden hk
 have S1 := hidden (S0.out.below hb)
 clear hk hz hb
 go_wp2_with fail
 refine (rightF (sg := [59]) S1.out.ps).mono ?_
 rintro e w2 ⟨rfl, hf, hb⟩
 have HF := hidden hf
 have S2 := hidden (S1.out.below hb)
 have HK2 := hidden (cell_on2 hb HK.out)
 clear hf hb
 have e1 : EntersF 125 := (enters_of Tryz.func125 (by kernel_rfl) rfl)
 have e2 : EntersF 111 := (enters_of Tryz.func111 (by kernel_rfl) rfl)
 have e3 : EntersF 129 := enters_of Tryz.func129 (by kernel_rfl) rfl
 have hh : hard .expr = true := rfl
 have hx := right2 (K := fun w' => w'.cell? ⟨kb, 0, none⟩ = some (.int .i64 28)) HR.out S2.out.ps hi HF.out S1.out.ps.lt (by decide) hh HK2.out (fun _ _ h ho => only_cell ho nk h) (pair8 c kb 28) e1 e2 e3 HR1.out HR2.out
 have HX := hidden hx
 clear hx e1 e2 e3 hh
 go_wp2_with fail
 refine (HX.out).mono ?_
 intro e w3 hg
 cases hR : R with
 | error m =>
  rw [hR] at hg
  obtain ⟨rfl, ho⟩ := hg
  exact ⟨rfl, S2.out.stop ho hR⟩
 | ok xj =>
  obtain ⟨x3, j3⟩ := xj
  rw [hR] at hg
  obtain ⟨ao3, cp3, rfl, hl, hp, ho⟩ := hg
  have X3 := hidden (Has.of hl S2.out)
  have HR := hidden hR
  have S3 := hidden (S2.out.only ho hp)
  clear hl hp ho hR
  obtain ⟨z0, z1, z2, z3, z4, zf⟩ := S3.out.zc
  go_wp2_with fail
  refine bodyPost_ret (results_cell_row rfl _ _ w.heap.size 25 #[.int .i64 x3.kind, .int .i64 (c.pl x3.pl), .int .i64 x3.N, .string ⟨x3.S.toArray⟩, .slice ao3 x3.L.length cp3] (0, 0) _ rfl (S3.out.row _ _ _ _ _) Tryz.underlying25 rfl (by kernel_rfl)) rfl ?_
  exact S3.out.ret X3.out HR.out rfl
theorem m_alt (hi : i ≤ c.ts.length) (r1 : Rule c 138 .ptup i) (ih : Beh c i) : Rule c 122 .alt i := by
 intro w h
 obtain ⟨R, hR⟩ : ∃ R, R = reads c.ts .alt i := ⟨_, rfl⟩
 rw [← hR]
 have HR := hidden (hR.trans (right_of (J := fun s j x y => .mk 112 j 0 [] [x, y]) rfl hi))
 have S0 := hidden (St.new h)
 have hmf : ∀ (fn : Fn) (first cap : Array Value) (w : World), (Instr.makeFunc fn first cap).run Tryz.prog w = .ok (.func fn first cap) w := fun _ _ _ _ => rfl
 have r2 : ∀ j, i < j → j ≤ c.ts.length → Rule c 122 .alt j := fun j h1 h2 => ih .alt j h1 h2
 have HR2 := hidden r2
 have HR1 := hidden r1
 clear h hR r1 r2
 go_enter Tryz.func122, Tryz.ntmps122
 go_wp2_with fail
 refine (pairG 112 _).mono ?_
 rintro e w1 ⟨kb, rfl, hk, hz, hb⟩
 have nk : kb ≠ c.b := by have := S0.out.ps.lt; omega
 have HK := hidden hk
 have S1 := hidden (S0.out.below hb)
 clear hk hz hb
 go_wp2_with fail
 refine (rightF (sg := [124]) S1.out.ps).mono ?_
 rintro e w2 ⟨rfl, hf, hb⟩
 have HF := hidden hf
 have S2 := hidden (S1.out.below hb)
 have HK2 := hidden (cell_on2 hb HK.out)
 clear hf hb
 have e1 : EntersF 138 := (enters_of Tryz.func138 (by kernel_rfl) rfl)
 have e2 : EntersF 122 := (enters_of Tryz.func122 (by kernel_rfl) rfl)
 have e3 : EntersF 129 := enters_of Tryz.func129 (by kernel_rfl) rfl
 have hh : hard .ptup = true := rfl
 have hx := right2 (K := fun w' => w'.cell? ⟨kb, 0, none⟩ = some (.int .i64 112)) HR.out S2.out.ps hi HF.out S1.out.ps.lt (by decide) hh HK2.out (fun _ _ h ho => only_cell ho nk h) (pair8 c kb 112) e1 e2 e3 HR1.out HR2.out
 have HX := hidden hx
 clear hx e1 e2 e3 hh
 go_wp2_with fail
 refine (HX.out).mono ?_
 intro e w3 hg
 cases hR : R with
 | error m =>
  rw [hR] at hg
  obtain ⟨rfl, ho⟩ := hg
  exact ⟨rfl, S2.out.stop ho hR⟩
 | ok xj =>
  obtain ⟨x3, j3⟩ := xj
  rw [hR] at hg
  obtain ⟨ao3, cp3, rfl, hl, hp, ho⟩ := hg
  have X3 := hidden (Has.of hl S2.out)
  have HR := hidden hR
  have S3 := hidden (S2.out.only ho hp)
  clear hl hp ho hR
  obtain ⟨z0, z1, z2, z3, z4, zf⟩ := S3.out.zc
  go_wp2_with fail
  refine bodyPost_ret (results_cell_row rfl _ _ w.heap.size 25 #[.int .i64 x3.kind, .int .i64 (c.pl x3.pl), .int .i64 x3.N, .string ⟨x3.S.toArray⟩, .slice ao3 x3.L.length cp3] (0, 0) _ rfl (S3.out.row _ _ _ _ _) Tryz.underlying25 rfl (by kernel_rfl)) rfl ?_
  exact S3.out.ret X3.out HR.out rfl
theorem m_ty (hi : i ≤ c.ts.length) (r1 : Rule c 113 .tprod i) (ih : Beh c i) : Rule c 96 .ty i := by
 intro w h
 obtain ⟨R, hR⟩ : ∃ R, R = reads c.ts .ty i := ⟨_, rfl⟩
 rw [← hR]
 have HR := hidden (hR.trans (right_of (J := fun s j x y => .mk 203 j 0 [] [x, y]) rfl hi))
 have S0 := hidden (St.new h)
 have hmf : ∀ (fn : Fn) (first cap : Array Value) (w : World), (Instr.makeFunc fn first cap).run Tryz.prog w = .ok (.func fn first cap) w := fun _ _ _ _ => rfl
 have r2 : ∀ j, i < j → j ≤ c.ts.length → Rule c 96 .ty j := fun j h1 h2 => ih .ty j h1 h2
 have HR2 := hidden r2
 have HR1 := hidden r1
 clear h hR r1 r2
 go_enter Tryz.func96, Tryz.ntmps96
 go_wp2_with fail
 refine (pairG 203 _).mono ?_
 rintro e w1 ⟨kb, rfl, hk, hz, hb⟩
 have nk : kb ≠ c.b := by have := S0.out.ps.lt; omega
 have HK := hidden hk
 have S1 := hidden (S0.out.below hb)
 clear hk hz hb
 go_wp2_with fail
 refine (rightF (sg := [45, 62]) S1.out.ps).mono ?_
 rintro e w2 ⟨rfl, hf, hb⟩
 have HF := hidden hf
 have S2 := hidden (S1.out.below hb)
 have HK2 := hidden (cell_on2 hb HK.out)
 clear hf hb
 have e1 : EntersF 113 := (enters_of Tryz.func113 (by kernel_rfl) rfl)
 have e2 : EntersF 96 := (enters_of Tryz.func96 (by kernel_rfl) rfl)
 have e3 : EntersF 129 := enters_of Tryz.func129 (by kernel_rfl) rfl
 have hh : hard .tprod = true := rfl
 have hx := right2 (K := fun w' => w'.cell? ⟨kb, 0, none⟩ = some (.int .i64 203)) HR.out S2.out.ps hi HF.out S1.out.ps.lt (by decide) hh HK2.out (fun _ _ h ho => only_cell ho nk h) (pair8 c kb 203) e1 e2 e3 HR1.out HR2.out
 have HX := hidden hx
 clear hx e1 e2 e3 hh
 go_wp2_with fail
 refine (HX.out).mono ?_
 intro e w3 hg
 cases hR : R with
 | error m =>
  rw [hR] at hg
  obtain ⟨rfl, ho⟩ := hg
  exact ⟨rfl, S2.out.stop ho hR⟩
 | ok xj =>
  obtain ⟨x3, j3⟩ := xj
  rw [hR] at hg
  obtain ⟨ao3, cp3, rfl, hl, hp, ho⟩ := hg
  have X3 := hidden (Has.of hl S2.out)
  have HR := hidden hR
  have S3 := hidden (S2.out.only ho hp)
  clear hl hp ho hR
  obtain ⟨z0, z1, z2, z3, z4, zf⟩ := S3.out.zc
  go_wp2_with fail
  refine bodyPost_ret (results_cell_row rfl _ _ w.heap.size 25 #[.int .i64 x3.kind, .int .i64 (c.pl x3.pl), .int .i64 x3.N, .string ⟨x3.S.toArray⟩, .slice ao3 x3.L.length cp3] (0, 0) _ rfl (S3.out.row _ _ _ _ _) Tryz.underlying25 rfl (by kernel_rfl)) rfl ?_
  exact S3.out.ret X3.out HR.out rfl
theorem m_pcons (hi : i ≤ c.ts.length) (r1 : Rule c 161 .papp i) (ih : Beh c i) : Rule c 154 .pcons i := by
 intro w h
 obtain ⟨R, hR⟩ : ∃ R, R = reads c.ts .pcons i := ⟨_, rfl⟩
 rw [← hR]
 have HR := hidden (hR.trans (right_of (J := fun s j x y => .mk 107 j 0 s [.mk 108 j 0 [] [x, y]]) rfl hi))
 have S0 := hidden (St.new h)
 have hmf : ∀ (fn : Fn) (first cap : Array Value) (w : World), (Instr.makeFunc fn first cap).run Tryz.prog w = .ok (.func fn first cap) w := fun _ _ _ _ => rfl
 have r2 : ∀ j, i < j → j ≤ c.ts.length → Rule c 154 .pcons j := fun j h1 h2 => ih .pcons j h1 h2
 have HR2 := hidden r2
 have HR1 := hidden r1
 clear h hR r1 r2
 go_enter Tryz.func154, Tryz.ntmps154
 go_wp2_with fail
 refine (appliedG 107 108 _).mono ?_
 rintro e w1 ⟨kb, tb, rfl, hk, hz, hb⟩
 have nk : kb ≠ c.b ∧ tb ≠ c.b := by have := S0.out.ps.lt; omega
 have HK := hidden hk
 have S1 := hidden (S0.out.below hb)
 clear hk hz hb
 go_wp2_with fail
 refine (rightF (sg := [58, 58]) S1.out.ps).mono ?_
 rintro e w2 ⟨rfl, hf, hb⟩
 have HF := hidden hf
 have S2 := hidden (S1.out.below hb)
 have HK2 := hidden (And.intro (cell_on2 hb HK.out.1) (cell_on2 hb HK.out.2))
 clear hf hb
 have e1 : EntersF 161 := (enters_of Tryz.func161 (by kernel_rfl) rfl)
 have e2 : EntersF 154 := (enters_of Tryz.func154 (by kernel_rfl) rfl)
 have e3 : EntersF 165 := enters_of Tryz.func165 (by kernel_rfl) rfl
 have hh : hard .papp = true := rfl
 have hx := right2 (K := fun w' => w'.cell? ⟨kb, 0, none⟩ = some (.int .i64 107) ∧ w'.cell? ⟨tb, 0, none⟩ = some (.int .i64 108)) HR.out S2.out.ps hi HF.out S1.out.ps.lt (by decide) hh HK2.out (fun _ _ h ho => ⟨only_cell ho nk.1 h.1, only_cell ho nk.2 h.2⟩) (applied8 c kb tb 107 108) e1 e2 e3 HR1.out HR2.out
 have HX := hidden hx
 clear hx e1 e2 e3 hh
 go_wp2_with fail
 refine (HX.out).mono ?_
 intro e w3 hg
 cases hR : R with
 | error m =>
  rw [hR] at hg
  obtain ⟨rfl, ho⟩ := hg
  exact ⟨rfl, S2.out.stop ho hR⟩
 | ok xj =>
  obtain ⟨x3, j3⟩ := xj
  rw [hR] at hg
  obtain ⟨ao3, cp3, rfl, hl, hp, ho⟩ := hg
  have X3 := hidden (Has.of hl S2.out)
  have HR := hidden hR
  have S3 := hidden (S2.out.only ho hp)
  clear hl hp ho hR
  obtain ⟨z0, z1, z2, z3, z4, zf⟩ := S3.out.zc
  go_wp2_with fail
  refine bodyPost_ret (results_cell_row rfl _ _ w.heap.size 25 #[.int .i64 x3.kind, .int .i64 (c.pl x3.pl), .int .i64 x3.N, .string ⟨x3.S.toArray⟩, .slice ao3 x3.L.length cp3] (0, 0) _ rfl (S3.out.row _ _ _ _ _) Tryz.underlying25 rfl (by kernel_rfl)) rfl ?_
  exact S3.out.ret X3.out HR.out rfl
theorem m_cons (hi : i ≤ c.ts.length) (r1 : Rule c 175 (.join 5) i) (ih : Beh c i) : Rule c 174 (.join 4) i := by
 intro w h
 obtain ⟨R, hR⟩ : ∃ R, R = reads c.ts (.join 4) i := ⟨_, rfl⟩
 rw [← hR]
 have HR := hidden (hR.trans ((right_ofJ rfl hi).trans (right_mono (J' := fun s j x y => .mk 6 j 0 s [.mk 7 j 0 [] [x, y]]) (fun _ _ _ => rfl))))
 have S0 := hidden (St.new h)
 have hmf : ∀ (fn : Fn) (first cap : Array Value) (w : World), (Instr.makeFunc fn first cap).run Tryz.prog w = .ok (.func fn first cap) w := fun _ _ _ _ => rfl
 have r2 : ∀ j, i < j → j ≤ c.ts.length → Rule c 174 (.join 4) j := fun j h1 h2 => ih (.join 4) j h1 h2
 have HR2 := hidden r2
 have HR1 := hidden r1
 clear h hR r1 r2
 go_enter Tryz.func174, Tryz.ntmps174
 go_wp2_with fail
 refine (appliedG 6 7 _).mono ?_
 rintro e w1 ⟨kb, tb, rfl, hk, hz, hb⟩
 have nk : kb ≠ c.b ∧ tb ≠ c.b := by have := S0.out.ps.lt; omega
 have HK := hidden hk
 have S1 := hidden (S0.out.below hb)
 clear hk hz hb
 go_wp2_with fail
 refine (rightF (sg := [58, 58]) S1.out.ps).mono ?_
 rintro e w2 ⟨rfl, hf, hb⟩
 have HF := hidden hf
 have S2 := hidden (S1.out.below hb)
 have HK2 := hidden (And.intro (cell_on2 hb HK.out.1) (cell_on2 hb HK.out.2))
 clear hf hb
 have e1 : EntersF 175 := (enters_of Tryz.func175 (by kernel_rfl) rfl)
 have e2 : EntersF 174 := (enters_of Tryz.func174 (by kernel_rfl) rfl)
 have e3 : EntersF 165 := enters_of Tryz.func165 (by kernel_rfl) rfl
 have hh : hard (.join 5) = true := rfl
 have hx := right2 (K := fun w' => w'.cell? ⟨kb, 0, none⟩ = some (.int .i64 6) ∧ w'.cell? ⟨tb, 0, none⟩ = some (.int .i64 7)) HR.out S2.out.ps hi HF.out S1.out.ps.lt (by decide) hh HK2.out (fun _ _ h ho => ⟨only_cell ho nk.1 h.1, only_cell ho nk.2 h.2⟩) (applied8 c kb tb 6 7) e1 e2 e3 HR1.out HR2.out
 have HX := hidden hx
 clear hx e1 e2 e3 hh
 go_wp2_with fail
 refine (HX.out).mono ?_
 intro e w3 hg
 cases hR : R with
 | error m =>
  rw [hR] at hg
  obtain ⟨rfl, ho⟩ := hg
  exact ⟨rfl, S2.out.stop ho hR⟩
 | ok xj =>
  obtain ⟨x3, j3⟩ := xj
  rw [hR] at hg
  obtain ⟨ao3, cp3, rfl, hl, hp, ho⟩ := hg
  have X3 := hidden (Has.of hl S2.out)
  have HR := hidden hR
  have S3 := hidden (S2.out.only ho hp)
  clear hl hp ho hR
  obtain ⟨z0, z1, z2, z3, z4, zf⟩ := S3.out.zc
  go_wp2_with fail
  refine bodyPost_ret (results_cell_row rfl _ _ w.heap.size 25 #[.int .i64 x3.kind, .int .i64 (c.pl x3.pl), .int .i64 x3.N, .string ⟨x3.S.toArray⟩, .slice ao3 x3.L.length cp3] (0, 0) _ rfl (S3.out.row _ _ _ _ _) Tryz.underlying25 rfl (by kernel_rfl)) rfl ?_
  exact S3.out.ret X3.out HR.out rfl
theorem m_or (hi : i ≤ c.ts.length) (r1 : Rule c 166 (.join 1) i) (ih : Beh c i) : Rule c 163 (.join 0) i := by
 intro w h
 obtain ⟨R, hR⟩ : ∃ R, R = reads c.ts (.join 0) i := ⟨_, rfl⟩
 rw [← hR]
 have HR := hidden (hR.trans ((right_ofJ rfl hi).trans (right_mono (J' := fun s j x y => .mk 29 j 0 s [x, y]) (fun _ _ _ => rfl))))
 have S0 := hidden (St.new h)
 have hmf : ∀ (fn : Fn) (first cap : Array Value) (w : World), (Instr.makeFunc fn first cap).run Tryz.prog w = .ok (.func fn first cap) w := fun _ _ _ _ => rfl
 have r2 : ∀ j, i < j → j ≤ c.ts.length → Rule c 163 (.join 0) j := fun j h1 h2 => ih (.join 0) j h1 h2
 have HR2 := hidden r2
 have HR1 := hidden r1
 clear h hR r1 r2
 go_enter Tryz.func163, Tryz.ntmps163
 go_wp2_with fail
 obtain ⟨W0, hW⟩ : ∃ W0, w.alloc (.cells #[.int .i64 0, .int .i64 0, .int .i64 0, .string ⟨#[]⟩, .slice none 0 0] 25) = W0 := ⟨_, rfl⟩
 rw [hW]
 rw [hW] at S0
 clear hW
 refine (rightF (sg := [124, 124]) S0.out.ps).mono ?_
 rintro e w2 ⟨rfl, hf, hb⟩
 have HF := hidden hf
 have S2 := hidden (S0.out.below hb)
 clear hf hb
 have e1 : EntersF 166 := (enters_of Tryz.func166 (by kernel_rfl) rfl)
 have e2 : EntersF 163 := (enters_of Tryz.func163 (by kernel_rfl) rfl)
 have e3 : EntersF 158 := enters_of Tryz.func158 (by kernel_rfl) rfl
 have hh : hard (.join 1) = true := rfl
 have hx := right2 (K := fun _ => True) HR.out S2.out.ps hi HF.out S0.out.ps.lt (by decide) hh trivial (fun _ _ _ _ => trivial) (binary8 c) e1 e2 e3 HR1.out HR2.out
 have HX := hidden hx
 clear hx e1 e2 e3 hh
 go_wp2_with fail
 refine (HX.out).mono ?_
 intro e w3 hg
 cases hR : R with
 | error m =>
  rw [hR] at hg
  obtain ⟨rfl, ho⟩ := hg
  exact ⟨rfl, S2.out.stop ho hR⟩
 | ok xj =>
  obtain ⟨x3, j3⟩ := xj
  rw [hR] at hg
  obtain ⟨ao3, cp3, rfl, hl, hp, ho⟩ := hg
  have X3 := hidden (Has.of hl S2.out)
  have HR := hidden hR
  have S3 := hidden (S2.out.only ho hp)
  clear hl hp ho hR
  obtain ⟨z0, z1, z2, z3, z4, zf⟩ := S3.out.zc
  go_wp2_with fail
  refine bodyPost_ret (results_cell_row rfl _ _ w.heap.size 25 #[.int .i64 x3.kind, .int .i64 (c.pl x3.pl), .int .i64 x3.N, .string ⟨x3.S.toArray⟩, .slice ao3 x3.L.length cp3] (0, 0) _ rfl (S3.out.row _ _ _ _ _) Tryz.underlying25 rfl (by kernel_rfl)) rfl ?_
  exact S3.out.ret X3.out HR.out rfl
theorem m_and (hi : i ≤ c.ts.length) (r1 : Rule c 169 (.join 2) i) (ih : Beh c i) : Rule c 166 (.join 1) i := by
 intro w h
 obtain ⟨R, hR⟩ : ∃ R, R = reads c.ts (.join 1) i := ⟨_, rfl⟩
 rw [← hR]
 have HR := hidden (hR.trans ((right_ofJ rfl hi).trans (right_mono (J' := fun s j x y => .mk 29 j 0 s [x, y]) (fun _ _ _ => rfl))))
 have S0 := hidden (St.new h)
 have hmf : ∀ (fn : Fn) (first cap : Array Value) (w : World), (Instr.makeFunc fn first cap).run Tryz.prog w = .ok (.func fn first cap) w := fun _ _ _ _ => rfl
 have r2 : ∀ j, i < j → j ≤ c.ts.length → Rule c 166 (.join 1) j := fun j h1 h2 => ih (.join 1) j h1 h2
 have HR2 := hidden r2
 have HR1 := hidden r1
 clear h hR r1 r2
 go_enter Tryz.func166, Tryz.ntmps166
 go_wp2_with fail
 obtain ⟨W0, hW⟩ : ∃ W0, w.alloc (.cells #[.int .i64 0, .int .i64 0, .int .i64 0, .string ⟨#[]⟩, .slice none 0 0] 25) = W0 := ⟨_, rfl⟩
 rw [hW]
 rw [hW] at S0
 clear hW
 refine (rightF (sg := [38, 38]) S0.out.ps).mono ?_
 rintro e w2 ⟨rfl, hf, hb⟩
 have HF := hidden hf
 have S2 := hidden (S0.out.below hb)
 clear hf hb
 have e1 : EntersF 169 := (enters_of Tryz.func169 (by kernel_rfl) rfl)
 have e2 : EntersF 166 := (enters_of Tryz.func166 (by kernel_rfl) rfl)
 have e3 : EntersF 158 := enters_of Tryz.func158 (by kernel_rfl) rfl
 have hh : hard (.join 2) = true := rfl
 have hx := right2 (K := fun _ => True) HR.out S2.out.ps hi HF.out S0.out.ps.lt (by decide) hh trivial (fun _ _ _ _ => trivial) (binary8 c) e1 e2 e3 HR1.out HR2.out
 have HX := hidden hx
 clear hx e1 e2 e3 hh
 go_wp2_with fail
 refine (HX.out).mono ?_
 intro e w3 hg
 cases hR : R with
 | error m =>
  rw [hR] at hg
  obtain ⟨rfl, ho⟩ := hg
  exact ⟨rfl, S2.out.stop ho hR⟩
 | ok xj =>
  obtain ⟨x3, j3⟩ := xj
  rw [hR] at hg
  obtain ⟨ao3, cp3, rfl, hl, hp, ho⟩ := hg
  have X3 := hidden (Has.of hl S2.out)
  have HR := hidden hR
  have S3 := hidden (S2.out.only ho hp)
  clear hl hp ho hR
  obtain ⟨z0, z1, z2, z3, z4, zf⟩ := S3.out.zc
  go_wp2_with fail
  refine bodyPost_ret (results_cell_row rfl _ _ w.heap.size 25 #[.int .i64 x3.kind, .int .i64 (c.pl x3.pl), .int .i64 x3.N, .string ⟨x3.S.toArray⟩, .slice ao3 x3.L.length cp3] (0, 0) _ rfl (S3.out.row _ _ _ _ _) Tryz.underlying25 rfl (by kernel_rfl)) rfl ?_
  exact S3.out.ret X3.out HR.out rfl
theorem m_cat (hi : i ≤ c.ts.length) (r1 : Rule c 174 (.join 4) i) (ih : Beh c i) : Rule c 172 (.join 3) i := by
 intro w h
 obtain ⟨R, hR⟩ : ∃ R, R = reads c.ts (.join 3) i := ⟨_, rfl⟩
 rw [← hR]
 have HR := hidden (hR.trans ((right_ofJ rfl hi).trans (right_mono (J' := fun s j x y => .mk 29 j 0 s [x, y]) (fun _ _ _ => rfl))))
 have S0 := hidden (St.new h)
 have hmf : ∀ (fn : Fn) (first cap : Array Value) (w : World), (Instr.makeFunc fn first cap).run Tryz.prog w = .ok (.func fn first cap) w := fun _ _ _ _ => rfl
 have r2 : ∀ j, i < j → j ≤ c.ts.length → Rule c 172 (.join 3) j := fun j h1 h2 => ih (.join 3) j h1 h2
 have HR2 := hidden r2
 have HR1 := hidden r1
 clear h hR r1 r2
 go_enter Tryz.func172, Tryz.ntmps172
 go_wp2_with fail
 obtain ⟨W0, hW⟩ : ∃ W0, w.alloc (.cells #[.int .i64 0, .int .i64 0, .int .i64 0, .string ⟨#[]⟩, .slice none 0 0] 25) = W0 := ⟨_, rfl⟩
 rw [hW]
 rw [hW] at S0
 clear hW
 refine (rightF (sg := [94]) S0.out.ps).mono ?_
 rintro e w2 ⟨rfl, hf, hb⟩
 have HF := hidden hf
 have S2 := hidden (S0.out.below hb)
 clear hf hb
 have e1 : EntersF 174 := (enters_of Tryz.func174 (by kernel_rfl) rfl)
 have e2 : EntersF 172 := (enters_of Tryz.func172 (by kernel_rfl) rfl)
 have e3 : EntersF 158 := enters_of Tryz.func158 (by kernel_rfl) rfl
 have hh : hard (.join 4) = true := rfl
 have hx := right2 (K := fun _ => True) HR.out S2.out.ps hi HF.out S0.out.ps.lt (by decide) hh trivial (fun _ _ _ _ => trivial) (binary8 c) e1 e2 e3 HR1.out HR2.out
 have HX := hidden hx
 clear hx e1 e2 e3 hh
 go_wp2_with fail
 refine (HX.out).mono ?_
 intro e w3 hg
 cases hR : R with
 | error m =>
  rw [hR] at hg
  obtain ⟨rfl, ho⟩ := hg
  exact ⟨rfl, S2.out.stop ho hR⟩
 | ok xj =>
  obtain ⟨x3, j3⟩ := xj
  rw [hR] at hg
  obtain ⟨ao3, cp3, rfl, hl, hp, ho⟩ := hg
  have X3 := hidden (Has.of hl S2.out)
  have HR := hidden hR
  have S3 := hidden (S2.out.only ho hp)
  clear hl hp ho hR
  obtain ⟨z0, z1, z2, z3, z4, zf⟩ := S3.out.zc
  go_wp2_with fail
  refine bodyPost_ret (results_cell_row rfl _ _ w.heap.size 25 #[.int .i64 x3.kind, .int .i64 (c.pl x3.pl), .int .i64 x3.N, .string ⟨x3.S.toArray⟩, .slice ao3 x3.L.length cp3] (0, 0) _ rfl (S3.out.row _ _ _ _ _) Tryz.underlying25 rfl (by kernel_rfl)) rfl ?_
  exact S3.out.ret X3.out HR.out rfl
end
end Go.Proofs.YthjmakjhidjbaaaGreat
