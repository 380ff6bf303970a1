/-
  Several small texts in one; each tells at its head what it proves, and on what condition.
-/
import Derived.Test.YthjmakjhidjbaaaGreatLibAN
import Derived.Test.YthjmakjhidjbaaaGreatLibAF

/-
 Layer 8, the program's parser: rules' methods. Condition: the rules that they are made of do as the grammar says.
-/
namespace Go.Proofs.YthjmakjhidjbaaaGreat
open Go.ChangeShapes Go.WideShapes Go.ChangeAt Go.RowKit Go.Deep
set_option linter.unusedVariables false
set_option linter.unusedSimpArgs false
set_option maxHeartbeats 2000000
set_option maxRecDepth 20000
attribute [local go_sem ↓] Go.wp_at_zero Go.wp_at_succ

section
variable {c : PC} {w : World} {i : Nat}
theorem m_patom {R : Res} (h : PS c w i) (hi : i ≤ c.ts.length) (hN : ∀ j, j < c.ts.length → -4611686018427387904 ≤ (tk c.ts j).N ∧ (tk c.ts j).N ≤ 4611686018427387904) (ih : Beh c i) (hF : ∀ w, PS c w i → isS [123] (tk c.ts i) = true → Calls Tryz.prog 143 #[.pointer (some ⟨c.b, 0, none⟩), .int .i64 110, .int .i64 111, .func (.func 109) #[.pointer (some ⟨c.b, 0, none⟩)] #[]] w fun e w' => Got8 c (reads c.ts (.fields true) i) w e w') (hE : R = exec c.ts (reads c.ts) (.test (isK 1) (.eat fun t => .ret (.mk 101 i t.N [] [])) (.test (isK 2) (.eat fun t => .ret (.mk 102 i 0 t.S [])) (.test (isK 3) (.eat fun t => .ret (.mk 106 i 0 t.S [])) (.test (isK 4) (.eat fun t => .ret (.mk 107 i 0 t.S [])) (.skip [45] (.token 1 fun t => .ret (.mk 101 i (0 - t.N) [] [])) (.skip [116, 114, 117, 101] (.ret (.mk 103 i 1 [] [])) (.skip [102, 97, 108, 115, 101] (.ret (.mk 103 i 0 [] [])) (.skip [95] (.ret (.mk 105 i 0 [] [])) (.skip [40] (.skip [41] (.ret (.mk 104 i 0 [] [])) (.call .pat fun x => .must [41] (.ret x))) (.skip [91] (.call (.elems [93] true) fun l => .must [93] (.ret (.mk 109 i 0 [] l.L))) (.call (.fields true) .ret))))))))))) i) : Calls Tryz.prog 123 #[.pointer (some ⟨c.b, 0, none⟩)] w fun e w' => Got8 c R w e w' := by
 have E0 := hidden hE
 have S0 := hidden (St.new h)
 have hmf : ∀ (fn : Fn) (first cap : Array Value) (w : World), (Instr.makeFunc fn first cap).run Tryz.prog w = .ok (.func fn first cap) w := fun _ _ _ _ => rfl
 have fl0 := fld0
 have fl1 := fld1
 have fl2 := fld2
 clear h hE
 go_enter Tryz.func123, Tryz.ntmps123
 go_wp2_with fail
 have hn := next_any S0.out.ps (by omega)
 rcases kinds4 (tk c.ts i) with hk | hk | hk | hk | hk
 ·rw [hk] at hn
  have kt : isK 1 (tk c.ts i) = true := by unfold isK; rw [hk]; rfl
  have hlt := isK_in kt (by decide)
  have E9 := hidden (ex_eat (ex_yes E0.out kt) hlt)
  refine hn.mono ?_
  clear hn kt
  rintro e w1 ⟨rfl, hb⟩
  have S1 := hidden (S0.out.below hb)
  clear hb
  have HK := hidden hk
  clear hk
  go_wp2_with fail
  refine (leafI S1.out.ps 101 (by omega) HK.out).mono ?_
  rintro e w2 ⟨rfl, hp, ho⟩
  have S2 := hidden (S1.out.only ho hp)
  clear hp ho
  obtain ⟨z0, z1, z2, z3, z4, zf⟩ := S2.out.zc
  go_wp2_with fail
  refine bodyPost_ret (results_cell_row rfl _ _ w.heap.size 25 #[.int .i64 101, .int .i64 (c.pl i), .int .i64 (tk c.ts i).N, .string ⟨#[]⟩, .slice none 0 0] (0, 0) _ rfl (S2.out.row _ _ _ _ _) Tryz.underlying25 rfl (by kernel_rfl)) rfl ?_
  exact S2.out.ret (x := .mk 101 i (tk c.ts i).N [] []) (ao := none) (cp := 0) RL.nil (E9.out) rfl
 ·rw [hk] at hn
  have kt : isK 2 (tk c.ts i) = true := by unfold isK; rw [hk]; rfl
  have hlt := isK_in kt (by decide)
  have E9 := hidden (ex_eat (ex_yes (ex_no E0.out (by unfold isK; rw [hk]; rfl)) kt) hlt)
  refine hn.mono ?_
  clear hn kt
  rintro e w1 ⟨rfl, hb⟩
  have S1 := hidden (S0.out.below hb)
  clear hb
  have HK : Hid ((tk c.ts i).kind ≠ 1) := by show _ ≠ _; rw [hk]; decide
  clear hk
  go_wp2_with fail
  refine (leafS S1.out.ps 102 (by omega) HK.out).mono ?_
  rintro e w3 ⟨rfl, hp, ho⟩
  have S3 := hidden (S1.out.only ho hp)
  clear hp ho
  obtain ⟨z0, z1, z2, z3, z4, zf⟩ := S3.out.zc
  go_wp2_with fail
  refine bodyPost_ret (results_cell_row rfl _ _ w.heap.size 25 #[.int .i64 102, .int .i64 (c.pl i), .int .i64 0, .string ⟨(tk c.ts i).S.toArray⟩, .slice none 0 0] (0, 0) _ rfl (S3.out.row _ _ _ _ _) Tryz.underlying25 rfl (by kernel_rfl)) rfl ?_
  exact S3.out.ret (x := .mk 102 i 0 (tk c.ts i).S []) (ao := none) (cp := 0) RL.nil (E9.out) rfl
 ·rw [hk] at hn
  have kt : isK 3 (tk c.ts i) = true := by unfold isK; rw [hk]; rfl
  have hlt := isK_in kt (by decide)
  have E9 := hidden (ex_eat (ex_yes (ex_no (ex_no E0.out (by unfold isK; rw [hk]; rfl)) (by unfold isK; rw [hk]; rfl)) kt) hlt)
  refine hn.mono ?_
  clear hn kt
  rintro e w1 ⟨rfl, hb⟩
  have S1 := hidden (S0.out.below hb)
  clear hb
  have HK : Hid ((tk c.ts i).kind ≠ 1) := by show _ ≠ _; rw [hk]; decide
  clear hk
  go_wp2_with fail
  refine (leafS S1.out.ps 106 (by omega) HK.out).mono ?_
  rintro e w4 ⟨rfl, hp, ho⟩
  have S4 := hidden (S1.out.only ho hp)
  clear hp ho
  obtain ⟨z0, z1, z2, z3, z4, zf⟩ := S4.out.zc
  go_wp2_with fail
  refine bodyPost_ret (results_cell_row rfl _ _ w.heap.size 25 #[.int .i64 106, .int .i64 (c.pl i), .int .i64 0, .string ⟨(tk c.ts i).S.toArray⟩, .slice none 0 0] (0, 0) _ rfl (S4.out.row _ _ _ _ _) Tryz.underlying25 rfl (by kernel_rfl)) rfl ?_
  exact S4.out.ret (x := .mk 106 i 0 (tk c.ts i).S []) (ao := none) (cp := 0) RL.nil (E9.out) rfl
 ·rw [hk] at hn
  have kt : isK 4 (tk c.ts i) = true := by unfold isK; rw [hk]; rfl
  have hlt := isK_in kt (by decide)
  have E9 := hidden (ex_eat (ex_yes (ex_no (ex_no (ex_no E0.out (by unfold isK; rw [hk]; rfl)) (by unfold isK; rw [hk]; rfl)) (by unfold isK; rw [hk]; rfl)) kt) hlt)
  refine hn.mono ?_
  clear hn kt
  rintro e w1 ⟨rfl, hb⟩
  have S1 := hidden (S0.out.below hb)
  clear hb
  have HK : Hid ((tk c.ts i).kind ≠ 1) := by show _ ≠ _; rw [hk]; decide
  clear hk
  go_wp2_with fail
  refine (leafS S1.out.ps 107 (by omega) HK.out).mono ?_
  rintro e w5 ⟨rfl, hp, ho⟩
  have S5 := hidden (S1.out.only ho hp)
  clear hp ho
  obtain ⟨z0, z1, z2, z3, z4, zf⟩ := S5.out.zc
  go_wp2_with fail
  refine bodyPost_ret (results_cell_row rfl _ _ w.heap.size 25 #[.int .i64 107, .int .i64 (c.pl i), .int .i64 0, .string ⟨(tk c.ts i).S.toArray⟩, .slice none 0 0] (0, 0) _ rfl (S5.out.row _ _ _ _ _) Tryz.underlying25 rfl (by kernel_rfl)) rfl ?_
  exact S5.out.ret (x := .mk 107 i 0 (tk c.ts i).S []) (ao := none) (cp := 0) RL.nil (E9.out) rfl
 ·obtain ⟨k1, k2, k3, k4⟩ := hk
  have E9 := hidden (ex_no (ex_no (ex_no (ex_no E0.out k1) k2) k3) k4)
  refine hn.mono ?_
  clear hn
  rintro e w1 ⟨rfl, hb⟩
  have S1 := hidden (S0.out.below hb)
  clear hb
  go_wp2_with fail
  clear k1 k2 k3 k4
  go_wp2_with fail
  cases hs0 : isS [45] (tk c.ts (i)) with
  | true =>
   have hb := sign8 S1.out.ps (by omega)
   rw [signT_is hs0] at hb
   have t6 := isS_in hs0
   refine hb.mono ?_
   clear hb
   rintro e w6 ⟨rfl, hb⟩
   have S6 := hidden (S1.out.below hb)
   clear hb
   have E8 := hidden (ex_skip E9.out hs0)
   have HS := hidden hs0
   clear hs0
   go_wp2_with fail
   refine (take8 S6.out.ps (by omega)).mono ?_
   rintro e w7 ⟨rfl, hp, ho⟩
   have S7 := hidden (S6.out.only ho hp)
   clear hp ho
   go_wp2_with fail
   cases hs : isK 1 (tk c.ts (i + 1)) with
   | false =>
    refine (mustBe_no S7.out.ps (by omega) 1 hs).mono ?_
    rintro e w' ⟨rfl, ho⟩
    exact ⟨rfl, S7.out.stop ho (ex_tokenN E8.out hs)⟩
   | true =>
    have t8 := isK_in hs (by decide)
    have E8 := hidden (ex_token E8.out hs (by decide))
    refine (mustBe_yes S7.out.ps 1 (by decide) hs).mono ?_
    rintro e w8 ⟨rfl, hp, ho⟩
    have S8 := hidden (S7.out.only ho hp)
    clear hp ho hs
    obtain ⟨hn1, hn2⟩ := hN (i + 1) (by omega)
    obtain ⟨z0, z1, z2, z3, z4, zf⟩ := S8.out.zc
    go_wp2_with fail
    refine bodyPost_ret (results_cell_row rfl _ _ w.heap.size 25 #[.int .i64 101, .int .i64 (c.pl i), .int .i64 (-(tk c.ts (i + 1)).N), .string ⟨#[]⟩, .slice none 0 0] (0, 0) _ rfl (S8.out.row _ _ _ _ _) Tryz.underlying25 rfl (by kernel_rfl)) rfl ?_
    exact S8.out.ret (x := .mk 101 i (-(tk c.ts (i + 1)).N) [] []) (ao := none) (cp := 0) RL.nil (by have h9 := ex_ret E8.out; rw [Int.zero_sub] at h9; exact h9) rfl
  | false =>
   have E6_0 := hidden (ex_skipN E9.out hs0)
   have z6_0 := signT_no hs0 (by decide)
   clear hs0
   cases hs1 : isS [116, 114, 117, 101] (tk c.ts (i)) with
   | true =>
    have hb := sign8 S1.out.ps (by omega)
    rw [signT_is hs1] at hb
    have t6 := isS_in hs1
    refine hb.mono ?_
    clear hb
    rintro e w6 ⟨rfl, hb⟩
    have S6 := hidden (S1.out.below hb)
    clear hb
    have E8 := hidden (ex_skip E6_0.out hs1)
    have HS := hidden hs1
    clear hs1
    go_wp2_with fail
    refine (mark8 S6.out.ps 103 1 (by omega)).mono ?_
    rintro e w9 ⟨rfl, hp, ho⟩
    have S9 := hidden (S6.out.only ho hp)
    clear hp ho
    obtain ⟨z0, z1, z2, z3, z4, zf⟩ := S9.out.zc
    go_wp2_with fail
    refine bodyPost_ret (results_cell_row rfl _ _ w.heap.size 25 #[.int .i64 103, .int .i64 (c.pl i), .int .i64 1, .string ⟨#[]⟩, .slice none 0 0] (0, 0) _ rfl (S9.out.row _ _ _ _ _) Tryz.underlying25 rfl (by kernel_rfl)) rfl ?_
    exact S9.out.ret (x := .mk 103 i 1 [] []) (ao := none) (cp := 0) RL.nil (E8.out) rfl
   | false =>
    have E6_1 := hidden (ex_skipN E6_0.out hs1)
    have z6_1 := signT_no hs1 (by decide)
    clear hs1
    cases hs2 : isS [102, 97, 108, 115, 101] (tk c.ts (i)) with
    | true =>
     have hb := sign8 S1.out.ps (by omega)
     rw [signT_is hs2] at hb
     have t6 := isS_in hs2
     refine hb.mono ?_
     clear hb
     rintro e w6 ⟨rfl, hb⟩
     have S6 := hidden (S1.out.below hb)
     clear hb
     have E8 := hidden (ex_skip E6_1.out hs2)
     have HS := hidden hs2
     clear hs2
     go_wp2_with fail
     refine (mark8 S6.out.ps 103 0 (by omega)).mono ?_
     rintro e w10 ⟨rfl, hp, ho⟩
     have S10 := hidden (S6.out.only ho hp)
     clear hp ho
     obtain ⟨z0, z1, z2, z3, z4, zf⟩ := S10.out.zc
     go_wp2_with fail
     refine bodyPost_ret (results_cell_row rfl _ _ w.heap.size 25 #[.int .i64 103, .int .i64 (c.pl i), .int .i64 0, .string ⟨#[]⟩, .slice none 0 0] (0, 0) _ rfl (S10.out.row _ _ _ _ _) Tryz.underlying25 rfl (by kernel_rfl)) rfl ?_
     exact S10.out.ret (x := .mk 103 i 0 [] []) (ao := none) (cp := 0) RL.nil (E8.out) rfl
    | false =>
     have E6_2 := hidden (ex_skipN E6_1.out hs2)
     have z6_2 := signT_no hs2 (by decide)
     clear hs2
     cases hs3 : isS [95] (tk c.ts (i)) with
     | true =>
      have hb := sign8 S1.out.ps (by omega)
      rw [signT_is hs3] at hb
      have t6 := isS_in hs3
      refine hb.mono ?_
      clear hb
      rintro e w6 ⟨rfl, hb⟩
      have S6 := hidden (S1.out.below hb)
      clear hb
      have E8 := hidden (ex_skip E6_2.out hs3)
      have HS := hidden hs3
      clear hs3
      go_wp2_with fail
      refine (mark8 S6.out.ps 105 0 (by omega)).mono ?_
      rintro e w11 ⟨rfl, hp, ho⟩
      have S11 := hidden (S6.out.only ho hp)
      clear hp ho
      obtain ⟨z0, z1, z2, z3, z4, zf⟩ := S11.out.zc
      go_wp2_with fail
      refine bodyPost_ret (results_cell_row rfl _ _ w.heap.size 25 #[.int .i64 105, .int .i64 (c.pl i), .int .i64 0, .string ⟨#[]⟩, .slice none 0 0] (0, 0) _ rfl (S11.out.row _ _ _ _ _) Tryz.underlying25 rfl (by kernel_rfl)) rfl ?_
      exact S11.out.ret (x := .mk 105 i 0 [] []) (ao := none) (cp := 0) RL.nil (E8.out) rfl
     | false =>
      have E6_3 := hidden (ex_skipN E6_2.out hs3)
      have z6_3 := signT_no hs3 (by decide)
      clear hs3
      cases hs4 : isS [40] (tk c.ts (i)) with
      | true =>
       have hb := sign8 S1.out.ps (by omega)
       rw [signT_is hs4] at hb
       have t6 := isS_in hs4
       refine hb.mono ?_
       clear hb
       rintro e w6 ⟨rfl, hb⟩
       have S6 := hidden (S1.out.below hb)
       clear hb
       have E8 := hidden (ex_skip E6_3.out hs4)
       have HS := hidden hs4
       clear hs4
       go_wp2_with fail
       have hlt := isS_in HS.out
       have HX := hidden (m_bracketed (un := 104) S6.out.ps hlt rfl (enters_of Tryz.func109 (by kernel_rfl) rfl) (ih .pat (i + 1) (by omega) (by omega)) ih E8.out)
       refine (HX.out).mono ?_
       intro e w12 hg
       cases hR : R with
       | error m =>
        rw [hR] at hg
        obtain ⟨rfl, ho⟩ := hg
        exact ⟨rfl, S6.out.stop ho hR⟩
       | ok xj =>
        obtain ⟨x12, j12⟩ := xj
        rw [hR] at hg
        obtain ⟨ao12, cp12, rfl, hl, hp, ho⟩ := hg
        have X12 := hidden (Has.of hl S6.out)
        have HR := hidden hR
        have S12 := hidden (S6.out.only ho hp)
        clear hl hp ho hR
        obtain ⟨z0, z1, z2, z3, z4, zf⟩ := S12.out.zc
        go_wp2_with fail
        refine bodyPost_ret (results_cell_row rfl _ _ w.heap.size 25 #[.int .i64 x12.kind, .int .i64 (c.pl x12.pl), .int .i64 x12.N, .string ⟨x12.S.toArray⟩, .slice ao12 x12.L.length cp12] (0, 0) _ rfl (S12.out.row _ _ _ _ _) Tryz.underlying25 rfl (by kernel_rfl)) rfl ?_
        exact S12.out.ret X12.out HR.out rfl
      | false =>
       have E6_4 := hidden (ex_skipN E6_3.out hs4)
       have z6_4 := signT_no hs4 (by decide)
       clear hs4
       cases hs5 : isS [91] (tk c.ts (i)) with
       | true =>
        have hb := sign8 S1.out.ps (by omega)
        rw [signT_is hs5] at hb
        have t6 := isS_in hs5
        refine hb.mono ?_
        clear hb
        rintro e w6 ⟨rfl, hb⟩
        have S6 := hidden (S1.out.below hb)
        clear hb
        have E8 := hidden (ex_skip E6_4.out hs5)
        have HS := hidden hs5
        clear hs5
        go_wp2_with fail
        have hlt := isS_in HS.out
        have HX := hidden (m_listed (kd := 109) (n1 := .pat) S6.out.ps hlt (sg := [93]) (by decide) rfl (enters_of Tryz.func109 (by kernel_rfl) rfl) (elT_tail (p := true)) (fun j h1 h2 => ih .pat j h1 h2) (elems_eq (p := true) (by omega) E8.out))
        refine (HX.out).mono ?_
        intro e w13 hg
        cases hR : R with
        | error m =>
         rw [hR] at hg
         obtain ⟨rfl, ho⟩ := hg
         exact ⟨rfl, S6.out.stop ho hR⟩
        | ok xj =>
         obtain ⟨x13, j13⟩ := xj
         rw [hR] at hg
         obtain ⟨ao13, cp13, rfl, hl, hp, ho⟩ := hg
         have X13 := hidden (Has.of hl S6.out)
         have HR := hidden hR
         have S13 := hidden (S6.out.only ho hp)
         clear hl hp ho hR
         obtain ⟨z0, z1, z2, z3, z4, zf⟩ := S13.out.zc
         go_wp2_with fail
         refine bodyPost_ret (results_cell_row rfl _ _ w.heap.size 25 #[.int .i64 x13.kind, .int .i64 (c.pl x13.pl), .int .i64 x13.N, .string ⟨x13.S.toArray⟩, .slice ao13 x13.L.length cp13] (0, 0) _ rfl (S13.out.row _ _ _ _ _) Tryz.underlying25 rfl (by kernel_rfl)) rfl ?_
         exact S13.out.ret X13.out HR.out rfl
       | false =>
        have E6_5 := hidden (ex_skipN E6_4.out hs5)
        have z6_5 := signT_no hs5 (by decide)
        clear hs5
        cases hs6 : isS [123] (tk c.ts (i)) with
        | true =>
         have hb := sign8 S1.out.ps (by omega)
         rw [signT_is hs6] at hb
         have t6 := isS_in hs6
         refine hb.mono ?_
         clear hb
         rintro e w6 ⟨rfl, hb⟩
         have S6 := hidden (S1.out.below hb)
         clear hb
         have E8 := hidden (ex_end E6_5.out)
         have HS := hidden hs6
         clear hs6
         go_wp2_with fail
         have HX := hidden (hF _ S6.out.ps HS.out)
         rw [← E8.out] at HX
         refine (HX.out).mono ?_
         intro e w14 hg
         cases hR : R with
         | error m =>
          rw [hR] at hg
          obtain ⟨rfl, ho⟩ := hg
          exact ⟨rfl, S6.out.stop ho hR⟩
         | ok xj =>
          obtain ⟨x14, j14⟩ := xj
          rw [hR] at hg
          obtain ⟨ao14, cp14, rfl, hl, hp, ho⟩ := hg
          have X14 := hidden (Has.of hl S6.out)
          have HR := hidden hR
          have S14 := hidden (S6.out.only ho hp)
          clear hl hp ho hR
          obtain ⟨z0, z1, z2, z3, z4, zf⟩ := S14.out.zc
          go_wp2_with fail
          refine bodyPost_ret (results_cell_row rfl _ _ w.heap.size 25 #[.int .i64 x14.kind, .int .i64 (c.pl x14.pl), .int .i64 x14.N, .string ⟨x14.S.toArray⟩, .slice ao14 x14.L.length cp14] (0, 0) _ rfl (S14.out.row _ _ _ _ _) Tryz.underlying25 rfl (by kernel_rfl)) rfl ?_
          exact S14.out.ret X14.out HR.out rfl
        | false =>
         have HF0 := hidden hs6
         have z6_6 := signT_no hs6 (by decide)
         clear hs6
         have hb := sign8 S1.out.ps (by omega)
         refine hb.mono ?_
         clear hb
         rintro e w6 ⟨rfl, hb⟩
         have S6 := hidden (S1.out.below hb)
         clear hb
         generalize (⟨(signT (tk c.ts (i))).toArray⟩ : ByteArray) = sv6 at *
         go_wp2_with fail
         refine (giveUp8 S6.out.ps (by omega)).mono ?_
         rintro e w' ⟨rfl, ho⟩
         exact ⟨rfl, S6.out.stop ho (fields_no hi (ex_end E6_5.out) HF0.out)⟩
end
end Go.Proofs.YthjmakjhidjbaaaGreat

/-
 Layer 8, the program's parser: rules' methods. Condition: the rules that they are made of do as the grammar says.
-/
namespace Go.Proofs.YthjmakjhidjbaaaGreat
open Go.ChangeShapes Go.WideShapes Go.ChangeAt Go.RowKit Go.Deep
set_option linter.unusedVariables false
set_option linter.unusedSimpArgs false
set_option maxHeartbeats 2000000
set_option maxRecDepth 20000
attribute [local go_sem ↓] Go.wp_at_zero Go.wp_at_succ

section
variable {c : PC} {w : World} {i : Nat}
theorem m_elems {R : Res} {kd : Int} {sg : List UInt8} (h : PS c w i) (hi : i < c.ts.length) (hsg : sg ≠ []) (ih : Beh c i) (hE : R = exec c.ts (reads c.ts) (.call (.elems sg false) fun l => .must sg (.ret (.mk kd i 0 [] l.L))) (i + 1)) : Calls Tryz.prog 184 #[.pointer (some ⟨c.b, 0, none⟩), .int .i64 kd, .string ⟨sg.toArray⟩] w fun e w' => Got8 c R w e w' := by
 have E0 := hidden hE
 have S0 := hidden (St.new h)
 have hmf : ∀ (fn : Fn) (first cap : Array Value) (w : World), (Instr.makeFunc fn first cap).run Tryz.prog w = .ok (.func fn first cap) w := fun _ _ _ _ => rfl
 clear h hE
 go_enter Tryz.func184, Tryz.ntmps184
 go_wp2_with fail
 have HX := hidden (m_listed (kd := kd) (n1 := .expr) S0.out.ps hi (sg := sg) hsg rfl (enters_of Tryz.func125 (by kernel_rfl) rfl) (elT_tail (p := false)) (fun j h1 h2 => ih .expr j h1 h2) (elems_eq (p := false) (by omega) E0.out))
 refine (HX.out).mono ?_
 intro e w1 hg
 cases hR : R with
 | error m =>
  rw [hR] at hg
  obtain ⟨rfl, ho⟩ := hg
  exact ⟨rfl, S0.out.stop ho hR⟩
 | ok xj =>
  obtain ⟨x1, j1⟩ := xj
  rw [hR] at hg
  obtain ⟨ao1, cp1, rfl, hl, hp, ho⟩ := hg
  have X1 := hidden (Has.of hl S0.out)
  have HR := hidden hR
  have S1 := hidden (S0.out.only ho hp)
  clear hl hp ho hR
  obtain ⟨z0, z1, z2, z3, z4, zf⟩ := S1.out.zc
  go_wp2_with fail
  refine bodyPost_ret (results_cell_row rfl _ _ w.heap.size 25 #[.int .i64 x1.kind, .int .i64 (c.pl x1.pl), .int .i64 x1.N, .string ⟨x1.S.toArray⟩, .slice ao1 x1.L.length cp1] (0, 0) _ rfl (S1.out.row _ _ _ _ _) Tryz.underlying25 rfl (by kernel_rfl)) rfl ?_
  exact S1.out.ret X1.out HR.out rfl
theorem m_atom {R : Res} (h : PS c w i) (hi : i ≤ c.ts.length) (ih : Beh c i) (hF : ∀ w, PS c w i → isS [123] (tk c.ts i) = true → Calls Tryz.prog 143 #[.pointer (some ⟨c.b, 0, none⟩), .int .i64 10, .int .i64 11, .func (.func 125) #[.pointer (some ⟨c.b, 0, none⟩)] #[]] w fun e w' => Got8 c (reads c.ts (.fields false) i) w e w') (hE : R = exec c.ts (reads c.ts) (.test (isK 1) (.eat fun t => .ret (.mk 1 i t.N [] [])) (.test (isK 2) (.eat fun t => .ret (.mk 2 i 0 t.S [])) (.test (isK 3) (.eat fun t => .ret (.mk 5 i 0 t.S [])) (.test (isK 4) (.eat fun t => .ret (.mk 6 i 0 t.S [])) (.skip [116, 114, 117, 101] (.ret (.mk 3 i 1 [] [])) (.skip [102, 97, 108, 115, 101] (.ret (.mk 3 i 0 [] [])) (.skip [40] (.skip [41] (.ret (.mk 4 i 0 [] [])) (.call .seq fun x => .must [41] (.ret x))) (.skip [98, 101, 103, 105, 110] (.call .seq fun x => .must [101, 110, 100] (.ret x)) (.skip [91] (.call (.elems [93] false) fun l => .must [93] (.ret (.mk 8 i 0 [] l.L))) (.skip [91, 124] (.call (.elems [124, 93] false) fun l => .must [124, 93] (.ret (.mk 9 i 0 [] l.L))) (.call (.fields false) .ret))))))))))) i) : Calls Tryz.prog 182 #[.pointer (some ⟨c.b, 0, none⟩)] w fun e w' => Got8 c R w e w' := by
 have E0 := hidden hE
 have S0 := hidden (St.new h)
 have hmf : ∀ (fn : Fn) (first cap : Array Value) (w : World), (Instr.makeFunc fn first cap).run Tryz.prog w = .ok (.func fn first cap) w := fun _ _ _ _ => rfl
 have fl0 := fld0
 have fl1 := fld1
 clear h hE
 go_enter Tryz.func182, Tryz.ntmps182
 go_wp2_with fail
 have hn := next_any S0.out.ps (by omega)
 rcases kinds4 (tk c.ts i) with hk | hk | hk | hk | hk
 ·rw [hk] at hn
  have kt : isK 1 (tk c.ts i) = true := by unfold isK; rw [hk]; rfl
  have hlt := isK_in kt (by decide)
  have E9 := hidden (ex_eat (ex_yes E0.out kt) hlt)
  refine hn.mono ?_
  clear hn kt
  rintro e w1 ⟨rfl, hb⟩
  have S1 := hidden (S0.out.below hb)
  clear hb
  have HK := hidden hk
  clear hk
  go_wp2_with fail
  refine (leafI S1.out.ps 1 (by omega) HK.out).mono ?_
  rintro e w2 ⟨rfl, hp, ho⟩
  have S2 := hidden (S1.out.only ho hp)
  clear hp ho
  obtain ⟨z0, z1, z2, z3, z4, zf⟩ := S2.out.zc
  go_wp2_with fail
  refine bodyPost_ret (results_cell_row rfl _ _ w.heap.size 25 #[.int .i64 1, .int .i64 (c.pl i), .int .i64 (tk c.ts i).N, .string ⟨#[]⟩, .slice none 0 0] (0, 0) _ rfl (S2.out.row _ _ _ _ _) Tryz.underlying25 rfl (by kernel_rfl)) rfl ?_
  exact S2.out.ret (x := .mk 1 i (tk c.ts i).N [] []) (ao := none) (cp := 0) RL.nil (E9.out) rfl
 ·rw [hk] at hn
  have kt : isK 2 (tk c.ts i) = true := by unfold isK; rw [hk]; rfl
  have hlt := isK_in kt (by decide)
  have E9 := hidden (ex_eat (ex_yes (ex_no E0.out (by unfold isK; rw [hk]; rfl)) kt) hlt)
  refine hn.mono ?_
  clear hn kt
  rintro e w1 ⟨rfl, hb⟩
  have S1 := hidden (S0.out.below hb)
  clear hb
  have HK : Hid ((tk c.ts i).kind ≠ 1) := by show _ ≠ _; rw [hk]; decide
  clear hk
  go_wp2_with fail
  refine (leafS S1.out.ps 2 (by omega) HK.out).mono ?_
  rintro e w3 ⟨rfl, hp, ho⟩
  have S3 := hidden (S1.out.only ho hp)
  clear hp ho
  obtain ⟨z0, z1, z2, z3, z4, zf⟩ := S3.out.zc
  go_wp2_with fail
  refine bodyPost_ret (results_cell_row rfl _ _ w.heap.size 25 #[.int .i64 2, .int .i64 (c.pl i), .int .i64 0, .string ⟨(tk c.ts i).S.toArray⟩, .slice none 0 0] (0, 0) _ rfl (S3.out.row _ _ _ _ _) Tryz.underlying25 rfl (by kernel_rfl)) rfl ?_
  exact S3.out.ret (x := .mk 2 i 0 (tk c.ts i).S []) (ao := none) (cp := 0) RL.nil (E9.out) rfl
 ·rw [hk] at hn
  have kt : isK 3 (tk c.ts i) = true := by unfold isK; rw [hk]; rfl
  have hlt := isK_in kt (by decide)
  have E9 := hidden (ex_eat (ex_yes (ex_no (ex_no E0.out (by unfold isK; rw [hk]; rfl)) (by unfold isK; rw [hk]; rfl)) kt) hlt)
  refine hn.mono ?_
  clear hn kt
  rintro e w1 ⟨rfl, hb⟩
  have S1 := hidden (S0.out.below hb)
  clear hb
  have HK : Hid ((tk c.ts i).kind ≠ 1) := by show _ ≠ _; rw [hk]; decide
  clear hk
  go_wp2_with fail
  refine (leafS S1.out.ps 5 (by omega) HK.out).mono ?_
  rintro e w4 ⟨rfl, hp, ho⟩
  have S4 := hidden (S1.out.only ho hp)
  clear hp ho
  obtain ⟨z0, z1, z2, z3, z4, zf⟩ := S4.out.zc
  go_wp2_with fail
  refine bodyPost_ret (results_cell_row rfl _ _ w.heap.size 25 #[.int .i64 5, .int .i64 (c.pl i), .int .i64 0, .string ⟨(tk c.ts i).S.toArray⟩, .slice none 0 0] (0, 0) _ rfl (S4.out.row _ _ _ _ _) Tryz.underlying25 rfl (by kernel_rfl)) rfl ?_
  exact S4.out.ret (x := .mk 5 i 0 (tk c.ts i).S []) (ao := none) (cp := 0) RL.nil (E9.out) rfl
 ·rw [hk] at hn
  have kt : isK 4 (tk c.ts i) = true := by unfold isK; rw [hk]; rfl
  have hlt := isK_in kt (by decide)
  have E9 := hidden (ex_eat (ex_yes (ex_no (ex_no (ex_no E0.out (by unfold isK; rw [hk]; rfl)) (by unfold isK; rw [hk]; rfl)) (by unfold isK; rw [hk]; rfl)) kt) hlt)
  refine hn.mono ?_
  clear hn kt
  rintro e w1 ⟨rfl, hb⟩
  have S1 := hidden (S0.out.below hb)
  clear hb
  have HK : Hid ((tk c.ts i).kind ≠ 1) := by show _ ≠ _; rw [hk]; decide
  clear hk
  go_wp2_with fail
  refine (leafS S1.out.ps 6 (by omega) HK.out).mono ?_
  rintro e w5 ⟨rfl, hp, ho⟩
  have S5 := hidden (S1.out.only ho hp)
  clear hp ho
  obtain ⟨z0, z1, z2, z3, z4, zf⟩ := S5.out.zc
  go_wp2_with fail
  refine bodyPost_ret (results_cell_row rfl _ _ w.heap.size 25 #[.int .i64 6, .int .i64 (c.pl i), .int .i64 0, .string ⟨(tk c.ts i).S.toArray⟩, .slice none 0 0] (0, 0) _ rfl (S5.out.row _ _ _ _ _) Tryz.underlying25 rfl (by kernel_rfl)) rfl ?_
  exact S5.out.ret (x := .mk 6 i 0 (tk c.ts i).S []) (ao := none) (cp := 0) RL.nil (E9.out) rfl
 ·obtain ⟨k1, k2, k3, k4⟩ := hk
  have E9 := hidden (ex_no (ex_no (ex_no (ex_no E0.out k1) k2) k3) k4)
  refine hn.mono ?_
  clear hn
  rintro e w1 ⟨rfl, hb⟩
  have S1 := hidden (S0.out.below hb)
  clear hb
  go_wp2_with fail
  clear k1 k2 k3 k4
  go_wp2_with fail
  cases hs0 : isS [116, 114, 117, 101] (tk c.ts (i)) with
  | true =>
   have hb := sign8 S1.out.ps (by omega)
   rw [signT_is hs0] at hb
   have t6 := isS_in hs0
   refine hb.mono ?_
   clear hb
   rintro e w6 ⟨rfl, hb⟩
   have S6 := hidden (S1.out.below hb)
   clear hb
   have E8 := hidden (ex_skip E9.out hs0)
   have HS := hidden hs0
   clear hs0
   go_wp2_with fail
   refine (mark8 S6.out.ps 3 1 (by omega)).mono ?_
   rintro e w7 ⟨rfl, hp, ho⟩
   have S7 := hidden (S6.out.only ho hp)
   clear hp ho
   obtain ⟨z0, z1, z2, z3, z4, zf⟩ := S7.out.zc
   go_wp2_with fail
   refine bodyPost_ret (results_cell_row rfl _ _ w.heap.size 25 #[.int .i64 3, .int .i64 (c.pl i), .int .i64 1, .string ⟨#[]⟩, .slice none 0 0] (0, 0) _ rfl (S7.out.row _ _ _ _ _) Tryz.underlying25 rfl (by kernel_rfl)) rfl ?_
   exact S7.out.ret (x := .mk 3 i 1 [] []) (ao := none) (cp := 0) RL.nil (E8.out) rfl
  | false =>
   have E6_0 := hidden (ex_skipN E9.out hs0)
   have z6_0 := signT_no hs0 (by decide)
   clear hs0
   cases hs1 : isS [102, 97, 108, 115, 101] (tk c.ts (i)) with
   | true =>
    have hb := sign8 S1.out.ps (by omega)
    rw [signT_is hs1] at hb
    have t6 := isS_in hs1
    refine hb.mono ?_
    clear hb
    rintro e w6 ⟨rfl, hb⟩
    have S6 := hidden (S1.out.below hb)
    clear hb
    have E8 := hidden (ex_skip E6_0.out hs1)
    have HS := hidden hs1
    clear hs1
    go_wp2_with fail
    refine (mark8 S6.out.ps 3 0 (by omega)).mono ?_
    rintro e w8 ⟨rfl, hp, ho⟩
    have S8 := hidden (S6.out.only ho hp)
    clear hp ho
    obtain ⟨z0, z1, z2, z3, z4, zf⟩ := S8.out.zc
    go_wp2_with fail
    refine bodyPost_ret (results_cell_row rfl _ _ w.heap.size 25 #[.int .i64 3, .int .i64 (c.pl i), .int .i64 0, .string ⟨#[]⟩, .slice none 0 0] (0, 0) _ rfl (S8.out.row _ _ _ _ _) Tryz.underlying25 rfl (by kernel_rfl)) rfl ?_
    exact S8.out.ret (x := .mk 3 i 0 [] []) (ao := none) (cp := 0) RL.nil (E8.out) rfl
   | false =>
    have E6_1 := hidden (ex_skipN E6_0.out hs1)
    have z6_1 := signT_no hs1 (by decide)
    clear hs1
    cases hs2 : isS [40] (tk c.ts (i)) with
    | true =>
     have hb := sign8 S1.out.ps (by omega)
     rw [signT_is hs2] at hb
     have t6 := isS_in hs2
     refine hb.mono ?_
     clear hb
     rintro e w6 ⟨rfl, hb⟩
     have S6 := hidden (S1.out.below hb)
     clear hb
     have E8 := hidden (ex_skip E6_1.out hs2)
     have HS := hidden hs2
     clear hs2
     go_wp2_with fail
     have hlt := isS_in HS.out
     have HX := hidden (m_bracketed (un := 4) S6.out.ps hlt rfl (enters_of Tryz.func111 (by kernel_rfl) rfl) (ih .seq (i + 1) (by omega) (by omega)) ih E8.out)
     refine (HX.out).mono ?_
     intro e w9 hg
     cases hR : R with
     | error m =>
      rw [hR] at hg
      obtain ⟨rfl, ho⟩ := hg
      exact ⟨rfl, S6.out.stop ho hR⟩
     | ok xj =>
      obtain ⟨x9, j9⟩ := xj
      rw [hR] at hg
      obtain ⟨ao9, cp9, rfl, hl, hp, ho⟩ := hg
      have X9 := hidden (Has.of hl S6.out)
      have HR := hidden hR
      have S9 := hidden (S6.out.only ho hp)
      clear hl hp ho hR
      obtain ⟨z0, z1, z2, z3, z4, zf⟩ := S9.out.zc
      go_wp2_with fail
      refine bodyPost_ret (results_cell_row rfl _ _ w.heap.size 25 #[.int .i64 x9.kind, .int .i64 (c.pl x9.pl), .int .i64 x9.N, .string ⟨x9.S.toArray⟩, .slice ao9 x9.L.length cp9] (0, 0) _ rfl (S9.out.row _ _ _ _ _) Tryz.underlying25 rfl (by kernel_rfl)) rfl ?_
      exact S9.out.ret X9.out HR.out rfl
    | false =>
     have E6_2 := hidden (ex_skipN E6_1.out hs2)
     have z6_2 := signT_no hs2 (by decide)
     clear hs2
     cases hs3 : isS [98, 101, 103, 105, 110] (tk c.ts (i)) with
     | true =>
      have hb := sign8 S1.out.ps (by omega)
      rw [signT_is hs3] at hb
      have t6 := isS_in hs3
      refine hb.mono ?_
      clear hb
      rintro e w6 ⟨rfl, hb⟩
      have S6 := hidden (S1.out.below hb)
      clear hb
      have E8 := hidden (ex_skip E6_2.out hs3)
      have HS := hidden hs3
      clear hs3
      have hlt := isS_in HS.out
      go_wp2_with fail
      refine (take8 S6.out.ps (by omega)).mono ?_
      rintro e w10 ⟨rfl, hp, ho⟩
      have S10 := hidden (S6.out.only ho hp)
      clear hp ho
      go_wp2_with fail
      refine ((ih .seq (i + 1) (by omega) (by omega) : Rule c 111 .seq (i + 1)) _ S10.out.ps).mono ?_
      intro e w11 hg
      cases hx : reads c.ts .seq (i + 1) with
      | error m =>
       rw [hx] at hg
       obtain ⟨rfl, ho⟩ := hg
       exact ⟨rfl, S10.out.stop ho (ex_err E8.out hx)⟩
      | ok xj =>
       obtain ⟨x11, j11⟩ := xj
       have f11 := reads_fine (ts := c.ts) .seq (i := i + 1) (by omega)
       rw [hx] at hg f11
       obtain ⟨ao11, cp11, rfl, hl, hp, ho⟩ := hg
       have E11 := hidden (ex_ok E8.out hx)
       have b11 : j11 ≤ c.ts.length := f11.2.1
       have a11 : i + 1 < j11 := f11.2.2 _ _ rfl rfl
       have X11 := hidden (Has.of hl S10.out)
       have S11 := hidden (S10.out.only ho hp)
       clear hl hp ho hx f11
       have V11 := hidden (Lc.new S11.out x11.kind (c.pl x11.pl) x11.N ⟨x11.S.toArray⟩ (.slice ao11 x11.L.length cp11))
       go_wp2_with fail
       cases hs : isS [101, 110, 100] (tk c.ts (j11)) with
       | false =>
        refine (must_no (S11.out.alloc _).ps (by omega) [101, 110, 100] (by decide) hs).mono ?_
        rintro e w' ⟨rfl, ho⟩
        exact ⟨rfl, (S11.out.alloc _).stop ho (ex_mustN E11.out hs)⟩
       | true =>
        have t12 := isS_in hs
        have E12 := hidden (ex_must E11.out hs)
        refine (must_yes (S11.out.alloc _).ps [101, 110, 100] (by decide) hs).mono ?_
        rintro e w12 ⟨rfl, hp, ho⟩
        have X11_12 := hidden ((X11.out.alloc _).only (S11.out.alloc _) ho)
        have V11_12 := hidden (V11.out.only (S11.out.alloc _) ho)
        have S12 := hidden ((S11.out.alloc _).only ho hp)
        clear hp ho hs
        obtain ⟨y0, y1, y2, y3, y4, yf⟩ := V11_12.out.n.cells
        obtain ⟨z0, z1, z2, z3, z4, zf⟩ := S12.out.zc
        clear yf
        go_wp2_with fail
        refine bodyPost_ret (results_cell_row rfl _ _ w.heap.size 25 #[.int .i64 x11.kind, .int .i64 (c.pl x11.pl), .int .i64 x11.N, .string ⟨x11.S.toArray⟩, .slice ao11 x11.L.length cp11] (0, 0) _ rfl (S12.out.row _ _ _ _ _) Tryz.underlying25 rfl (by kernel_rfl)) rfl ?_
        exact S12.out.ret X11_12.out (E12.out) rfl
     | false =>
      have E6_3 := hidden (ex_skipN E6_2.out hs3)
      have z6_3 := signT_no hs3 (by decide)
      clear hs3
      cases hs4 : isS [91] (tk c.ts (i)) with
      | true =>
       have hb := sign8 S1.out.ps (by omega)
       rw [signT_is hs4] at hb
       have t6 := isS_in hs4
       refine hb.mono ?_
       clear hb
       rintro e w6 ⟨rfl, hb⟩
       have S6 := hidden (S1.out.below hb)
       clear hb
       have E8 := hidden (ex_skip E6_3.out hs4)
       have HS := hidden hs4
       clear hs4
       go_wp2_with fail
       have hlt := isS_in HS.out
       have HX := hidden (m_elems (kd := 8) S6.out.ps hlt (sg := [93]) (by decide) ih E8.out)
       refine (HX.out).mono ?_
       intro e w13 hg
       cases hR : R with
       | error m =>
        rw [hR] at hg
        obtain ⟨rfl, ho⟩ := hg
        exact ⟨rfl, S6.out.stop ho hR⟩
       | ok xj =>
        obtain ⟨x13, j13⟩ := xj
        rw [hR] at hg
        obtain ⟨ao13, cp13, rfl, hl, hp, ho⟩ := hg
        have X13 := hidden (Has.of hl S6.out)
        have HR := hidden hR
        have S13 := hidden (S6.out.only ho hp)
        clear hl hp ho hR
        obtain ⟨z0, z1, z2, z3, z4, zf⟩ := S13.out.zc
        go_wp2_with fail
        refine bodyPost_ret (results_cell_row rfl _ _ w.heap.size 25 #[.int .i64 x13.kind, .int .i64 (c.pl x13.pl), .int .i64 x13.N, .string ⟨x13.S.toArray⟩, .slice ao13 x13.L.length cp13] (0, 0) _ rfl (S13.out.row _ _ _ _ _) Tryz.underlying25 rfl (by kernel_rfl)) rfl ?_
        exact S13.out.ret X13.out HR.out rfl
      | false =>
       have E6_4 := hidden (ex_skipN E6_3.out hs4)
       have z6_4 := signT_no hs4 (by decide)
       clear hs4
       cases hs5 : isS [91, 124] (tk c.ts (i)) with
       | true =>
        have hb := sign8 S1.out.ps (by omega)
        rw [signT_is hs5] at hb
        have t6 := isS_in hs5
        refine hb.mono ?_
        clear hb
        rintro e w6 ⟨rfl, hb⟩
        have S6 := hidden (S1.out.below hb)
        clear hb
        have E8 := hidden (ex_skip E6_4.out hs5)
        have HS := hidden hs5
        clear hs5
        go_wp2_with fail
        have hlt := isS_in HS.out
        have HX := hidden (m_elems (kd := 9) S6.out.ps hlt (sg := [124, 93]) (by decide) ih E8.out)
        refine (HX.out).mono ?_
        intro e w14 hg
        cases hR : R with
        | error m =>
         rw [hR] at hg
         obtain ⟨rfl, ho⟩ := hg
         exact ⟨rfl, S6.out.stop ho hR⟩
        | ok xj =>
         obtain ⟨x14, j14⟩ := xj
         rw [hR] at hg
         obtain ⟨ao14, cp14, rfl, hl, hp, ho⟩ := hg
         have X14 := hidden (Has.of hl S6.out)
         have HR := hidden hR
         have S14 := hidden (S6.out.only ho hp)
         clear hl hp ho hR
         obtain ⟨z0, z1, z2, z3, z4, zf⟩ := S14.out.zc
         go_wp2_with fail
         refine bodyPost_ret (results_cell_row rfl _ _ w.heap.size 25 #[.int .i64 x14.kind, .int .i64 (c.pl x14.pl), .int .i64 x14.N, .string ⟨x14.S.toArray⟩, .slice ao14 x14.L.length cp14] (0, 0) _ rfl (S14.out.row _ _ _ _ _) Tryz.underlying25 rfl (by kernel_rfl)) rfl ?_
         exact S14.out.ret X14.out HR.out rfl
       | false =>
        have E6_5 := hidden (ex_skipN E6_4.out hs5)
        have z6_5 := signT_no hs5 (by decide)
        clear hs5
        cases hs6 : isS [123] (tk c.ts (i)) with
        | true =>
         have hb := sign8 S1.out.ps (by omega)
         rw [signT_is hs6] at hb
         have t6 := isS_in hs6
         refine hb.mono ?_
         clear hb
         rintro e w6 ⟨rfl, hb⟩
         have S6 := hidden (S1.out.below hb)
         clear hb
         have E8 := hidden (ex_end E6_5.out)
         have HS := hidden hs6
         clear hs6
         go_wp2_with fail
         have HX := hidden (hF _ S6.out.ps HS.out)
         rw [← E8.out] at HX
         refine (HX.out).mono ?_
         intro e w15 hg
         cases hR : R with
         | error m =>
          rw [hR] at hg
          obtain ⟨rfl, ho⟩ := hg
          exact ⟨rfl, S6.out.stop ho hR⟩
         | ok xj =>
          obtain ⟨x15, j15⟩ := xj
          rw [hR] at hg
          obtain ⟨ao15, cp15, rfl, hl, hp, ho⟩ := hg
          have X15 := hidden (Has.of hl S6.out)
          have HR := hidden hR
          have S15 := hidden (S6.out.only ho hp)
          clear hl hp ho hR
          obtain ⟨z0, z1, z2, z3, z4, zf⟩ := S15.out.zc
          go_wp2_with fail
          refine bodyPost_ret (results_cell_row rfl _ _ w.heap.size 25 #[.int .i64 x15.kind, .int .i64 (c.pl x15.pl), .int .i64 x15.N, .string ⟨x15.S.toArray⟩, .slice ao15 x15.L.length cp15] (0, 0) _ rfl (S15.out.row _ _ _ _ _) Tryz.underlying25 rfl (by kernel_rfl)) rfl ?_
          exact S15.out.ret X15.out HR.out rfl
        | false =>
         have HF0 := hidden hs6
         have z6_6 := signT_no hs6 (by decide)
         clear hs6
         have hb := sign8 S1.out.ps (by omega)
         refine hb.mono ?_
         clear hb
         rintro e w6 ⟨rfl, hb⟩
         have S6 := hidden (S1.out.below hb)
         clear hb
         generalize (⟨(signT (tk c.ts (i))).toArray⟩ : ByteArray) = sv6 at *
         go_wp2_with fail
         refine (giveUp8 S6.out.ps (by omega)).mono ?_
         rintro e w' ⟨rfl, ho⟩
         exact ⟨rfl, S6.out.stop ho (fields_no hi (ex_end E6_5.out) HF0.out)⟩
end
end Go.Proofs.YthjmakjhidjbaaaGreat

/-
 Layer 8, the program's parser: more of variables and results. No condition but that they lie in memory.
-/
namespace Go.Proofs.YthjmakjhidjbaaaGreat
open Go.ChangeShapes Go.WideShapes Go.ChangeAt Go.RowKit Go.Deep
set_option linter.unusedVariables false
set_option linter.unusedSimpArgs false
set_option maxHeartbeats 2000000
set_option maxRecDepth 20000

section
variable {c : PC} {w0 w w' : World} {i j q : Nat} {x y : Tr} {ao ao' : Option Addr} {cp cp' : Nat}
/-- It is wrapped by a leaf whose parts are set then. -/
theorem Va.wrap2 (h : Va c w0 w i q x ao cp) (k : Int) (pl : Nat) (N : Int) (s : List UInt8) : Va c w0 (((fill5 w q k (c.pl pl) N ⟨s.toArray⟩ (.slice none 0 0)).setCell ⟨q, 4, none⟩ (.slice (some ⟨w.heap.size, 0, none⟩) 1 1)).alloc (.cells #[.int .i64 x.kind, .int .i64 (c.pl x.pl), .int .i64 x.N, .string ⟨x.S.toArray⟩, .slice ao x.L.length cp] 25)) i q (.mk k pl N s [x]) (some ⟨w.heap.size, 0, none⟩) 1 := by
 have hq := h.n.lt
 have hz := h.st.size
 refine ⟨((h.st.fillq h.hq _ _ _ _ _).set (a := ⟨q, 4, none⟩) h.hq _).alloc _, ((h.n.fill _ _ _ _ _).set4 _).alloc _, RL.one (blk_new_at _ (by unfold fill5; simp only [nblk_setCell])) ⟨by omega, by omega⟩ ?_, h.hq⟩
 exact ((h.rl.fill5 (fun g hg => hg.2) _ _ _ _ _).set (a := ⟨q, 4, none⟩) (fun g hg => hg.2) _).alloc _
/-- A node of one part is told. -/
theorem St.ret1 (h : St c w0 w i) (hx : Has c w0 w x.L ao) (k : Int) (pl : Nat) (N : Int) (s : List UInt8) {R : Res} (hR : R = .ok (.mk k pl N s [x], i)) {e : Ending} (he : e = .returned (.agg #[.int .i64 k, .int .i64 (c.pl pl), .int .i64 N, .string ⟨s.toArray⟩, .slice (some ⟨w.heap.size, 0, none⟩) 1 1])) : Got8 c R w0 e ((fill5 w w0.heap.size k (c.pl pl) N ⟨s.toArray⟩ (.slice (some ⟨w.heap.size, 0, none⟩) 1 1)).alloc (.cells #[.int .i64 x.kind, .int .i64 (c.pl x.pl), .int .i64 x.N, .string ⟨x.S.toArray⟩, .slice ao x.L.length cp] 25)) := by
 rw [← fill5_alloc _ _ h.size]
 exact (h.alloc _).ret (x := .mk k pl N s [x]) (ao := some ⟨w.heap.size, 0, none⟩) (cp := 1) (RL.one (blk_alloc_new _ _) (by have := h.size; omega) (hx.alloc _)) hR he
theorem St.row1 (h : St c w0 w i) (o : Obj) (a b d : Int) (s : ByteArray) (v : Value) : B5 ((fill5 w w0.heap.size a b d s v).alloc o) w0.heap.size a b d s v := (h.z.fill a b d s v).alloc o
end
/-- A type's own. -/
def tatomR (ts : List Tk) (i : Nat) : Res := exec ts (reads ts) (.test (isS [40]) (.eat fun _ => .call .ty fun x => .must [41] (.ret x)) (.token 3 fun t => .ret (.mk 201 i 0 t.S []))) i
theorem tpost_eq {ts : List Tk} {i : Nat} (hi : i ≤ ts.length) : reads ts .tpost i = (match tatomR ts i with | .error m => .error m | .ok (x, j) => reads ts (.tpostR x) j) := by
 rw [reads_eq .tpost hi]
 unfold tatomR
 cases hs : isS [40] (tk ts i) with
 | true =>
  have hlt := isS_in hs
  refine Eq.trans (ex_eat (kt := fun _ => .call .ty fun x => .must [41] (.call (.tpostR x) .ret)) (ex_yes (z := .here fun a => .token 3 fun t => .call (.tpostR (.mk 201 a 0 t.S [])) .ret) rfl hs) hlt) ?_
  have e2 : exec ts (reads ts) (.test (isS [40]) (.eat fun _ => .call .ty fun x => .must [41] (.ret x)) (.token 3 fun t => .ret (.mk 201 i 0 t.S []))) i = exec ts (reads ts) (.call .ty fun x => .must [41] (.ret x)) (i + 1) := ex_eat (kt := fun _ => .call .ty fun x => .must [41] (.ret x)) (ex_yes rfl hs) hlt
  rw [e2]
  cases hx : reads ts .ty (i + 1) with
  | error m =>
   have e3 : exec ts (reads ts) (.call .ty fun x => .must [41] (.ret x)) (i + 1) = .error m := ex_err rfl hx
   rw [e3]
   exact ex_err rfl hx
  | ok xj =>
   obtain ⟨x, j⟩ := xj
   have e3 : exec ts (reads ts) (.call .ty fun x => .must [41] (.ret x)) (i + 1) = exec ts (reads ts) (.must [41] (.ret x)) j := ex_ok rfl hx
   rw [e3]
   refine Eq.trans (ex_ok rfl hx) ?_
   cases h2 : isS [41] (tk ts j) with
   | true =>
    have e4 : exec ts (reads ts) (.must [41] (.ret x)) j = .ok (x, j + 1) := ex_must rfl h2
    rw [e4]
    exact ex_end (ex_must rfl h2)
   | false =>
    have e4 : exec ts (reads ts) (.must [41] (.ret x)) j = .error j := ex_mustN rfl h2
    rw [e4]
    exact ex_mustN rfl h2
 | false =>
  have e0 : exec ts (reads ts) (body .tpost) i = exec ts (reads ts) (.token 3 fun t => .call (.tpostR (.mk 201 i 0 t.S [])) .ret) i := ex_no (p := isS [40]) (y := .eat fun _ => .call .ty fun x => .must [41] (.call (.tpostR x) .ret)) (z := .here fun a => .token 3 fun t => .call (.tpostR (.mk 201 a 0 t.S [])) .ret) rfl hs
  rw [e0]
  have e2 : exec ts (reads ts) (.test (isS [40]) (.eat fun _ => .call .ty fun x => .must [41] (.ret x)) (.token 3 fun t => .ret (.mk 201 i 0 t.S []))) i = exec ts (reads ts) (.token 3 fun t => .ret (.mk 201 i 0 t.S [])) i := ex_no rfl hs
  rw [e2]
  cases hk : isK 3 (tk ts i) with
  | true =>
   have e4 : exec ts (reads ts) (.token 3 fun t => .ret (.mk 201 i 0 t.S [])) i = .ok (.mk 201 i 0 (tk ts i).S [], i + 1) := ex_token rfl hk (by decide)
   rw [e4]
   exact ex_end (ex_token rfl hk (by decide))
  | false =>
   have e4 : exec ts (reads ts) (.token 3 fun t => .ret (.mk 201 i 0 t.S [])) i = .error i := ex_tokenN rfl hk
   rw [e4]
   exact ex_tokenN rfl hk
/-- What is applied, where something stands behind it. -/
theorem app_start {ts : List Tk} {R : Res} {x : Tr} {j : Nat} (hj : j ≤ ts.length) (h : R = exec ts (reads ts) (.call .appR fun r => .ret (match r.L with | [] => x | y :: l => .mk 16 x.pl 0 [] (x :: y :: l))) j) (e : postAhead (tk ts j) = true) : R = exec ts (reads ts) (.call .appR fun r => (fun l => .ret (.mk 16 x.pl 0 [] l)) ([x] ++ r.L)) j := by
 have hb : reads ts .appR j = exec ts (reads ts) (.call .post fun y => .call .appR fun r => .ret (lst (y :: r.L))) j := by
  rw [reads_eq .appR hj]
  exact ex_yes (p := postAhead) (z := .ret (lst [])) rfl e
 have key : ∀ l q, reads ts .appR j = .ok (l, q) → ∃ y r, l.L = y :: r := fun l q hl => by
  rw [hb] at hl
  cases hx : reads ts .post j with
  | error m => rw [ex_err rfl hx] at hl; cases hl
  | ok xj =>
   obtain ⟨y, m⟩ := xj
   have e1 := ex_ok (R := .ok (l, q)) hl.symm hx
   cases hr : reads ts .appR m with
   | error m' => rw [ex_err rfl hr] at e1; cases e1
   | ok rj =>
    obtain ⟨r, m'⟩ := rj
    have e1' := ex_ok e1 hr
    have e2 := ex_ret e1'
    simp only [Except.ok.injEq, Prod.mk.injEq] at e2
    exact ⟨y, r.L, by rw [e2.1]; rfl⟩
 rw [h]
 simp only [exec]
 cases hl : reads ts .appR j with
 | error m => rfl
 | ok lq =>
  obtain ⟨l, q⟩ := lq
  obtain ⟨y, r, e2⟩ := key l q hl
  simp only [e2, List.singleton_append]
end Go.Proofs.YthjmakjhidjbaaaGreat
