/-
  Several small texts in one; each tells at its head what it proves, and on what condition.
-/
import Derived.Test.YthjmakjhidjbaaaGreatLibAL
import Derived.Test.YthjmakjhidjbaaaGreatP8H
import Derived.Test.YthjmakjhidjbaaaGreatLibAD

/-
 Layer 8, the program's parser: rules' methods. Condition: the rules that they are made of do as the grammar says.
-/
namespace Go.Proofs.YthjmakjhidjbaaaGreat
open Go.ChangeShapes Go.WideShapes Go.ChangeAt Go.RowKit Go.Deep
set_option linter.unusedVariables false
set_option linter.unusedSimpArgs false
set_option maxHeartbeats 2000000
set_option maxRecDepth 20000
attribute [local go_sem ↓] Go.wp_at_zero Go.wp_at_succ

section
variable {c : PC} {w : World} {i : Nat}
theorem m_prog {R : Res} (h : PS c w 0) (ri : ∀ j, j ≤ c.ts.length → Rule c 40 .item j) (hE : R = reads c.ts .items 0) : Calls Tryz.prog 28 #[.pointer (some ⟨c.b, 0, none⟩)] w fun e w' => GotK c (fun _ => 211) R w e w' := by
 have E0 := hidden hE
 have S0 := hidden (St.new h)
 have f0 := fld0
 have H1 := hidden ri
 clear h hE ri
 go_enter Tryz.func28, Tryz.ntmps28
 have E1 : Hid (R = exec c.ts (reads c.ts) (.call .items fun r => (fun l => .ret (lst l)) (([] : List ND).map ND.t ++ r.L)) 0) := items_start E0.out
 go_wp2_with fail
 have M1 := hidden (Mk.zero S0.out 211 0 0 ⟨#[]⟩)
 have zz : (w.alloc (.cells #[.int .i64 0, .int .i64 0, .int .i64 0, .string ⟨#[]⟩, .slice none 0 0] 25)).heap.size = w.heap.size + 1 := nblk_alloc _ _
 rw [zz] at M1
 go_loopg [] (c.ts.length + 1 - (0)) (fun gk wr => InM c w 0 R .items (fun l => .ret (lst l)) (w.heap.size + 1) 211 0 0 ⟨#[]⟩ gk wr)
 case atStart => exact ⟨_, _, _, _, _, by omega, by omega, (by simp), rfl, M1.out, E1.out⟩
 case round =>
  obtain ⟨k2, ao2, n2, cp2, L2, kb2, ka2, kl2, kg2, hm, hE⟩ := hrel
  have M2 := hidden hm
  have E2 := hidden hE
  clear hm hE
  go_wp2_with fail
  have hb := next_any M2.out.st.ps (by omega)
  cases hk : isK 0 (tk c.ts k2) with
  | true =>
   have z : ((tk c.ts k2).kind != 0) = false := by unfold isK at hk; simpa using hk
   have E9 := hidden (items_no (C := fun l => .ret (lst l)) (acc := L2.map ND.t) kb2 E2.out hk)
   refine hb.mono ?_
   clear hb hk
   rintro e w3 ⟨rfl, hb⟩
   have M3 := hidden (M2.out.below hb)
   clear hb
   obtain ⟨y0, y1, y2, y3, y4, yf⟩ := M3.out.n.cells
   obtain ⟨z0, z1, z2, z3, z4, zf⟩ := M3.out.st.zc
   clear yf
   go_wp2_with fail
   refine bodyPost_ret (results_cell_row rfl _ _ w.heap.size 25 #[.int .i64 211, .int .i64 0, .int .i64 0, .string ⟨#[]⟩, (.slice ao2 n2 cp2)] (0, 0) _ rfl (M3.out.st.row _ _ _ _ _) Tryz.underlying25 rfl (by kernel_rfl)) rfl ?_
   exact M3.out.retK (x := lst (L2.map ND.t)) rfl (E9.out) rfl
  | false =>
   have z : ((tk c.ts k2).kind != 0) = true := by unfold isK at hk; simpa using hk
   have E9 := hidden (items_yes (C := fun l => .ret (lst l)) (acc := L2.map ND.t) kb2 E2.out hk)
   refine hb.mono ?_
   clear hb hk
   rintro e w3 ⟨rfl, hb⟩
   have M3 := hidden (M2.out.below hb)
   clear hb
   go_wp2_with fail
   clear z
   refine region_till (S := (fun w' => w'.cell? ⟨(w.heap.size + 1), 4, none⟩ = some (.slice ao2 n2 cp2))) (kz := 7) (by kernel_rfl) M3.out.cell (fun hHeld => ?_)
   refine AnyTill.tk (i := 0) (v := ?_) hHeld ?_ ?_
   rotate_left
   ·(intro w hSw; (try dsimp only at hSw); go_simp; (try with_reducible rfl))
   (try simp only [Act.put, q4, q5, q6, q1, q2, q3])
   refine AnyTill.tk (i := 1) (v := ?_) hHeld ?_ ?_
   rotate_left
   ·(intro w hSw; (try dsimp only at hSw); go_simp; (try with_reducible rfl))
   (try simp only [Act.put, q4, q5, q6, q1, q2, q3])
   refine AnyTill.tk (i := 2) (v := ?_) hHeld ?_ ?_
   rotate_left
   ·(intro w hSw; (try dsimp only at hSw); go_simp; (try with_reducible rfl))
   (try simp only [Act.put, q4, q5, q6, q1, q2, q3])
   refine AnyTill.one (i := 3) (by kernel_rfl) rfl (fun K hK => ?_)
   (try simp only [q1, q2, q3])
   go_simp
   refine (H1.out (k2) (by omega) _ (M3.out.drew).st.ps).mono ?_
   intro e w4 hg
   cases hx : reads c.ts .item (k2) with
   | error m =>
    rw [hx] at hg
    obtain ⟨rfl, ho⟩ := hg
    exact ⟨rfl, (M3.out.drew).st.stopK ho (ex_err E9.out hx)⟩
   | ok xj =>
    obtain ⟨x4, j4⟩ := xj
    have f4 := reads_fine (ts := c.ts) .item (i := k2) (by omega)
    rw [hx] at hg f4
    obtain ⟨ao4, cp4, rfl, hl, hp, ho⟩ := hg
    have E4 := hidden (ex_ok E9.out hx)
    have b4 : j4 ≤ c.ts.length := f4.2.1
    have a4 : k2 < j4 := f4.2.2 _ _ rfl rfl
    have X4 := hidden ((M3.out.drew).fresh hl)
    have M4 := hidden ((M3.out.drew).only ho hp)
    clear hl hp ho hx f4
    refine hK.out _ _ (fun _ => M4.out.cell) ?_
    clear hHeld
    clear hK K
    (try simp only [Act.put, q4, q5, q6, q1, q2, q3])
    refine AnyTill.one (i := 4) (by kernel_rfl) rfl (fun K hK => ?_)
    (try simp only [q1, q2, q3])
    go_simp
    refine hK.out _ _ (fun _ => (M4.out.alloc _).cell) ?_
    clear hK K
    (try simp only [Act.put, q4, q5, q6, q1, q2, q3])
    refine AnyTill.one (i := 5) (by kernel_rfl) rfl (fun K hK => ?_)
    refine step_nodes rfl (.tmp 10) (.tmp 13) rfl (.slice ao2 n2 cp2) L2 [⟨x4, ao4, cp4⟩] (by simp [Act.eval]) (M4.out.alloc _).v (by have := (M4.out.alloc (.cells #[.int .i64 x4.kind, .int .i64 (c.pl x4.pl), .int .i64 x4.N, .string ⟨x4.S.toArray⟩, .slice ao4 x4.L.length cp4] 25)).n.lt; omega) w4.heap.size 1 (by simp [Act.eval]) (news_one (blk_alloc_new _ _)) (fun d hd => by rw [List.mem_singleton.1 hd]; exact X4.out.alloc _) (by simp) (by have := c.small; have := c.tm.len; simp; omega) (by have := M4.out.st.size; rw [nblk_alloc]; omega) ?_
    intro va5 vn5 vc5 w5 hv hgr
    have N5 := hidden ((M4.out.alloc _).n.grown hgr M4.out.v.ne)
    have M5 := hidden ((M4.out.alloc _).grown hgr hv)
    obtain ⟨n0, n1, n2, n3, n4, nf⟩ := N5.out.cells
    clear n0 n1 n2 n3
    have G5 := hidden ((M4.out.alloc _).gone hgr hv)
    clear hv hgr
    refine hK.out _ _ (fun _ => n4) ?_
    clear hK K
    (try simp only [Act.put, q4, q5, q6, q1, q2, q3])
    refine AnyTill.one (i := 6) (by kernel_rfl) rfl (fun K hK => ?_)
    (try simp only [q1, q2, q3])
    go_simp
    refine hK.out _ _ (fun _ => n4) ?_
    clear hK K
    (try simp only [Act.put, q4, q5, q6, q1, q2, q3])
    refine AnyTill.one (i := 7) (by kernel_rfl) rfl (fun K hK => ?_)
    (try simp only [q1, q2, q3])
    go_simp
    refine hK.out _ _ (fun h => absurd rfl h) ?_
    clear n4 nf
    clear hK K
    (try simp only [Act.put, q4, q5, q6, q1, q2, q3])
    refine AnyTill.done (by kernel_rfl) ?_ _
    (try simp only [Act.put, q4, q5, q6, q1, q2, q3])
    go_wp2_with fail
    cases hs : isS [59, 59] (tk c.ts (j4)) with
    | true =>
     have t6 := isS_in hs
     have E6 := hidden (ex_opt E4.out hs)
     refine (has_yes M5.out.st.ps [59, 59] (by decide) hs).mono ?_
     rintro e w6 ⟨rfl, hp, ho⟩
     have M6 := hidden (M5.out.only ho hp)
     clear hp ho hs
     go_wp2_with fail
     go_roundg (c.ts.length + 1 - (j4 + 1))
     case rel => exact ⟨_, _, _, _, _, by omega, by omega, by simp; omega, rfl, M6.out, by rw [List.map_append]; exact E6.out⟩
     case measure => omega
    | false =>
     have E6 := hidden (ex_optN E4.out hs)
     refine (has_no M5.out.st.ps (by omega) [59, 59] (by decide) hs).mono ?_
     rintro e w6 ⟨rfl, hb⟩
     have M6 := hidden (M5.out.below hb)
     clear hb hs
     go_wp2_with fail
     go_roundg (c.ts.length + 1 - (j4))
     case rel => exact ⟨_, _, _, _, _, by omega, by omega, by simp; omega, rfl, M6.out, by rw [List.map_append]; exact E6.out⟩
     case measure => omega
end
end Go.Proofs.YthjmakjhidjbaaaGreat

/-
 Layer 7, the document's own lex: comments. Condition: the place is within the source.
-/
namespace Go.Proofs.YthjmakjhidjbaaaGreat
open Go.ChangeShapes Go.WideShapes Go.ChangeAt Go.RowKit Go.Deep
set_option linter.unusedVariables false
set_option maxHeartbeats 1000000

theorem suf_two (s : ByteArray) {i : Nat} (h : i + 1 < s.size) : suf s i = s[i] :: s[i + 1] :: suf s (i + 2) := by rw [suf_cons s (show i < s.size by omega), suf_cons s (show i + 1 < s.size by omega)]
def endC : ByteArray := ⟨#[42, 41]⟩
def begC : ByteArray := ⟨#[40, 42]⟩
/-- What comment tells. -/
def commentR (s : ByteArray) (o : Option (List UInt8)) : Int × Bool := match o with | some r => ((s.size : Int) - r.length, true) | none => (0, false)
theorem skip_suf {s : ByteArray} {i : Nat} {r : List UInt8} (h : skipC 0 (suf s i) = some r) (hi : i ≤ s.size) : r = suf s (s.size - r.length) ∧ i < s.size - r.length ∧ r.length ≤ s.size := by
 obtain ⟨t, ht⟩ := skipC_suf _ _ h
 have hl := skipC_len _ _ h
 rw [suf_len] at hl
 have e : suf s i = s.data.toList.drop i := rfl
 refine ⟨?_, by omega, by omega⟩
 have h1 : t.length + r.length = s.size - i := by rw [← suf_len, ← ht, List.length_append]
 have : suf s (s.size - r.length) = (suf s i).drop (s.size - r.length - i) := by
  unfold suf
  rw [List.drop_drop]
  congr 1
  omega
 rw [this, ← ht, show s.size - r.length - i = t.length from by omega, List.drop_left]
end Go.Proofs.YthjmakjhidjbaaaGreat
