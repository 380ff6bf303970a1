/-
 Layer 8, the program's parser: rules' methods. Condition: the rules that they are made of do as the grammar says.
-/
import Derived.Test.YthjmakjhidjbaaaGreatLibAR
import Derived.Test.YthjmakjhidjbaaaGreatP8B2
import Derived.Deep.Cut
namespace Go.Proofs.YthjmakjhidjbaaaGreat
open Go.ChangeShapes Go.WideShapes Go.ChangeAt Go.RowKit Go.Deep
set_option linter.unusedVariables false
set_option linter.unusedSimpArgs false
set_option maxHeartbeats 2000000
set_option maxRecDepth 20000
attribute [local go_sem ↓] Go.wp_at_zero Go.wp_at_succ

section
variable {c : PC} {w : World} {i : Nat}
theorem m_bind {R : Res} (h : PS c w i) (hi : i ≤ c.ts.length) (hP : Rule c 109 .pat i) (ih : Beh c i) (hE : R = exec c.ts (reads c.ts) (body .bind) i) : Calls Tryz.prog 93 #[.pointer (some ⟨c.b, 0, none⟩)] w fun e w' => Got8 c R w e w' := by
 have E0 := hidden hE
 have S0 := hidden (St.new h)
 have HP := hidden hP
 have f1 := fld1
 clear h hP hE
 go_enter Tryz.func93, Tryz.ntmps93
 go_wp2_with fail
 obtain ⟨W0, hW⟩ : ∃ W0, w.alloc (.cells #[.int .i64 0, .int .i64 0, .int .i64 0, .string ⟨#[]⟩, .slice none 0 0] 25) = W0 := ⟨_, rfl⟩
 rw [hW] at S0 ⊢
 clear hW
 obtain ⟨m, hm⟩ : ∃ m, c.M.length - i = m := ⟨_, rfl⟩
 have HM := hidden hm
 clear hm
 apply cut9
 rotate_left
 ·intro tail
  have F := S0.out.pcell
  rw [HM.out] at F
  refine region_till (S := (fun w' => w'.cell? ⟨c.b, 0, none⟩ = some (.slice (some ⟨c.g, i * 4, none⟩) m (c.lc - i)))) (kz := 9) (by kernel_rfl) F (fun hHeld => ?_)
  refine AnyTill.tk (i := 0) (v := ?_) hHeld ?_ ?_
  rotate_left
  ·(intro w hSw; (try dsimp only at hSw); go_simp; (try with_reducible rfl))
  (try simp only [Act.put, q4, q5, q6, q1, q2, q3])
  refine AnyTill.tk (i := 2) (v := ?_) hHeld ?_ ?_
  rotate_left
  ·(intro w hSw; (try dsimp only at hSw); go_simp; (try with_reducible rfl))
  (try simp only [Act.put, q4, q5, q6, q1, q2, q3])
  refine AnyTill.tk (i := 3) (v := ?_) hHeld ?_ ?_
  rotate_left
  ·(intro w hSw; (try dsimp only at hSw); go_simp; (try with_reducible rfl))
  (try simp only [Act.put, q4, q5, q6, q1, q2, q3])
  refine AnyTill.tk (i := 4) (v := ?_) hHeld ?_ ?_
  rotate_left
  ·(intro w hSw; (try dsimp only at hSw); go_simp; (try with_reducible rfl))
  (try simp only [Act.put, q4, q5, q6, q1, q2, q3])
  refine AnyTill.tk (i := 5) (v := ?_) hHeld ?_ ?_
  rotate_left
  ·(intro w hSw; (try dsimp only at hSw); go_simp; (try with_reducible rfl))
  (try simp only [Act.put, q4, q5, q6, q1, q2, q3])
  refine AnyTill.tk (i := 6) (v := ?_) hHeld ?_ ?_
  rotate_left
  ·(intro w hSw; (try dsimp only at hSw); go_simp; (try with_reducible rfl))
  (try simp only [Act.put, q4, q5, q6, q1, q2, q3])
  refine AnyTill.two (i := 1) (j := 7) (by kernel_rfl) rfl rfl (fun K hK => ?_) (fun K hK => ?_)
  ·(try simp only [q1, q2, q3])
   go_simp
   refine (next_any (S0.out.drew).ps (by omega)).mono ?_
   rintro e w1 ⟨rfl, hb⟩
   have S1 := hidden ((S0.out.drew).below hb)
   clear hb
   have F := S1.out.pcell
   rw [HM.out] at F
   refine hK.out _ _ (fun _ => F) ?_
   clear hK K
   (try simp only [Act.put, q4, q5, q6, q1, q2, q3])
   refine AnyTill.one (i := 7) (by kernel_rfl) rfl (fun K hK => ?_)
   (try simp only [q1, q2, q3])
   go_simp
   have S2 := hidden (S1.out.alloc (.cells #[.int .i64 0, .int .i64 0, .int .i64 0, .string ⟨#[]⟩] 40))
   have VT_2 := hidden (Tc.new S1.out 0 0 0 ⟨#[]⟩)
   obtain ⟨w2, hW⟩ : ∃ W, World.alloc w1 (.cells #[.int .i64 0, .int .i64 0, .int .i64 0, .string ⟨#[]⟩] 40) = W := ⟨_, rfl⟩
   rw [hW] at S2 VT_2 ⊢
   clear hW
   have F := S2.out.pcell
   rw [HM.out] at F
   refine hK.out _ _ (fun _ => F) ?_
   clear hK K
   (try simp only [Act.put, q4, q5, q6, q1, q2, q3])
   obtain ⟨q0, q1, q2, q3, qf⟩ := VT_2.out.n.cells
   refine AnyTill.one (i := 8) (by kernel_rfl) rfl (fun K hK => ?_)
   (try simp only [q1, q2, q3])
   go_simp
   clear q0 q1 q2 q3 qf
   have T3 := VT_2.out.fill (tk c.ts i).kind (c.pl i) (tk c.ts i).N ⟨(tk c.ts i).S.toArray⟩
   have S3 := St.fill4 S2.out VT_2.out.hq (tk c.ts i).kind (c.pl i) (tk c.ts i).N ⟨(tk c.ts i).S.toArray⟩
   unfold Go.Proofs.YthjmakjhidjbaaaGreat.fill4 at T3 S3
   obtain ⟨WF, hWF⟩ : ∃ W, ((((World.setCell w2 ⟨w1.heap.size, 0, none⟩ (.int .i64 (tk c.ts i).kind)).setCell ⟨w1.heap.size, 1, none⟩ (.int .i64 (c.pl i))).setCell ⟨w1.heap.size, 2, none⟩ (.int .i64 (tk c.ts i).N)).setCell ⟨w1.heap.size, 3, none⟩ (.string ⟨(tk c.ts i).S.toArray⟩)) = W := ⟨_, rfl⟩
   rw [hWF] at T3 S3 ⊢
   clear hWF
   replace T3 := hidden T3
   replace S3 := hidden S3
   have F := S3.out.pcell
   rw [HM.out] at F
   refine hK.out _ _ (fun _ => F) ?_
   clear hK K
   (try simp only [Act.put, q4, q5, q6, q1, q2, q3])
   refine AnyTill.one (i := 9) (by kernel_rfl) rfl (fun K hK => ?_)
   (try simp only [q1, q2, q3])
   go_simp
   refine hK.out _ _ (fun h => absurd rfl h) ?_
   clear hK K
   (try simp only [Act.put, q4, q5, q6, q1, q2, q3])
   refine AnyTill.done (by kernel_rfl) ?_ _
   (try simp only [Act.put, q4, q5, q6, q1, q2, q3])
   clear F
   go_wp2_with fail
   obtain ⟨t0, t1, t2, t3, tf⟩ := T3.out.n.cells
   clear t0 t2 t3 tf
   refine region_till (S := (fun w' => w'.cell? ⟨w1.heap.size, 1, none⟩ = some (.int .i64 (c.pl i)))) (kz := 7) (by kernel_rfl) t1 (fun hHeld => ?_)
   refine AnyTill.tk (i := 0) (v := ?_) hHeld ?_ ?_
   rotate_left
   ·(intro w hSw; (try dsimp only at hSw); go_simp; (try with_reducible rfl))
   (try simp only [Act.put, q4, q5, q6, q1, q2, q3])
   refine AnyTill.tk (i := 1) (v := ?_) hHeld ?_ ?_
   rotate_left
   ·(intro w hSw; (try dsimp only at hSw); go_simp; (try with_reducible rfl))
   (try simp only [Act.put, q4, q5, q6, q1, q2, q3])
   refine AnyTill.tk (i := 2) (v := ?_) hHeld ?_ ?_
   rotate_left
   ·(intro w hSw; (try dsimp only at hSw); go_simp; (try with_reducible rfl))
   (try simp only [Act.put, q4, q5, q6, q1, q2, q3])
   refine AnyTill.two (i := 3) (j := 6) (by kernel_rfl) rfl rfl (fun K hK => ?_) (fun K hK => ?_)
   ·(try simp only [q1, q2, q3])
    go_simp
    have aA := (S3.out.drew).size
    refine (HP.out _ (S3.out.drew).ps).mono ?_
    intro e w4 hg
    cases hx : reads c.ts .pat (i) with
    | error m =>
     rw [hx] at hg
     obtain ⟨rfl, ho⟩ := hg
     exact ⟨rfl, (S3.out.drew).stop ho (ex_err E0.out hx)⟩
    | ok xj =>
     obtain ⟨x4, j4⟩ := xj
     have f4 := reads_fine (ts := c.ts) .pat (i := i) (by omega)
     rw [hx] at hg f4
     obtain ⟨ao4, cp4, rfl, hl, hp, ho⟩ := hg
     have E4 := hidden (ex_ok E0.out hx)
     have b4 : j4 ≤ c.ts.length := f4.2.1
     have a4 : i < j4 := f4.2.2 _ _ rfl rfl
     have XI := hidden (HasI.of hl)
     have X4 := hidden (Has.of hl (S3.out.drew))
     have VT_4 := hidden ((T3.out.drw).only (S3.out.drew) ho)
     have S4 := hidden ((S3.out.drew).only ho hp)
     have HBA := hidden (bind_alone hi hx)
     clear hl hp ho hx f4
     obtain ⟨t0, t1, t2, t3, tf⟩ := VT_4.out.n.cells
     clear t0 t2 t3 tf
     refine hK.out _ _ (fun _ => t1) ?_
     clear hK K
     (try simp only [Act.put, q4, q5, q6, q1, q2, q3])
     refine AnyTill.two (i := 4) (j := 6) (by kernel_rfl) rfl rfl (fun K hK => ?_) (fun K hK => ?_)
     ·(try simp only [q1, q2, q3])
      go_simp
      have rI := XI.out.le
      have S5 := hidden (S4.out.alloc (.cells #[.int .i64 x4.kind, .int .i64 (c.pl x4.pl), .int .i64 x4.N, .string ⟨x4.S.toArray⟩, .slice ao4 x4.L.length cp4] 25))
      have VT_5 := hidden (VT_4.out.alloc (.cells #[.int .i64 x4.kind, .int .i64 (c.pl x4.pl), .int .i64 x4.N, .string ⟨x4.S.toArray⟩, .slice ao4 x4.L.length cp4] 25))
      have XI_5 := hidden (XI.out.alloc (.cells #[.int .i64 x4.kind, .int .i64 (c.pl x4.pl), .int .i64 x4.N, .string ⟨x4.S.toArray⟩, .slice ao4 x4.L.length cp4] 25))
      have RW_5 := hidden (Rw.new S4.out #[.int .i64 x4.kind, .int .i64 (c.pl x4.pl), .int .i64 x4.N, .string ⟨x4.S.toArray⟩, .slice ao4 x4.L.length cp4])
      obtain ⟨w5, hW⟩ : ∃ W, World.alloc w4 (.cells #[.int .i64 x4.kind, .int .i64 (c.pl x4.pl), .int .i64 x4.N, .string ⟨x4.S.toArray⟩, .slice ao4 x4.L.length cp4] 25) = W := ⟨_, rfl⟩
      rw [hW] at S5 VT_5 XI_5 RW_5 ⊢
      clear hW
      obtain ⟨t0, t1, t2, t3, tf⟩ := VT_5.out.n.cells
      clear t0 t2 t3 tf
      refine hK.out _ _ (fun _ => t1) ?_
      clear hK K
      (try simp only [Act.put, q4, q5, q6, q1, q2, q3])
      refine AnyTill.take (i := 5) (v := ?_) rfl (by kernel_rfl) (by kernel_rfl) (by kernel_rfl) (by kernel_rfl) (fun _ _ _ h => h) (Or.inl ⟨by rfl, ?_⟩) t1 ?_
      rotate_left
      ·(intro w hSw; (try dsimp only at hSw); go_simp; (try with_reducible rfl))
      (try simp only [Act.put, q4, q5, q6, q1, q2, q3])
      refine AnyTill.one (i := 6) (by kernel_rfl) rfl (fun K hK => ?_)
      (try simp only [q1, q2, q3])
      go_simp
      have tq : w1.heap.size < w5.heap.size := lt_of_some VT_5.out.n
      have qB := XI_5.out.le
      have rq := lt_of_some RW_5.out.blk
      have S6 := hidden (S5.out.alloc (.cells #[.int .i64 0, .int .i64 0, .int .i64 0, .string ⟨#[]⟩, .slice none 0 0] 25))
      have VT_6 := hidden (VT_5.out.alloc (.cells #[.int .i64 0, .int .i64 0, .int .i64 0, .string ⟨#[]⟩, .slice none 0 0] 25))
      have XI_6 := hidden (XI_5.out.alloc (.cells #[.int .i64 0, .int .i64 0, .int .i64 0, .string ⟨#[]⟩, .slice none 0 0] 25))
      have RW_6 := hidden (RW_5.out.alloc (.cells #[.int .i64 0, .int .i64 0, .int .i64 0, .string ⟨#[]⟩, .slice none 0 0] 25))
      have VQ_6 := hidden (Lc.new S5.out 0 0 0 ⟨#[]⟩ (.slice none 0 0))
      obtain ⟨w6, hW⟩ : ∃ W, World.alloc w5 (.cells #[.int .i64 0, .int .i64 0, .int .i64 0, .string ⟨#[]⟩, .slice none 0 0] 25) = W := ⟨_, rfl⟩
      rw [hW] at S6 VT_6 XI_6 RW_6 VQ_6 ⊢
      clear hW
      obtain ⟨t0, t1, t2, t3, tf⟩ := VT_6.out.n.cells
      clear t0 t2 t3 tf
      refine hK.out _ _ (fun _ => t1) ?_
      clear hK K
      (try simp only [Act.put, q4, q5, q6, q1, q2, q3])
      obtain ⟨q0, q1, q2, q3, q4, qf⟩ := VQ_6.out.n.cells
      refine AnyTill.one (i := 7) (by kernel_rfl) rfl (fun K hK => ?_)
      (try simp only [q1, q2, q3])
      go_simp
      refine hK.out _ _ (fun h => absurd rfl h) ?_
      clear hK K
      (try simp only [Act.put, q4, q5, q6, q1, q2, q3])
      refine AnyTill.done (by kernel_rfl) ?_ _
      (try simp only [Act.put, q4, q5, q6, q1, q2, q3])
      clear t1 q0 q1 q2 q3 q4 qf
      have M7 := Mk.firstAt S6.out VQ_6.out RW_6.out XI_6.out (by omega) (by omega) (by omega) (by omega) 20 (c.pl i) 0 ⟨#[]⟩
      have T7 := VT_6.out.fillq (b := w5.heap.size) (by omega) 20 (c.pl i) 0 ⟨#[]⟩ (.slice (some ⟨w4.heap.size, 0, none⟩) 1 1)
      unfold Go.Proofs.YthjmakjhidjbaaaGreat.fill5 at M7 T7
      obtain ⟨WG, hWG⟩ : ∃ W, (((((World.setCell w6 ⟨w5.heap.size, 0, none⟩ (.int .i64 20)).setCell ⟨w5.heap.size, 1, none⟩ (.int .i64 (c.pl i))).setCell ⟨w5.heap.size, 2, none⟩ (.int .i64 0)).setCell ⟨w5.heap.size, 3, none⟩ (.string ⟨#[]⟩)).setCell ⟨w5.heap.size, 4, none⟩ (.slice (some ⟨w4.heap.size, 0, none⟩) 1 1)) = W := ⟨_, rfl⟩
      rw [hWG] at M7 T7 ⊢
      clear hWG
      replace M7 := hidden M7
      replace T7 := hidden T7
      have E5 : Hid (R = exec c.ts (reads c.ts) (bindR i x4 j4) (j4)) := E4
      generalize w5.heap.size = nb at M7 T7 ⊢
      generalize w4.heap.size = rb at M7 ⊢
      generalize w1.heap.size = tb at T7 ⊢
      (try clear VQ_6) <;> (try clear RW_6) <;> (try clear XI_6) <;> (try clear S6) <;> (try clear RW_5) <;> (try clear XI_5) <;> (try clear S5) <;> (try clear S4) <;> (try clear X4) <;> (try clear XI) <;> (try clear E4) <;> (try clear f4) <;> (try clear S3) <;> (try clear S2) <;> (try clear S1)
      go_upto_region 3 with fail
      rename_i K9 hK9
      revert hK9; revert K9; revert E5; revert T7; revert M7; revert HBA; revert a4; revert b4; revert tb; revert rb; revert nb; revert cp4; revert ao4; revert WG; revert j4; revert x4
      exact tail.out
     ·(try simp only [q1, q2, q3])
      go_simp
      have tq : w1.heap.size < w4.heap.size := lt_of_some VT_4.out.n
      have qB := XI.out.le
      have S8 := hidden (S4.out.alloc (.cells #[.int .i64 0, .int .i64 0, .int .i64 0, .string ⟨#[]⟩, .slice none 0 0] 25))
      have VT_8 := hidden (VT_4.out.alloc (.cells #[.int .i64 0, .int .i64 0, .int .i64 0, .string ⟨#[]⟩, .slice none 0 0] 25))
      have XI_8 := hidden (XI.out.alloc (.cells #[.int .i64 0, .int .i64 0, .int .i64 0, .string ⟨#[]⟩, .slice none 0 0] 25))
      have VQ_8 := hidden (Lc.new S4.out 0 0 0 ⟨#[]⟩ (.slice none 0 0))
      obtain ⟨w8, hW⟩ : ∃ W, World.alloc w4 (.cells #[.int .i64 0, .int .i64 0, .int .i64 0, .string ⟨#[]⟩, .slice none 0 0] 25) = W := ⟨_, rfl⟩
      rw [hW] at S8 VT_8 XI_8 VQ_8 ⊢
      clear hW
      obtain ⟨t0, t1, t2, t3, tf⟩ := VT_8.out.n.cells
      clear t0 t2 t3 tf
      refine hK.out _ _ (fun _ => t1) ?_
      clear hK K
      (try simp only [Act.put, q4, q5, q6, q1, q2, q3])
      refine AnyTill.one (i := 4) (by kernel_rfl) rfl (fun K hK => ?_)
      (try simp only [q1, q2, q3])
      go_simp
      have rI := XI_8.out.le
      have rq := VQ_8.out.n.lt
      have S9 := hidden (S8.out.alloc (.cells #[.int .i64 x4.kind, .int .i64 (c.pl x4.pl), .int .i64 x4.N, .string ⟨x4.S.toArray⟩, .slice ao4 x4.L.length cp4] 25))
      have VT_9 := hidden (VT_8.out.alloc (.cells #[.int .i64 x4.kind, .int .i64 (c.pl x4.pl), .int .i64 x4.N, .string ⟨x4.S.toArray⟩, .slice ao4 x4.L.length cp4] 25))
      have XI_9 := hidden (XI_8.out.alloc (.cells #[.int .i64 x4.kind, .int .i64 (c.pl x4.pl), .int .i64 x4.N, .string ⟨x4.S.toArray⟩, .slice ao4 x4.L.length cp4] 25))
      have VQ_9 := hidden (VQ_8.out.alloc (.cells #[.int .i64 x4.kind, .int .i64 (c.pl x4.pl), .int .i64 x4.N, .string ⟨x4.S.toArray⟩, .slice ao4 x4.L.length cp4] 25))
      have RW_9 := hidden (Rw.new S8.out #[.int .i64 x4.kind, .int .i64 (c.pl x4.pl), .int .i64 x4.N, .string ⟨x4.S.toArray⟩, .slice ao4 x4.L.length cp4])
      obtain ⟨w9, hW⟩ : ∃ W, World.alloc w8 (.cells #[.int .i64 x4.kind, .int .i64 (c.pl x4.pl), .int .i64 x4.N, .string ⟨x4.S.toArray⟩, .slice ao4 x4.L.length cp4] 25) = W := ⟨_, rfl⟩
      rw [hW] at S9 VT_9 XI_9 VQ_9 RW_9 ⊢
      clear hW
      obtain ⟨t0, t1, t2, t3, tf⟩ := VT_9.out.n.cells
      clear t0 t2 t3 tf
      refine hK.out _ _ (fun _ => t1) ?_
      clear hK K
      (try simp only [Act.put, q4, q5, q6, q1, q2, q3])
      refine AnyTill.take (i := 5) (v := ?_) rfl (by kernel_rfl) (by kernel_rfl) (by kernel_rfl) (by kernel_rfl) (fun _ _ _ h => h) (Or.inl ⟨by rfl, ?_⟩) t1 ?_
      rotate_left
      ·(intro w hSw; (try dsimp only at hSw); go_simp; (try with_reducible rfl))
      (try simp only [Act.put, q4, q5, q6, q1, q2, q3])
      obtain ⟨q0, q1, q2, q3, q4, qf⟩ := VQ_9.out.n.cells
      refine AnyTill.one (i := 7) (by kernel_rfl) rfl (fun K hK => ?_)
      (try simp only [q1, q2, q3])
      go_simp
      refine hK.out _ _ (fun h => absurd rfl h) ?_
      clear hK K
      (try simp only [Act.put, q4, q5, q6, q1, q2, q3])
      refine AnyTill.done (by kernel_rfl) ?_ _
      (try simp only [Act.put, q4, q5, q6, q1, q2, q3])
      clear t1 q0 q1 q2 q3 q4 qf
      have M10 := Mk.firstAt S9.out VQ_9.out RW_9.out XI_9.out (by omega) (by omega) (by omega) (by omega) 20 (c.pl i) 0 ⟨#[]⟩
      have T10 := VT_9.out.fillq (b := w4.heap.size) (by omega) 20 (c.pl i) 0 ⟨#[]⟩ (.slice (some ⟨w8.heap.size, 0, none⟩) 1 1)
      unfold Go.Proofs.YthjmakjhidjbaaaGreat.fill5 at M10 T10
      obtain ⟨WG, hWG⟩ : ∃ W, (((((World.setCell w9 ⟨w4.heap.size, 0, none⟩ (.int .i64 20)).setCell ⟨w4.heap.size, 1, none⟩ (.int .i64 (c.pl i))).setCell ⟨w4.heap.size, 2, none⟩ (.int .i64 0)).setCell ⟨w4.heap.size, 3, none⟩ (.string ⟨#[]⟩)).setCell ⟨w4.heap.size, 4, none⟩ (.slice (some ⟨w8.heap.size, 0, none⟩) 1 1)) = W := ⟨_, rfl⟩
      rw [hWG] at M10 T10 ⊢
      clear hWG
      replace M10 := hidden M10
      replace T10 := hidden T10
      have E5 : Hid (R = exec c.ts (reads c.ts) (bindR i x4 j4) (j4)) := E4
      generalize w4.heap.size = nb at M10 T10 ⊢
      generalize w8.heap.size = rb at M10 ⊢
      generalize w1.heap.size = tb at T10 ⊢
      (try clear RW_9) <;> (try clear VQ_9) <;> (try clear XI_9) <;> (try clear S9) <;> (try clear VQ_8) <;> (try clear XI_8) <;> (try clear S8) <;> (try clear VQ_6) <;> (try clear RW_6) <;> (try clear XI_6) <;> (try clear S6) <;> (try clear RW_5) <;> (try clear XI_5) <;> (try clear S5) <;> (try clear S4) <;> (try clear X4) <;> (try clear XI) <;> (try clear E4) <;> (try clear f4) <;> (try clear S3) <;> (try clear S2) <;> (try clear S1)
      go_upto_region 3 with fail
      rename_i K9 hK9
      revert hK9; revert K9; revert E5; revert T10; revert M10; revert HBA; revert a4; revert b4; revert tb; revert rb; revert nb; revert cp4; revert ao4; revert WG; revert j4; revert x4
      exact tail.out
   ·(try simp only [q1, q2, q3])
    go_simp
    have tq : w1.heap.size < WF.heap.size := lt_of_some (T3.out.drw).n
    have S11 := hidden ((S3.out.alloc (.cells #[.int .i64 0, .int .i64 0, .int .i64 0, .string ⟨#[]⟩, .slice none 0 0] 25)).drew)
    have VT_11 := hidden ((T3.out.alloc (.cells #[.int .i64 0, .int .i64 0, .int .i64 0, .string ⟨#[]⟩, .slice none 0 0] 25)).drw)
    have VQ_11 := hidden ((Lc.new S3.out 0 0 0 ⟨#[]⟩ (.slice none 0 0)).drw)
    obtain ⟨w11, hW⟩ : ∃ W, (World.alloc WF (.cells #[.int .i64 0, .int .i64 0, .int .i64 0, .string ⟨#[]⟩, .slice none 0 0] 25)).drew = W := ⟨_, rfl⟩
    rw [hW] at S11 VT_11 VQ_11 ⊢
    clear hW
    obtain ⟨t0, t1, t2, t3, tf⟩ := VT_11.out.n.cells
    clear t0 t2 t3 tf
    refine hK.out _ _ (fun _ => t1) ?_
    clear hK K
    (try simp only [Act.put, q4, q5, q6, q1, q2, q3])
    refine AnyTill.one (i := 3) (by kernel_rfl) rfl (fun K hK => ?_)
    (try simp only [q1, q2, q3])
    go_simp
    have qA := VQ_11.out.n.lt
    have aA := S11.out.size
    refine (HP.out _ S11.out.ps).mono ?_
    intro e w12 hg
    cases hx : reads c.ts .pat (i) with
    | error m =>
     rw [hx] at hg
     obtain ⟨rfl, ho⟩ := hg
     exact ⟨rfl, S11.out.stop ho (ex_err E0.out hx)⟩
    | ok xj =>
     obtain ⟨x12, j12⟩ := xj
     have f12 := reads_fine (ts := c.ts) .pat (i := i) (by omega)
     rw [hx] at hg f12
     obtain ⟨ao12, cp12, rfl, hl, hp, ho⟩ := hg
     have E12 := hidden (ex_ok E0.out hx)
     have b12 : j12 ≤ c.ts.length := f12.2.1
     have a12 : i < j12 := f12.2.2 _ _ rfl rfl
     have XI := hidden (HasI.of hl)
     have X12 := hidden (Has.of hl S11.out)
     have VT_12 := hidden (VT_11.out.only S11.out ho)
     have VQ_12 := hidden (VQ_11.out.only S11.out ho)
     have S12 := hidden (S11.out.only ho hp)
     have HBA := hidden (bind_alone hi hx)
     clear hl hp ho hx f12
     obtain ⟨t0, t1, t2, t3, tf⟩ := VT_12.out.n.cells
     clear t0 t2 t3 tf
     refine hK.out _ _ (fun _ => t1) ?_
     clear hK K
     (try simp only [Act.put, q4, q5, q6, q1, q2, q3])
     refine AnyTill.one (i := 4) (by kernel_rfl) rfl (fun K hK => ?_)
     (try simp only [q1, q2, q3])
     go_simp
     have rI := XI.out.le
     have rq := VQ_12.out.n.lt
     have S13 := hidden (S12.out.alloc (.cells #[.int .i64 x12.kind, .int .i64 (c.pl x12.pl), .int .i64 x12.N, .string ⟨x12.S.toArray⟩, .slice ao12 x12.L.length cp12] 25))
     have VT_13 := hidden (VT_12.out.alloc (.cells #[.int .i64 x12.kind, .int .i64 (c.pl x12.pl), .int .i64 x12.N, .string ⟨x12.S.toArray⟩, .slice ao12 x12.L.length cp12] 25))
     have VQ_13 := hidden (VQ_12.out.alloc (.cells #[.int .i64 x12.kind, .int .i64 (c.pl x12.pl), .int .i64 x12.N, .string ⟨x12.S.toArray⟩, .slice ao12 x12.L.length cp12] 25))
     have XI_13 := hidden (XI.out.alloc (.cells #[.int .i64 x12.kind, .int .i64 (c.pl x12.pl), .int .i64 x12.N, .string ⟨x12.S.toArray⟩, .slice ao12 x12.L.length cp12] 25))
     have RW_13 := hidden (Rw.new S12.out #[.int .i64 x12.kind, .int .i64 (c.pl x12.pl), .int .i64 x12.N, .string ⟨x12.S.toArray⟩, .slice ao12 x12.L.length cp12])
     obtain ⟨w13, hW⟩ : ∃ W, World.alloc w12 (.cells #[.int .i64 x12.kind, .int .i64 (c.pl x12.pl), .int .i64 x12.N, .string ⟨x12.S.toArray⟩, .slice ao12 x12.L.length cp12] 25) = W := ⟨_, rfl⟩
     rw [hW] at S13 VT_13 VQ_13 XI_13 RW_13 ⊢
     clear hW
     obtain ⟨t0, t1, t2, t3, tf⟩ := VT_13.out.n.cells
     clear t0 t2 t3 tf
     refine hK.out _ _ (fun _ => t1) ?_
     clear hK K
     (try simp only [Act.put, q4, q5, q6, q1, q2, q3])
     refine AnyTill.take (i := 5) (v := ?_) rfl (by kernel_rfl) (by kernel_rfl) (by kernel_rfl) (by kernel_rfl) (fun _ _ _ h => h) (Or.inl ⟨by rfl, ?_⟩) t1 ?_
     rotate_left
     ·(intro w hSw; (try dsimp only at hSw); go_simp; (try with_reducible rfl))
     (try simp only [Act.put, q4, q5, q6, q1, q2, q3])
     obtain ⟨q0, q1, q2, q3, q4, qf⟩ := VQ_13.out.n.cells
     refine AnyTill.one (i := 7) (by kernel_rfl) rfl (fun K hK => ?_)
     (try simp only [q1, q2, q3])
     go_simp
     refine hK.out _ _ (fun h => absurd rfl h) ?_
     clear hK K
     (try simp only [Act.put, q4, q5, q6, q1, q2, q3])
     refine AnyTill.done (by kernel_rfl) ?_ _
     (try simp only [Act.put, q4, q5, q6, q1, q2, q3])
     clear t1 q0 q1 q2 q3 q4 qf
     have M14 := Mk.firstAt S13.out VQ_13.out RW_13.out XI_13.out (by omega) (by omega) (by omega) (by omega) 20 (c.pl i) 0 ⟨#[]⟩
     have T14 := VT_13.out.fillq (b := WF.heap.size) (by omega) 20 (c.pl i) 0 ⟨#[]⟩ (.slice (some ⟨w12.heap.size, 0, none⟩) 1 1)
     unfold Go.Proofs.YthjmakjhidjbaaaGreat.fill5 at M14 T14
     obtain ⟨WG, hWG⟩ : ∃ W, (((((World.setCell w13 ⟨WF.heap.size, 0, none⟩ (.int .i64 20)).setCell ⟨WF.heap.size, 1, none⟩ (.int .i64 (c.pl i))).setCell ⟨WF.heap.size, 2, none⟩ (.int .i64 0)).setCell ⟨WF.heap.size, 3, none⟩ (.string ⟨#[]⟩)).setCell ⟨WF.heap.size, 4, none⟩ (.slice (some ⟨w12.heap.size, 0, none⟩) 1 1)) = W := ⟨_, rfl⟩
     rw [hWG] at M14 T14 ⊢
     clear hWG
     replace M14 := hidden M14
     replace T14 := hidden T14
     have E5 : Hid (R = exec c.ts (reads c.ts) (bindR i x12 j12) (j12)) := E12
     generalize WF.heap.size = nb at M14 T14 ⊢
     generalize w12.heap.size = rb at M14 ⊢
     generalize w1.heap.size = tb at T14 ⊢
     (try clear RW_13) <;> (try clear XI_13) <;> (try clear VQ_13) <;> (try clear S13) <;> (try clear S12) <;> (try clear VQ_12) <;> (try clear X12) <;> (try clear E12) <;> (try clear f12) <;> (try clear VQ_11) <;> (try clear S11) <;> (try clear RW_9) <;> (try clear VQ_9) <;> (try clear XI_9) <;> (try clear S9) <;> (try clear VQ_8) <;> (try clear XI_8) <;> (try clear S8) <;> (try clear VQ_6) <;> (try clear RW_6) <;> (try clear XI_6) <;> (try clear S6) <;> (try clear RW_5) <;> (try clear XI_5) <;> (try clear S5) <;> (try clear S4) <;> (try clear X4) <;> (try clear XI) <;> (try clear E4) <;> (try clear f4) <;> (try clear S3) <;> (try clear S2) <;> (try clear S1)
     go_upto_region 3 with fail
     rename_i K9 hK9
     revert hK9; revert K9; revert E5; revert T14; revert M14; revert HBA; revert a12; revert b12; revert tb; revert rb; revert nb; revert cp12; revert ao12; revert WG; revert j12; revert x12
     exact tail.out
  ·(try simp only [q1, q2, q3])
   go_simp
   have S15 := hidden ((S0.out.alloc (.cells #[.int .i64 0, .int .i64 0, .int .i64 0, .string ⟨#[]⟩] 40)).drew)
   have VT_15 := hidden ((Tc.new S0.out 0 0 0 ⟨#[]⟩).drw)
   obtain ⟨w15, hW⟩ : ∃ W, (World.alloc W0 (.cells #[.int .i64 0, .int .i64 0, .int .i64 0, .string ⟨#[]⟩] 40)).drew = W := ⟨_, rfl⟩
   rw [hW] at S15 VT_15 ⊢
   clear hW
   have F := S15.out.pcell
   rw [HM.out] at F
   refine hK.out _ _ (fun _ => F) ?_
   clear hK K
   (try simp only [Act.put, q4, q5, q6, q1, q2, q3])
   refine AnyTill.one (i := 1) (by kernel_rfl) rfl (fun K hK => ?_)
   (try simp only [q1, q2, q3])
   go_simp
   refine (next_any S15.out.ps (by omega)).mono ?_
   rintro e w16 ⟨rfl, hb⟩
   have VT_16 := hidden (VT_15.out.below hb)
   have S16 := hidden (S15.out.below hb)
   clear hb
   have F := S16.out.pcell
   rw [HM.out] at F
   refine hK.out _ _ (fun _ => F) ?_
   clear hK K
   (try simp only [Act.put, q4, q5, q6, q1, q2, q3])
   obtain ⟨q0, q1, q2, q3, qf⟩ := VT_16.out.n.cells
   refine AnyTill.one (i := 8) (by kernel_rfl) rfl (fun K hK => ?_)
   (try simp only [q1, q2, q3])
   go_simp
   clear q0 q1 q2 q3 qf
   have T17 := VT_16.out.fill (tk c.ts i).kind (c.pl i) (tk c.ts i).N ⟨(tk c.ts i).S.toArray⟩
   have S17 := St.fill4 S16.out VT_16.out.hq (tk c.ts i).kind (c.pl i) (tk c.ts i).N ⟨(tk c.ts i).S.toArray⟩
   unfold Go.Proofs.YthjmakjhidjbaaaGreat.fill4 at T17 S17
   obtain ⟨WF, hWF⟩ : ∃ W, ((((World.setCell w16 ⟨W0.heap.size, 0, none⟩ (.int .i64 (tk c.ts i).kind)).setCell ⟨W0.heap.size, 1, none⟩ (.int .i64 (c.pl i))).setCell ⟨W0.heap.size, 2, none⟩ (.int .i64 (tk c.ts i).N)).setCell ⟨W0.heap.size, 3, none⟩ (.string ⟨(tk c.ts i).S.toArray⟩)) = W := ⟨_, rfl⟩
   rw [hWF] at T17 S17 ⊢
   clear hWF
   replace T17 := hidden T17
   replace S17 := hidden S17
   have F := S17.out.pcell
   rw [HM.out] at F
   refine hK.out _ _ (fun _ => F) ?_
   clear hK K
   (try simp only [Act.put, q4, q5, q6, q1, q2, q3])
   refine AnyTill.one (i := 9) (by kernel_rfl) rfl (fun K hK => ?_)
   (try simp only [q1, q2, q3])
   go_simp
   refine hK.out _ _ (fun h => absurd rfl h) ?_
   clear hK K
   (try simp only [Act.put, q4, q5, q6, q1, q2, q3])
   refine AnyTill.done (by kernel_rfl) ?_ _
   (try simp only [Act.put, q4, q5, q6, q1, q2, q3])
   clear F
   go_wp2_with fail
   obtain ⟨t0, t1, t2, t3, tf⟩ := T17.out.n.cells
   clear t0 t2 t3 tf
   refine region_till (S := (fun w' => w'.cell? ⟨W0.heap.size, 1, none⟩ = some (.int .i64 (c.pl i)))) (kz := 7) (by kernel_rfl) t1 (fun hHeld => ?_)
   refine AnyTill.tk (i := 0) (v := ?_) hHeld ?_ ?_
   rotate_left
   ·(intro w hSw; (try dsimp only at hSw); go_simp; (try with_reducible rfl))
   (try simp only [Act.put, q4, q5, q6, q1, q2, q3])
   refine AnyTill.tk (i := 1) (v := ?_) hHeld ?_ ?_
   rotate_left
   ·(intro w hSw; (try dsimp only at hSw); go_simp; (try with_reducible rfl))
   (try simp only [Act.put, q4, q5, q6, q1, q2, q3])
   refine AnyTill.tk (i := 2) (v := ?_) hHeld ?_ ?_
   rotate_left
   ·(intro w hSw; (try dsimp only at hSw); go_simp; (try with_reducible rfl))
   (try simp only [Act.put, q4, q5, q6, q1, q2, q3])
   refine AnyTill.two (i := 3) (j := 6) (by kernel_rfl) rfl rfl (fun K hK => ?_) (fun K hK => ?_)
   ·(try simp only [q1, q2, q3])
    go_simp
    have aA := (S17.out.drew).size
    refine (HP.out _ (S17.out.drew).ps).mono ?_
    intro e w18 hg
    cases hx : reads c.ts .pat (i) with
    | error m =>
     rw [hx] at hg
     obtain ⟨rfl, ho⟩ := hg
     exact ⟨rfl, (S17.out.drew).stop ho (ex_err E0.out hx)⟩
    | ok xj =>
     obtain ⟨x18, j18⟩ := xj
     have f18 := reads_fine (ts := c.ts) .pat (i := i) (by omega)
     rw [hx] at hg f18
     obtain ⟨ao18, cp18, rfl, hl, hp, ho⟩ := hg
     have E18 := hidden (ex_ok E0.out hx)
     have b18 : j18 ≤ c.ts.length := f18.2.1
     have a18 : i < j18 := f18.2.2 _ _ rfl rfl
     have XI := hidden (HasI.of hl)
     have X18 := hidden (Has.of hl (S17.out.drew))
     have VT_18 := hidden ((T17.out.drw).only (S17.out.drew) ho)
     have S18 := hidden ((S17.out.drew).only ho hp)
     have HBA := hidden (bind_alone hi hx)
     clear hl hp ho hx f18
     obtain ⟨t0, t1, t2, t3, tf⟩ := VT_18.out.n.cells
     clear t0 t2 t3 tf
     refine hK.out _ _ (fun _ => t1) ?_
     clear hK K
     (try simp only [Act.put, q4, q5, q6, q1, q2, q3])
     refine AnyTill.two (i := 4) (j := 6) (by kernel_rfl) rfl rfl (fun K hK => ?_) (fun K hK => ?_)
     ·(try simp only [q1, q2, q3])
      go_simp
      have rI := XI.out.le
      have S19 := hidden (S18.out.alloc (.cells #[.int .i64 x18.kind, .int .i64 (c.pl x18.pl), .int .i64 x18.N, .string ⟨x18.S.toArray⟩, .slice ao18 x18.L.length cp18] 25))
      have VT_19 := hidden (VT_18.out.alloc (.cells #[.int .i64 x18.kind, .int .i64 (c.pl x18.pl), .int .i64 x18.N, .string ⟨x18.S.toArray⟩, .slice ao18 x18.L.length cp18] 25))
      have XI_19 := hidden (XI.out.alloc (.cells #[.int .i64 x18.kind, .int .i64 (c.pl x18.pl), .int .i64 x18.N, .string ⟨x18.S.toArray⟩, .slice ao18 x18.L.length cp18] 25))
      have RW_19 := hidden (Rw.new S18.out #[.int .i64 x18.kind, .int .i64 (c.pl x18.pl), .int .i64 x18.N, .string ⟨x18.S.toArray⟩, .slice ao18 x18.L.length cp18])
      obtain ⟨w19, hW⟩ : ∃ W, World.alloc w18 (.cells #[.int .i64 x18.kind, .int .i64 (c.pl x18.pl), .int .i64 x18.N, .string ⟨x18.S.toArray⟩, .slice ao18 x18.L.length cp18] 25) = W := ⟨_, rfl⟩
      rw [hW] at S19 VT_19 XI_19 RW_19 ⊢
      clear hW
      obtain ⟨t0, t1, t2, t3, tf⟩ := VT_19.out.n.cells
      clear t0 t2 t3 tf
      refine hK.out _ _ (fun _ => t1) ?_
      clear hK K
      (try simp only [Act.put, q4, q5, q6, q1, q2, q3])
      refine AnyTill.take (i := 5) (v := ?_) rfl (by kernel_rfl) (by kernel_rfl) (by kernel_rfl) (by kernel_rfl) (fun _ _ _ h => h) (Or.inl ⟨by rfl, ?_⟩) t1 ?_
      rotate_left
      ·(intro w hSw; (try dsimp only at hSw); go_simp; (try with_reducible rfl))
      (try simp only [Act.put, q4, q5, q6, q1, q2, q3])
      refine AnyTill.one (i := 6) (by kernel_rfl) rfl (fun K hK => ?_)
      (try simp only [q1, q2, q3])
      go_simp
      have tq : W0.heap.size < w19.heap.size := lt_of_some VT_19.out.n
      have qB := XI_19.out.le
      have rq := lt_of_some RW_19.out.blk
      have S20 := hidden (S19.out.alloc (.cells #[.int .i64 0, .int .i64 0, .int .i64 0, .string ⟨#[]⟩, .slice none 0 0] 25))
      have VT_20 := hidden (VT_19.out.alloc (.cells #[.int .i64 0, .int .i64 0, .int .i64 0, .string ⟨#[]⟩, .slice none 0 0] 25))
      have XI_20 := hidden (XI_19.out.alloc (.cells #[.int .i64 0, .int .i64 0, .int .i64 0, .string ⟨#[]⟩, .slice none 0 0] 25))
      have RW_20 := hidden (RW_19.out.alloc (.cells #[.int .i64 0, .int .i64 0, .int .i64 0, .string ⟨#[]⟩, .slice none 0 0] 25))
      have VQ_20 := hidden (Lc.new S19.out 0 0 0 ⟨#[]⟩ (.slice none 0 0))
      obtain ⟨w20, hW⟩ : ∃ W, World.alloc w19 (.cells #[.int .i64 0, .int .i64 0, .int .i64 0, .string ⟨#[]⟩, .slice none 0 0] 25) = W := ⟨_, rfl⟩
      rw [hW] at S20 VT_20 XI_20 RW_20 VQ_20 ⊢
      clear hW
      obtain ⟨t0, t1, t2, t3, tf⟩ := VT_20.out.n.cells
      clear t0 t2 t3 tf
      refine hK.out _ _ (fun _ => t1) ?_
      clear hK K
      (try simp only [Act.put, q4, q5, q6, q1, q2, q3])
      obtain ⟨q0, q1, q2, q3, q4, qf⟩ := VQ_20.out.n.cells
      refine AnyTill.one (i := 7) (by kernel_rfl) rfl (fun K hK => ?_)
      (try simp only [q1, q2, q3])
      go_simp
      refine hK.out _ _ (fun h => absurd rfl h) ?_
      clear hK K
      (try simp only [Act.put, q4, q5, q6, q1, q2, q3])
      refine AnyTill.done (by kernel_rfl) ?_ _
      (try simp only [Act.put, q4, q5, q6, q1, q2, q3])
      clear t1 q0 q1 q2 q3 q4 qf
      have M21 := Mk.firstAt S20.out VQ_20.out RW_20.out XI_20.out (by omega) (by omega) (by omega) (by omega) 20 (c.pl i) 0 ⟨#[]⟩
      have T21 := VT_20.out.fillq (b := w19.heap.size) (by omega) 20 (c.pl i) 0 ⟨#[]⟩ (.slice (some ⟨w18.heap.size, 0, none⟩) 1 1)
      unfold Go.Proofs.YthjmakjhidjbaaaGreat.fill5 at M21 T21
      obtain ⟨WG, hWG⟩ : ∃ W, (((((World.setCell w20 ⟨w19.heap.size, 0, none⟩ (.int .i64 20)).setCell ⟨w19.heap.size, 1, none⟩ (.int .i64 (c.pl i))).setCell ⟨w19.heap.size, 2, none⟩ (.int .i64 0)).setCell ⟨w19.heap.size, 3, none⟩ (.string ⟨#[]⟩)).setCell ⟨w19.heap.size, 4, none⟩ (.slice (some ⟨w18.heap.size, 0, none⟩) 1 1)) = W := ⟨_, rfl⟩
      rw [hWG] at M21 T21 ⊢
      clear hWG
      replace M21 := hidden M21
      replace T21 := hidden T21
      have E5 : Hid (R = exec c.ts (reads c.ts) (bindR i x18 j18) (j18)) := E18
      generalize w19.heap.size = nb at M21 T21 ⊢
      generalize w18.heap.size = rb at M21 ⊢
      generalize W0.heap.size = tb at T21 ⊢
      (try clear VQ_20) <;> (try clear RW_20) <;> (try clear XI_20) <;> (try clear S20) <;> (try clear RW_19) <;> (try clear XI_19) <;> (try clear S19) <;> (try clear S18) <;> (try clear X18) <;> (try clear E18) <;> (try clear f18) <;> (try clear S17) <;> (try clear S16) <;> (try clear S15) <;> (try clear RW_13) <;> (try clear XI_13) <;> (try clear VQ_13) <;> (try clear S13) <;> (try clear S12) <;> (try clear VQ_12) <;> (try clear X12) <;> (try clear E12) <;> (try clear f12) <;> (try clear VQ_11) <;> (try clear S11) <;> (try clear RW_9) <;> (try clear VQ_9) <;> (try clear XI_9) <;> (try clear S9) <;> (try clear VQ_8) <;> (try clear XI_8) <;> (try clear S8) <;> (try clear VQ_6) <;> (try clear RW_6) <;> (try clear XI_6) <;> (try clear S6) <;> (try clear RW_5) <;> (try clear XI_5) <;> (try clear S5) <;> (try clear S4) <;> (try clear X4) <;> (try clear XI) <;> (try clear E4) <;> (try clear f4) <;> (try clear S3) <;> (try clear S2) <;> (try clear S1)
      go_upto_region 3 with fail
      rename_i K9 hK9
      revert hK9; revert K9; revert E5; revert T21; revert M21; revert HBA; revert a18; revert b18; revert tb; revert rb; revert nb; revert cp18; revert ao18; revert WG; revert j18; revert x18
      exact tail.out
     ·(try simp only [q1, q2, q3])
      go_simp
      have tq : W0.heap.size < w18.heap.size := lt_of_some VT_18.out.n
      have qB := XI.out.le
      have S22 := hidden (S18.out.alloc (.cells #[.int .i64 0, .int .i64 0, .int .i64 0, .string ⟨#[]⟩, .slice none 0 0] 25))
      have VT_22 := hidden (VT_18.out.alloc (.cells #[.int .i64 0, .int .i64 0, .int .i64 0, .string ⟨#[]⟩, .slice none 0 0] 25))
      have XI_22 := hidden (XI.out.alloc (.cells #[.int .i64 0, .int .i64 0, .int .i64 0, .string ⟨#[]⟩, .slice none 0 0] 25))
      have VQ_22 := hidden (Lc.new S18.out 0 0 0 ⟨#[]⟩ (.slice none 0 0))
      obtain ⟨w22, hW⟩ : ∃ W, World.alloc w18 (.cells #[.int .i64 0, .int .i64 0, .int .i64 0, .string ⟨#[]⟩, .slice none 0 0] 25) = W := ⟨_, rfl⟩
      rw [hW] at S22 VT_22 XI_22 VQ_22 ⊢
      clear hW
      obtain ⟨t0, t1, t2, t3, tf⟩ := VT_22.out.n.cells
      clear t0 t2 t3 tf
      refine hK.out _ _ (fun _ => t1) ?_
      clear hK K
      (try simp only [Act.put, q4, q5, q6, q1, q2, q3])
      refine AnyTill.one (i := 4) (by kernel_rfl) rfl (fun K hK => ?_)
      (try simp only [q1, q2, q3])
      go_simp
      have rI := XI_22.out.le
      have rq := VQ_22.out.n.lt
      have S23 := hidden (S22.out.alloc (.cells #[.int .i64 x18.kind, .int .i64 (c.pl x18.pl), .int .i64 x18.N, .string ⟨x18.S.toArray⟩, .slice ao18 x18.L.length cp18] 25))
      have VT_23 := hidden (VT_22.out.alloc (.cells #[.int .i64 x18.kind, .int .i64 (c.pl x18.pl), .int .i64 x18.N, .string ⟨x18.S.toArray⟩, .slice ao18 x18.L.length cp18] 25))
      have XI_23 := hidden (XI_22.out.alloc (.cells #[.int .i64 x18.kind, .int .i64 (c.pl x18.pl), .int .i64 x18.N, .string ⟨x18.S.toArray⟩, .slice ao18 x18.L.length cp18] 25))
      have VQ_23 := hidden (VQ_22.out.alloc (.cells #[.int .i64 x18.kind, .int .i64 (c.pl x18.pl), .int .i64 x18.N, .string ⟨x18.S.toArray⟩, .slice ao18 x18.L.length cp18] 25))
      have RW_23 := hidden (Rw.new S22.out #[.int .i64 x18.kind, .int .i64 (c.pl x18.pl), .int .i64 x18.N, .string ⟨x18.S.toArray⟩, .slice ao18 x18.L.length cp18])
      obtain ⟨w23, hW⟩ : ∃ W, World.alloc w22 (.cells #[.int .i64 x18.kind, .int .i64 (c.pl x18.pl), .int .i64 x18.N, .string ⟨x18.S.toArray⟩, .slice ao18 x18.L.length cp18] 25) = W := ⟨_, rfl⟩
      rw [hW] at S23 VT_23 XI_23 VQ_23 RW_23 ⊢
      clear hW
      obtain ⟨t0, t1, t2, t3, tf⟩ := VT_23.out.n.cells
      clear t0 t2 t3 tf
      refine hK.out _ _ (fun _ => t1) ?_
      clear hK K
      (try simp only [Act.put, q4, q5, q6, q1, q2, q3])
      refine AnyTill.take (i := 5) (v := ?_) rfl (by kernel_rfl) (by kernel_rfl) (by kernel_rfl) (by kernel_rfl) (fun _ _ _ h => h) (Or.inl ⟨by rfl, ?_⟩) t1 ?_
      rotate_left
      ·(intro w hSw; (try dsimp only at hSw); go_simp; (try with_reducible rfl))
      (try simp only [Act.put, q4, q5, q6, q1, q2, q3])
      obtain ⟨q0, q1, q2, q3, q4, qf⟩ := VQ_23.out.n.cells
      refine AnyTill.one (i := 7) (by kernel_rfl) rfl (fun K hK => ?_)
      (try simp only [q1, q2, q3])
      go_simp
      refine hK.out _ _ (fun h => absurd rfl h) ?_
      clear hK K
      (try simp only [Act.put, q4, q5, q6, q1, q2, q3])
      refine AnyTill.done (by kernel_rfl) ?_ _
      (try simp only [Act.put, q4, q5, q6, q1, q2, q3])
      clear t1 q0 q1 q2 q3 q4 qf
      have M24 := Mk.firstAt S23.out VQ_23.out RW_23.out XI_23.out (by omega) (by omega) (by omega) (by omega) 20 (c.pl i) 0 ⟨#[]⟩
      have T24 := VT_23.out.fillq (b := w18.heap.size) (by omega) 20 (c.pl i) 0 ⟨#[]⟩ (.slice (some ⟨w22.heap.size, 0, none⟩) 1 1)
      unfold Go.Proofs.YthjmakjhidjbaaaGreat.fill5 at M24 T24
      obtain ⟨WG, hWG⟩ : ∃ W, (((((World.setCell w23 ⟨w18.heap.size, 0, none⟩ (.int .i64 20)).setCell ⟨w18.heap.size, 1, none⟩ (.int .i64 (c.pl i))).setCell ⟨w18.heap.size, 2, none⟩ (.int .i64 0)).setCell ⟨w18.heap.size, 3, none⟩ (.string ⟨#[]⟩)).setCell ⟨w18.heap.size, 4, none⟩ (.slice (some ⟨w22.heap.size, 0, none⟩) 1 1)) = W := ⟨_, rfl⟩
      rw [hWG] at M24 T24 ⊢
      clear hWG
      replace M24 := hidden M24
      replace T24 := hidden T24
      have E5 : Hid (R = exec c.ts (reads c.ts) (bindR i x18 j18) (j18)) := E18
      generalize w18.heap.size = nb at M24 T24 ⊢
      generalize w22.heap.size = rb at M24 ⊢
      generalize W0.heap.size = tb at T24 ⊢
      (try clear RW_23) <;> (try clear VQ_23) <;> (try clear XI_23) <;> (try clear S23) <;> (try clear VQ_22) <;> (try clear XI_22) <;> (try clear S22) <;> (try clear VQ_20) <;> (try clear RW_20) <;> (try clear XI_20) <;> (try clear S20) <;> (try clear RW_19) <;> (try clear XI_19) <;> (try clear S19) <;> (try clear S18) <;> (try clear X18) <;> (try clear E18) <;> (try clear f18) <;> (try clear S17) <;> (try clear S16) <;> (try clear S15) <;> (try clear RW_13) <;> (try clear XI_13) <;> (try clear VQ_13) <;> (try clear S13) <;> (try clear S12) <;> (try clear VQ_12) <;> (try clear X12) <;> (try clear E12) <;> (try clear f12) <;> (try clear VQ_11) <;> (try clear S11) <;> (try clear RW_9) <;> (try clear VQ_9) <;> (try clear XI_9) <;> (try clear S9) <;> (try clear VQ_8) <;> (try clear XI_8) <;> (try clear S8) <;> (try clear VQ_6) <;> (try clear RW_6) <;> (try clear XI_6) <;> (try clear S6) <;> (try clear RW_5) <;> (try clear XI_5) <;> (try clear S5) <;> (try clear S4) <;> (try clear X4) <;> (try clear XI) <;> (try clear E4) <;> (try clear f4) <;> (try clear S3) <;> (try clear S2) <;> (try clear S1)
      go_upto_region 3 with fail
      rename_i K9 hK9
      revert hK9; revert K9; revert E5; revert T24; revert M24; revert HBA; revert a18; revert b18; revert tb; revert rb; revert nb; revert cp18; revert ao18; revert WG; revert j18; revert x18
      exact tail.out
   ·(try simp only [q1, q2, q3])
    go_simp
    have tq : W0.heap.size < WF.heap.size := lt_of_some (T17.out.drw).n
    have S25 := hidden ((S17.out.alloc (.cells #[.int .i64 0, .int .i64 0, .int .i64 0, .string ⟨#[]⟩, .slice none 0 0] 25)).drew)
    have VT_25 := hidden ((T17.out.alloc (.cells #[.int .i64 0, .int .i64 0, .int .i64 0, .string ⟨#[]⟩, .slice none 0 0] 25)).drw)
    have VQ_25 := hidden ((Lc.new S17.out 0 0 0 ⟨#[]⟩ (.slice none 0 0)).drw)
    obtain ⟨w25, hW⟩ : ∃ W, (World.alloc WF (.cells #[.int .i64 0, .int .i64 0, .int .i64 0, .string ⟨#[]⟩, .slice none 0 0] 25)).drew = W := ⟨_, rfl⟩
    rw [hW] at S25 VT_25 VQ_25 ⊢
    clear hW
    obtain ⟨t0, t1, t2, t3, tf⟩ := VT_25.out.n.cells
    clear t0 t2 t3 tf
    refine hK.out _ _ (fun _ => t1) ?_
    clear hK K
    (try simp only [Act.put, q4, q5, q6, q1, q2, q3])
    refine AnyTill.one (i := 3) (by kernel_rfl) rfl (fun K hK => ?_)
    (try simp only [q1, q2, q3])
    go_simp
    have qA := VQ_25.out.n.lt
    have aA := S25.out.size
    refine (HP.out _ S25.out.ps).mono ?_
    intro e w26 hg
    cases hx : reads c.ts .pat (i) with
    | error m =>
     rw [hx] at hg
     obtain ⟨rfl, ho⟩ := hg
     exact ⟨rfl, S25.out.stop ho (ex_err E0.out hx)⟩
    | ok xj =>
     obtain ⟨x26, j26⟩ := xj
     have f26 := reads_fine (ts := c.ts) .pat (i := i) (by omega)
     rw [hx] at hg f26
     obtain ⟨ao26, cp26, rfl, hl, hp, ho⟩ := hg
     have E26 := hidden (ex_ok E0.out hx)
     have b26 : j26 ≤ c.ts.length := f26.2.1
     have a26 : i < j26 := f26.2.2 _ _ rfl rfl
     have XI := hidden (HasI.of hl)
     have X26 := hidden (Has.of hl S25.out)
     have VT_26 := hidden (VT_25.out.only S25.out ho)
     have VQ_26 := hidden (VQ_25.out.only S25.out ho)
     have S26 := hidden (S25.out.only ho hp)
     have HBA := hidden (bind_alone hi hx)
     clear hl hp ho hx f26
     obtain ⟨t0, t1, t2, t3, tf⟩ := VT_26.out.n.cells
     clear t0 t2 t3 tf
     refine hK.out _ _ (fun _ => t1) ?_
     clear hK K
     (try simp only [Act.put, q4, q5, q6, q1, q2, q3])
     refine AnyTill.one (i := 4) (by kernel_rfl) rfl (fun K hK => ?_)
     (try simp only [q1, q2, q3])
     go_simp
     have rI := XI.out.le
     have rq := VQ_26.out.n.lt
     have S27 := hidden (S26.out.alloc (.cells #[.int .i64 x26.kind, .int .i64 (c.pl x26.pl), .int .i64 x26.N, .string ⟨x26.S.toArray⟩, .slice ao26 x26.L.length cp26] 25))
     have VT_27 := hidden (VT_26.out.alloc (.cells #[.int .i64 x26.kind, .int .i64 (c.pl x26.pl), .int .i64 x26.N, .string ⟨x26.S.toArray⟩, .slice ao26 x26.L.length cp26] 25))
     have VQ_27 := hidden (VQ_26.out.alloc (.cells #[.int .i64 x26.kind, .int .i64 (c.pl x26.pl), .int .i64 x26.N, .string ⟨x26.S.toArray⟩, .slice ao26 x26.L.length cp26] 25))
     have XI_27 := hidden (XI.out.alloc (.cells #[.int .i64 x26.kind, .int .i64 (c.pl x26.pl), .int .i64 x26.N, .string ⟨x26.S.toArray⟩, .slice ao26 x26.L.length cp26] 25))
     have RW_27 := hidden (Rw.new S26.out #[.int .i64 x26.kind, .int .i64 (c.pl x26.pl), .int .i64 x26.N, .string ⟨x26.S.toArray⟩, .slice ao26 x26.L.length cp26])
     obtain ⟨w27, hW⟩ : ∃ W, World.alloc w26 (.cells #[.int .i64 x26.kind, .int .i64 (c.pl x26.pl), .int .i64 x26.N, .string ⟨x26.S.toArray⟩, .slice ao26 x26.L.length cp26] 25) = W := ⟨_, rfl⟩
     rw [hW] at S27 VT_27 VQ_27 XI_27 RW_27 ⊢
     clear hW
     obtain ⟨t0, t1, t2, t3, tf⟩ := VT_27.out.n.cells
     clear t0 t2 t3 tf
     refine hK.out _ _ (fun _ => t1) ?_
     clear hK K
     (try simp only [Act.put, q4, q5, q6, q1, q2, q3])
     refine AnyTill.take (i := 5) (v := ?_) rfl (by kernel_rfl) (by kernel_rfl) (by kernel_rfl) (by kernel_rfl) (fun _ _ _ h => h) (Or.inl ⟨by rfl, ?_⟩) t1 ?_
     rotate_left
     ·(intro w hSw; (try dsimp only at hSw); go_simp; (try with_reducible rfl))
     (try simp only [Act.put, q4, q5, q6, q1, q2, q3])
     obtain ⟨q0, q1, q2, q3, q4, qf⟩ := VQ_27.out.n.cells
     refine AnyTill.one (i := 7) (by kernel_rfl) rfl (fun K hK => ?_)
     (try simp only [q1, q2, q3])
     go_simp
     refine hK.out _ _ (fun h => absurd rfl h) ?_
     clear hK K
     (try simp only [Act.put, q4, q5, q6, q1, q2, q3])
     refine AnyTill.done (by kernel_rfl) ?_ _
     (try simp only [Act.put, q4, q5, q6, q1, q2, q3])
     clear t1 q0 q1 q2 q3 q4 qf
     have M28 := Mk.firstAt S27.out VQ_27.out RW_27.out XI_27.out (by omega) (by omega) (by omega) (by omega) 20 (c.pl i) 0 ⟨#[]⟩
     have T28 := VT_27.out.fillq (b := WF.heap.size) (by omega) 20 (c.pl i) 0 ⟨#[]⟩ (.slice (some ⟨w26.heap.size, 0, none⟩) 1 1)
     unfold Go.Proofs.YthjmakjhidjbaaaGreat.fill5 at M28 T28
     obtain ⟨WG, hWG⟩ : ∃ W, (((((World.setCell w27 ⟨WF.heap.size, 0, none⟩ (.int .i64 20)).setCell ⟨WF.heap.size, 1, none⟩ (.int .i64 (c.pl i))).setCell ⟨WF.heap.size, 2, none⟩ (.int .i64 0)).setCell ⟨WF.heap.size, 3, none⟩ (.string ⟨#[]⟩)).setCell ⟨WF.heap.size, 4, none⟩ (.slice (some ⟨w26.heap.size, 0, none⟩) 1 1)) = W := ⟨_, rfl⟩
     rw [hWG] at M28 T28 ⊢
     clear hWG
     replace M28 := hidden M28
     replace T28 := hidden T28
     have E5 : Hid (R = exec c.ts (reads c.ts) (bindR i x26 j26) (j26)) := E26
     generalize WF.heap.size = nb at M28 T28 ⊢
     generalize w26.heap.size = rb at M28 ⊢
     generalize W0.heap.size = tb at T28 ⊢
     (try clear RW_27) <;> (try clear XI_27) <;> (try clear VQ_27) <;> (try clear S27) <;> (try clear S26) <;> (try clear VQ_26) <;> (try clear X26) <;> (try clear E26) <;> (try clear f26) <;> (try clear VQ_25) <;> (try clear S25) <;> (try clear RW_23) <;> (try clear VQ_23) <;> (try clear XI_23) <;> (try clear S23) <;> (try clear VQ_22) <;> (try clear XI_22) <;> (try clear S22) <;> (try clear VQ_20) <;> (try clear RW_20) <;> (try clear XI_20) <;> (try clear S20) <;> (try clear RW_19) <;> (try clear XI_19) <;> (try clear S19) <;> (try clear S18) <;> (try clear X18) <;> (try clear E18) <;> (try clear f18) <;> (try clear S17) <;> (try clear S16) <;> (try clear S15) <;> (try clear RW_13) <;> (try clear XI_13) <;> (try clear VQ_13) <;> (try clear S13) <;> (try clear S12) <;> (try clear VQ_12) <;> (try clear X12) <;> (try clear E12) <;> (try clear f12) <;> (try clear VQ_11) <;> (try clear S11) <;> (try clear RW_9) <;> (try clear VQ_9) <;> (try clear XI_9) <;> (try clear S9) <;> (try clear VQ_8) <;> (try clear XI_8) <;> (try clear S8) <;> (try clear VQ_6) <;> (try clear RW_6) <;> (try clear XI_6) <;> (try clear S6) <;> (try clear RW_5) <;> (try clear XI_5) <;> (try clear S5) <;> (try clear S4) <;> (try clear X4) <;> (try clear XI) <;> (try clear E4) <;> (try clear f4) <;> (try clear S3) <;> (try clear S2) <;> (try clear S1)
     go_upto_region 3 with fail
     rename_i K9 hK9
     revert hK9; revert K9; revert E5; revert T28; revert M28; revert HBA; revert a26; revert b26; revert tb; revert rb; revert nb; revert cp26; revert ao26; revert WG; revert j26; revert x26
     exact tail.out
 intro x4 j4 WG ao4 cp4 nb rb tb b4 a4 HBA M9 T9 E5 K9 hK9
 obtain ⟨t0, t1, t2, t3, tf⟩ := T9.out.n.cells
 clear t1 t2 t3 tf
 cases hk : isK 3 (tk c.ts i) with
 | false =>
  have k3 : (tk c.ts i).kind ≠ 3 := by intro e; unfold isK at hk; rw [e] at hk; cases hk
  have E6 := hidden (bind_must E5.out (Or.inl (fun e => by have := (HBA.out.mpr e).1; rw [hk] at this; cases this)))
  clear hk
  go_wp2_with fail
  cases hs : isS [61] (tk c.ts (j4)) with
  | false =>
   refine (must_no M9.out.st.ps (by omega) [61] (by decide) hs).mono ?_
   rintro e w' ⟨rfl, ho⟩
   exact ⟨rfl, M9.out.st.stop ho (ex_mustN E6.out hs)⟩
  | true =>
   have t101 := isS_in hs
   have E101 := hidden (ex_must E6.out hs)
   refine (must_yes M9.out.st.ps [61] (by decide) hs).mono ?_
   rintro e w101 ⟨rfl, hp, ho⟩
   have VT_101 := hidden (T9.out.only M9.out.st ho)
   have M101 := hidden (M9.out.only ho hp)
   clear hp ho hs
   clear t0 k3
   go_wp2_with fail
   refine region_till (S := (fun w' => w'.cell? ⟨nb, 4, none⟩ = some (.slice (some ⟨rb, 0, none⟩) 1 1))) (kz := 7) (by kernel_rfl) M101.out.cell (fun hHeld => ?_)
   refine AnyTill.tk (i := 0) (v := ?_) hHeld ?_ ?_
   rotate_left
   ·(intro w hSw; (try dsimp only at hSw); go_simp; (try with_reducible rfl))
   (try simp only [Act.put, q4, q5, q6, q1, q2, q3])
   refine AnyTill.tk (i := 1) (v := ?_) hHeld ?_ ?_
   rotate_left
   ·(intro w hSw; (try dsimp only at hSw); go_simp; (try with_reducible rfl))
   (try simp only [Act.put, q4, q5, q6, q1, q2, q3])
   refine AnyTill.tk (i := 2) (v := ?_) hHeld ?_ ?_
   rotate_left
   ·(intro w hSw; (try dsimp only at hSw); go_simp; (try with_reducible rfl))
   (try simp only [Act.put, q4, q5, q6, q1, q2, q3])
   refine AnyTill.one (i := 3) (by kernel_rfl) rfl (fun K hK => ?_)
   (try simp only [q1, q2, q3])
   go_simp
   refine ((ih .seq (j4 + 1) (by omega) (by omega) : Rule c 111 .seq (j4 + 1)) _ (M101.out.drew).st.ps).mono ?_
   intro e w102 hg
   cases hx : reads c.ts .seq (j4 + 1) with
   | error m =>
    rw [hx] at hg
    obtain ⟨rfl, ho⟩ := hg
    exact ⟨rfl, (M101.out.drew).st.stop ho (ex_err E101.out hx)⟩
   | ok xj =>
    obtain ⟨x102, j102⟩ := xj
    have f102 := reads_fine (ts := c.ts) .seq (i := j4 + 1) (by omega)
    rw [hx] at hg f102
    obtain ⟨ao102, cp102, rfl, hl, hp, ho⟩ := hg
    have E102 := hidden (ex_ok E101.out hx)
    have b102 : j102 ≤ c.ts.length := f102.2.1
    have a102 : j4 + 1 < j102 := f102.2.2 _ _ rfl rfl
    have X102 := hidden ((M101.out.drew).fresh hl)
    have M102 := hidden ((M101.out.drew).only ho hp)
    clear hl hp ho hx f102
    refine hK.out _ _ (fun _ => M102.out.cell) ?_
    clear hHeld
    clear hK K
    (try simp only [Act.put, q4, q5, q6, q1, q2, q3])
    refine AnyTill.one (i := 4) (by kernel_rfl) rfl (fun K hK => ?_)
    (try simp only [q1, q2, q3])
    go_simp
    refine hK.out _ _ (fun _ => (M102.out.alloc _).cell) ?_
    clear hK K
    (try simp only [Act.put, q4, q5, q6, q1, q2, q3])
    refine AnyTill.one (i := 5) (by kernel_rfl) rfl (fun K hK => ?_)
    refine step_nodes rfl (.tmp 54) (.tmp 57) rfl (.slice (some ⟨rb, 0, none⟩) 1 1) ([⟨x4, ao4, cp4⟩] : List ND) [⟨x102, ao102, cp102⟩] (by simp [Act.eval]) (M102.out.alloc _).v (by have := (M102.out.alloc (.cells #[.int .i64 x102.kind, .int .i64 (c.pl x102.pl), .int .i64 x102.N, .string ⟨x102.S.toArray⟩, .slice ao102 x102.L.length cp102] 25)).n.lt; omega) w102.heap.size 1 (by simp [Act.eval]) (news_one (blk_alloc_new _ _)) (fun d hd => by rw [List.mem_singleton.1 hd]; exact X102.out.alloc _) (by simp) (by simp) (by have := M102.out.st.size; rw [nblk_alloc]; omega) ?_
    intro va103 vn103 vc103 w103 hv hgr
    have N103 := hidden ((M102.out.alloc _).n.grown hgr M102.out.v.ne)
    have M103 := hidden ((M102.out.alloc _).grown hgr hv)
    obtain ⟨n0, n1, n2, n3, n4, nf⟩ := N103.out.cells
    clear n0 n1 n2 n3
    have G103 := hidden ((M102.out.alloc _).gone hgr hv)
    clear hv hgr
    refine hK.out _ _ (fun _ => n4) ?_
    clear hK K
    (try simp only [Act.put, q4, q5, q6, q1, q2, q3])
    refine AnyTill.one (i := 6) (by kernel_rfl) rfl (fun K hK => ?_)
    (try simp only [q1, q2, q3])
    go_simp
    refine hK.out _ _ (fun _ => n4) ?_
    clear hK K
    (try simp only [Act.put, q4, q5, q6, q1, q2, q3])
    refine AnyTill.one (i := 7) (by kernel_rfl) rfl (fun K hK => ?_)
    (try simp only [q1, q2, q3])
    go_simp
    refine hK.out _ _ (fun h => absurd rfl h) ?_
    clear n4 nf
    clear hK K
    (try simp only [Act.put, q4, q5, q6, q1, q2, q3])
    refine AnyTill.done (by kernel_rfl) ?_ _
    (try simp only [Act.put, q4, q5, q6, q1, q2, q3])
    obtain ⟨W, hW⟩ : ∃ W, (w103.setCell ⟨nb, 4, none⟩ (.slice va103 vn103 vc103)) = W := ⟨_, rfl⟩
    have MW : Hid (Mk c w W _ _ _ _ _ _ _ _) := hidden (hW ▸ M103.out)
    rw [hW]
    clear hW
    obtain ⟨y0, y1, y2, y3, y4, yf⟩ := MW.out.n.cells
    obtain ⟨z0, z1, z2, z3, z4, zf⟩ := MW.out.st.zc
    clear yf
    go_wp2_with fail
    refine bodyPost_ret (results_cell_row rfl _ _ w.heap.size 25 #[.int .i64 20, .int .i64 (c.pl i), .int .i64 0, .string ⟨[].toArray⟩, (.slice va103 vn103 vc103)] (0, 0) _ rfl (MW.out.st.row _ _ _ _ _) Tryz.underlying25 rfl (by kernel_rfl)) rfl ?_
    exact MW.out.ret (s := []) (E102.out) rfl
 | true =>
  have k3 : (tk c.ts i).kind = 3 := by unfold isK at hk; exact eq_of_beq hk
  rw [k3] at t0
  have F := M9.out.st.pcell
  obtain ⟨m2, hm2⟩ : ∃ m2, c.M.length - j4 = m2 := ⟨_, rfl⟩
  rw [hm2] at F
  have sm := c.small
  have sn := c.tm.len
  have HM9 := HM.out
  rcases Nat.decEq j4 (i + 1) with hj | hj
  ·have hm3 : ¬ ((m2 : Int) = (m : Int) - 1) := by omega
   have hm4 : (m : Int) ≤ 4611686018427387904 := by omega
   have hm5 : (0 : Int) ≤ (m : Int) - 1 := by omega
   have hm6 := wrapId9 ((m : Int) - 1) (by omega) (by omega)
   have E6 := hidden (bind_must E5.out (Or.inl (fun e => hj e.2)))
   clear hj hk sm sn HM9 hm2
   go_wp2_with fail
   cases hs : isS [61] (tk c.ts (j4)) with
   | false =>
    refine (must_no M9.out.st.ps (by omega) [61] (by decide) hs).mono ?_
    rintro e w' ⟨rfl, ho⟩
    exact ⟨rfl, M9.out.st.stop ho (ex_mustN E6.out hs)⟩
   | true =>
    have t105 := isS_in hs
    have E105 := hidden (ex_must E6.out hs)
    refine (must_yes M9.out.st.ps [61] (by decide) hs).mono ?_
    rintro e w105 ⟨rfl, hp, ho⟩
    have VT_105 := hidden (T9.out.only M9.out.st ho)
    have M105 := hidden (M9.out.only ho hp)
    clear hp ho hs
    clear t0 k3 F hm3 hm4 hm5 hm6
    go_wp2_with fail
    refine region_till (S := (fun w' => w'.cell? ⟨nb, 4, none⟩ = some (.slice (some ⟨rb, 0, none⟩) 1 1))) (kz := 7) (by kernel_rfl) M105.out.cell (fun hHeld => ?_)
    refine AnyTill.tk (i := 0) (v := ?_) hHeld ?_ ?_
    rotate_left
    ·(intro w hSw; (try dsimp only at hSw); go_simp; (try with_reducible rfl))
    (try simp only [Act.put, q4, q5, q6, q1, q2, q3])
    refine AnyTill.tk (i := 1) (v := ?_) hHeld ?_ ?_
    rotate_left
    ·(intro w hSw; (try dsimp only at hSw); go_simp; (try with_reducible rfl))
    (try simp only [Act.put, q4, q5, q6, q1, q2, q3])
    refine AnyTill.tk (i := 2) (v := ?_) hHeld ?_ ?_
    rotate_left
    ·(intro w hSw; (try dsimp only at hSw); go_simp; (try with_reducible rfl))
    (try simp only [Act.put, q4, q5, q6, q1, q2, q3])
    refine AnyTill.one (i := 3) (by kernel_rfl) rfl (fun K hK => ?_)
    (try simp only [q1, q2, q3])
    go_simp
    refine ((ih .seq (j4 + 1) (by omega) (by omega) : Rule c 111 .seq (j4 + 1)) _ (M105.out.drew).st.ps).mono ?_
    intro e w106 hg
    cases hx : reads c.ts .seq (j4 + 1) with
    | error m =>
     rw [hx] at hg
     obtain ⟨rfl, ho⟩ := hg
     exact ⟨rfl, (M105.out.drew).st.stop ho (ex_err E105.out hx)⟩
    | ok xj =>
     obtain ⟨x106, j106⟩ := xj
     have f106 := reads_fine (ts := c.ts) .seq (i := j4 + 1) (by omega)
     rw [hx] at hg f106
     obtain ⟨ao106, cp106, rfl, hl, hp, ho⟩ := hg
     have E106 := hidden (ex_ok E105.out hx)
     have b106 : j106 ≤ c.ts.length := f106.2.1
     have a106 : j4 + 1 < j106 := f106.2.2 _ _ rfl rfl
     have X106 := hidden ((M105.out.drew).fresh hl)
     have M106 := hidden ((M105.out.drew).only ho hp)
     clear hl hp ho hx f106
     refine hK.out _ _ (fun _ => M106.out.cell) ?_
     clear hHeld
     clear hK K
     (try simp only [Act.put, q4, q5, q6, q1, q2, q3])
     refine AnyTill.one (i := 4) (by kernel_rfl) rfl (fun K hK => ?_)
     (try simp only [q1, q2, q3])
     go_simp
     refine hK.out _ _ (fun _ => (M106.out.alloc _).cell) ?_
     clear hK K
     (try simp only [Act.put, q4, q5, q6, q1, q2, q3])
     refine AnyTill.one (i := 5) (by kernel_rfl) rfl (fun K hK => ?_)
     refine step_nodes rfl (.tmp 54) (.tmp 57) rfl (.slice (some ⟨rb, 0, none⟩) 1 1) ([⟨x4, ao4, cp4⟩] : List ND) [⟨x106, ao106, cp106⟩] (by simp [Act.eval]) (M106.out.alloc _).v (by have := (M106.out.alloc (.cells #[.int .i64 x106.kind, .int .i64 (c.pl x106.pl), .int .i64 x106.N, .string ⟨x106.S.toArray⟩, .slice ao106 x106.L.length cp106] 25)).n.lt; omega) w106.heap.size 1 (by simp [Act.eval]) (news_one (blk_alloc_new _ _)) (fun d hd => by rw [List.mem_singleton.1 hd]; exact X106.out.alloc _) (by simp) (by simp) (by have := M106.out.st.size; rw [nblk_alloc]; omega) ?_
     intro va107 vn107 vc107 w107 hv hgr
     have N107 := hidden ((M106.out.alloc _).n.grown hgr M106.out.v.ne)
     have M107 := hidden ((M106.out.alloc _).grown hgr hv)
     obtain ⟨n0, n1, n2, n3, n4, nf⟩ := N107.out.cells
     clear n0 n1 n2 n3
     have G107 := hidden ((M106.out.alloc _).gone hgr hv)
     clear hv hgr
     refine hK.out _ _ (fun _ => n4) ?_
     clear hK K
     (try simp only [Act.put, q4, q5, q6, q1, q2, q3])
     refine AnyTill.one (i := 6) (by kernel_rfl) rfl (fun K hK => ?_)
     (try simp only [q1, q2, q3])
     go_simp
     refine hK.out _ _ (fun _ => n4) ?_
     clear hK K
     (try simp only [Act.put, q4, q5, q6, q1, q2, q3])
     refine AnyTill.one (i := 7) (by kernel_rfl) rfl (fun K hK => ?_)
     (try simp only [q1, q2, q3])
     go_simp
     refine hK.out _ _ (fun h => absurd rfl h) ?_
     clear n4 nf
     clear hK K
     (try simp only [Act.put, q4, q5, q6, q1, q2, q3])
     refine AnyTill.done (by kernel_rfl) ?_ _
     (try simp only [Act.put, q4, q5, q6, q1, q2, q3])
     obtain ⟨W, hW⟩ : ∃ W, (w107.setCell ⟨nb, 4, none⟩ (.slice va107 vn107 vc107)) = W := ⟨_, rfl⟩
     have MW : Hid (Mk c w W _ _ _ _ _ _ _ _) := hidden (hW ▸ M107.out)
     rw [hW]
     clear hW
     obtain ⟨y0, y1, y2, y3, y4, yf⟩ := MW.out.n.cells
     obtain ⟨z0, z1, z2, z3, z4, zf⟩ := MW.out.st.zc
     clear yf
     go_wp2_with fail
     refine bodyPost_ret (results_cell_row rfl _ _ w.heap.size 25 #[.int .i64 20, .int .i64 (c.pl i), .int .i64 0, .string ⟨[].toArray⟩, (.slice va107 vn107 vc107)] (0, 0) _ rfl (MW.out.st.row _ _ _ _ _) Tryz.underlying25 rfl (by kernel_rfl)) rfl ?_
     exact MW.out.ret (s := []) (E106.out) rfl
  ·have hm3 : (m : Int) - 1 = (m2 : Int) := by omega
   have hm4 : (m : Int) ≤ 4611686018427387904 := by omega
   have hm5 : (0 : Int) ≤ (m : Int) - 1 := by omega
   have hm6 := wrapId9 ((m : Int) - 1) (by omega) (by omega)
   have HA := hidden (HBA.out.mp ⟨hk, hj⟩)
   clear hj hk sm sn HM9 hm2
   go_wp2_with fail
   cases hs : isS [61] (tk c.ts (j4)) with
   | true =>
    have t109 := isS_in hs
    have E109 := hidden ((fun h hs => bind_must h (Or.inr hs)) E5.out hs)
    refine (comesR1 M9.out.st.ps (by omega) [61] (by decide) hs (by first | exact nblk_alloc _ _ | rfl | simp only [nblk_alloc, nblk_setCell] | omega)).mono ?_
    rintro e w109 ⟨rfl, hb⟩
    have VT_109 := hidden (T9.out.below hb)
    have M109 := hidden (M9.out.below hb)
    clear hb hs
    go_wp2_with fail
    cases hs : isS [61] (tk c.ts (j4)) with
    | false =>
     refine (must_no M109.out.st.ps (by omega) [61] (by decide) hs).mono ?_
     rintro e w' ⟨rfl, ho⟩
     exact ⟨rfl, M109.out.st.stop ho (ex_mustN E109.out hs)⟩
    | true =>
     have t110 := isS_in hs
     have E110 := hidden (ex_must E109.out hs)
     refine (must_yes M109.out.st.ps [61] (by decide) hs).mono ?_
     rintro e w110 ⟨rfl, hp, ho⟩
     have VT_110 := hidden (VT_109.out.only M109.out.st ho)
     have M110 := hidden (M109.out.only ho hp)
     clear hp ho hs
     go_wp2_with fail
     refine region_till (S := (fun w' => w'.cell? ⟨nb, 4, none⟩ = some (.slice (some ⟨rb, 0, none⟩) 1 1))) (kz := 7) (by kernel_rfl) M110.out.cell (fun hHeld => ?_)
     refine AnyTill.tk (i := 0) (v := ?_) hHeld ?_ ?_
     rotate_left
     ·(intro w hSw; (try dsimp only at hSw); go_simp; (try with_reducible rfl))
     (try simp only [Act.put, q4, q5, q6, q1, q2, q3])
     refine AnyTill.tk (i := 1) (v := ?_) hHeld ?_ ?_
     rotate_left
     ·(intro w hSw; (try dsimp only at hSw); go_simp; (try with_reducible rfl))
     (try simp only [Act.put, q4, q5, q6, q1, q2, q3])
     refine AnyTill.tk (i := 2) (v := ?_) hHeld ?_ ?_
     rotate_left
     ·(intro w hSw; (try dsimp only at hSw); go_simp; (try with_reducible rfl))
     (try simp only [Act.put, q4, q5, q6, q1, q2, q3])
     refine AnyTill.one (i := 3) (by kernel_rfl) rfl (fun K hK => ?_)
     (try simp only [q1, q2, q3])
     go_simp
     refine ((ih .seq (j4 + 1) (by omega) (by omega) : Rule c 111 .seq (j4 + 1)) _ (M110.out.drew).st.ps).mono ?_
     intro e w111 hg
     cases hx : reads c.ts .seq (j4 + 1) with
     | error m =>
      rw [hx] at hg
      obtain ⟨rfl, ho⟩ := hg
      exact ⟨rfl, (M110.out.drew).st.stop ho (ex_err E110.out hx)⟩
     | ok xj =>
      obtain ⟨x111, j111⟩ := xj
      have f111 := reads_fine (ts := c.ts) .seq (i := j4 + 1) (by omega)
      rw [hx] at hg f111
      obtain ⟨ao111, cp111, rfl, hl, hp, ho⟩ := hg
      have E111 := hidden (ex_ok E110.out hx)
      have b111 : j111 ≤ c.ts.length := f111.2.1
      have a111 : j4 + 1 < j111 := f111.2.2 _ _ rfl rfl
      have X111 := hidden ((M110.out.drew).fresh hl)
      have M111 := hidden ((M110.out.drew).only ho hp)
      clear hl hp ho hx f111
      refine hK.out _ _ (fun _ => M111.out.cell) ?_
      clear hHeld
      clear hK K
      (try simp only [Act.put, q4, q5, q6, q1, q2, q3])
      refine AnyTill.one (i := 4) (by kernel_rfl) rfl (fun K hK => ?_)
      (try simp only [q1, q2, q3])
      go_simp
      refine hK.out _ _ (fun _ => (M111.out.alloc _).cell) ?_
      clear hK K
      (try simp only [Act.put, q4, q5, q6, q1, q2, q3])
      refine AnyTill.one (i := 5) (by kernel_rfl) rfl (fun K hK => ?_)
      refine step_nodes rfl (.tmp 54) (.tmp 57) rfl (.slice (some ⟨rb, 0, none⟩) 1 1) ([⟨x4, ao4, cp4⟩] : List ND) [⟨x111, ao111, cp111⟩] (by simp [Act.eval]) (M111.out.alloc _).v (by have := (M111.out.alloc (.cells #[.int .i64 x111.kind, .int .i64 (c.pl x111.pl), .int .i64 x111.N, .string ⟨x111.S.toArray⟩, .slice ao111 x111.L.length cp111] 25)).n.lt; omega) w111.heap.size 1 (by simp [Act.eval]) (news_one (blk_alloc_new _ _)) (fun d hd => by rw [List.mem_singleton.1 hd]; exact X111.out.alloc _) (by simp) (by simp) (by have := M111.out.st.size; rw [nblk_alloc]; omega) ?_
      intro va112 vn112 vc112 w112 hv hgr
      have N112 := hidden ((M111.out.alloc _).n.grown hgr M111.out.v.ne)
      have M112 := hidden ((M111.out.alloc _).grown hgr hv)
      obtain ⟨n0, n1, n2, n3, n4, nf⟩ := N112.out.cells
      clear n0 n1 n2 n3
      have G112 := hidden ((M111.out.alloc _).gone hgr hv)
      clear hv hgr
      refine hK.out _ _ (fun _ => n4) ?_
      clear hK K
      (try simp only [Act.put, q4, q5, q6, q1, q2, q3])
      refine AnyTill.one (i := 6) (by kernel_rfl) rfl (fun K hK => ?_)
      (try simp only [q1, q2, q3])
      go_simp
      refine hK.out _ _ (fun _ => n4) ?_
      clear hK K
      (try simp only [Act.put, q4, q5, q6, q1, q2, q3])
      refine AnyTill.one (i := 7) (by kernel_rfl) rfl (fun K hK => ?_)
      (try simp only [q1, q2, q3])
      go_simp
      refine hK.out _ _ (fun h => absurd rfl h) ?_
      clear n4 nf
      clear hK K
      (try simp only [Act.put, q4, q5, q6, q1, q2, q3])
      refine AnyTill.done (by kernel_rfl) ?_ _
      (try simp only [Act.put, q4, q5, q6, q1, q2, q3])
      obtain ⟨W, hW⟩ : ∃ W, (w112.setCell ⟨nb, 4, none⟩ (.slice va112 vn112 vc112)) = W := ⟨_, rfl⟩
      have MW : Hid (Mk c w W _ _ _ _ _ _ _ _) := hidden (hW ▸ M112.out)
      rw [hW]
      clear hW
      obtain ⟨y0, y1, y2, y3, y4, yf⟩ := MW.out.n.cells
      obtain ⟨z0, z1, z2, z3, z4, zf⟩ := MW.out.st.zc
      clear yf
      go_wp2_with fail
      refine bodyPost_ret (results_cell_row rfl _ _ w.heap.size 25 #[.int .i64 20, .int .i64 (c.pl i), .int .i64 0, .string ⟨[].toArray⟩, (.slice va112 vn112 vc112)] (0, 0) _ rfl (MW.out.st.row _ _ _ _ _) Tryz.underlying25 rfl (by kernel_rfl)) rfl ?_
      exact MW.out.ret (s := []) (E111.out) rfl
   | false =>
    have E109 := hidden ((fun h hs => bind_fun h HA.out hs) E5.out hs)
    refine (comesR1 M9.out.st.ps (by omega) [61] (by decide) hs (by first | exact nblk_alloc _ _ | rfl | simp only [nblk_alloc, nblk_setCell] | omega)).mono ?_
    rintro e w109 ⟨rfl, hb⟩
    have VT_109 := hidden (T9.out.below hb)
    have M109 := hidden (M9.out.below hb)
    clear hb hs
    go_wp2_with fail
    obtain ⟨Rl, hRl⟩ : ∃ Rl, Rl = funR c.ts (j4) := ⟨_, rfl⟩
    have HRl := hidden hRl
    clear hRl
    refine region_till (S := (fun w' => w'.cell? ⟨nb, 4, none⟩ = some (.slice (some ⟨rb, 0, none⟩) 1 1))) (kz := 10) (by kernel_rfl) M109.out.cell (fun hHeld => ?_)
    refine AnyTill.tk (i := 0) (v := ?_) hHeld ?_ ?_
    rotate_left
    ·(intro w hSw; (try dsimp only at hSw); go_simp; (try with_reducible rfl))
    (try simp only [Act.put, q4, q5, q6, q1, q2, q3])
    refine AnyTill.tk (i := 1) (v := ?_) hHeld ?_ ?_
    rotate_left
    ·(intro w hSw; (try dsimp only at hSw); go_simp; (try with_reducible rfl))
    (try simp only [Act.put, q4, q5, q6, q1, q2, q3])
    refine AnyTill.tk (i := 2) (v := ?_) hHeld ?_ ?_
    rotate_left
    ·(intro w hSw; (try dsimp only at hSw); go_simp; (try with_reducible rfl))
    (try simp only [Act.put, q4, q5, q6, q1, q2, q3])
    refine AnyTill.tk (i := 3) (v := ?_) hHeld ?_ ?_
    rotate_left
    ·(intro w hSw; (try dsimp only at hSw); go_simp; (try with_reducible rfl))
    (try simp only [Act.put, q4, q5, q6, q1, q2, q3])
    refine AnyTill.one (i := 4) (by kernel_rfl) rfl (fun K hK => ?_)
    (try simp only [q1, q2, q3])
    go_simp
    refine (next_any (M109.out.drew).st.ps (by omega)).mono ?_
    rintro e w114 ⟨rfl, hb⟩
    have M114 := hidden ((M109.out.drew).below hb)
    clear hb
    clear hHeld
    have hHeld := M114.out.cell
    refine hK.out _ _ (fun _ => hHeld) ?_
    clear hK K
    (try simp only [Act.put, q4, q5, q6, q1, q2, q3])
    refine AnyTill.tk (i := 5) (v := ?_) hHeld ?_ ?_
    rotate_left
    ·(intro w hSw; (try dsimp only at hSw); go_simp; (try with_reducible rfl))
    (try simp only [Act.put, q4, q5, q6, q1, q2, q3])
    refine AnyTill.one (i := 6) (by kernel_rfl) rfl (fun K hK => ?_)
    (try simp only [q1, q2, q3])
    go_simp
    have r0 : Rule c 123 .patom (j4) := ih .patom (j4) (by omega) (by omega)
    have HX := hidden (m_function (R := Rl) (p := j4) (sg := [61]) M114.out.st.ps (by decide) (by omega) r0 (fun n j h1 h2 => ih n j (by omega) h2) HRl.out)
    clear r0
    refine (HX.out).mono ?_
    intro e w115 hg
    cases hL : Rl with
    | error m =>
     rw [hL] at hg
     obtain ⟨rfl, ho⟩ := hg
     exact ⟨rfl, M114.out.st.stop ho (fun_err E109.out (HRl.out.symm.trans hL))⟩
    | ok xj =>
     obtain ⟨x115, j115⟩ := xj
     rw [hL] at hg
     obtain ⟨ao115, cp115, rfl, hl, hp, ho⟩ := hg
     have E115 := hidden (fun_ok E109.out (HRl.out.symm.trans hL))
     have X115 := hidden (M114.out.fresh hl)
     have M115 := hidden (M114.out.only ho hp)
     clear hl hp ho
     clear hL hHeld HX HRl
     have hHeld := M115.out.cell
     refine hK.out _ _ (fun _ => hHeld) ?_
     clear hK K
     (try simp only [Act.put, q4, q5, q6, q1, q2, q3])
     clear hHeld
     refine AnyTill.one (i := 7) (by kernel_rfl) rfl (fun K hK => ?_)
     (try simp only [q1, q2, q3])
     go_simp
     refine hK.out _ _ (fun _ => (M115.out.alloc (.cells #[.int .i64 x115.kind, .int .i64 (c.pl x115.pl), .int .i64 x115.N, .string ⟨x115.S.toArray⟩, .slice ao115 x115.L.length cp115] 25)).cell) ?_
     clear hK K
     (try simp only [Act.put, q4, q5, q6, q1, q2, q3])
     refine AnyTill.one (i := 8) (by kernel_rfl) rfl (fun K hK => ?_)
     refine step_nodes rfl (.tmp 41) (.tmp 47) rfl (.slice (some ⟨rb, 0, none⟩) 1 1) ([⟨x4, ao4, cp4⟩] : List ND) [⟨x115, ao115, cp115⟩] (by simp [Act.eval]) (M115.out.alloc _).v (by have := (M115.out.alloc (.cells #[.int .i64 x115.kind, .int .i64 (c.pl x115.pl), .int .i64 x115.N, .string ⟨x115.S.toArray⟩, .slice ao115 x115.L.length cp115] 25)).n.lt; omega) w115.heap.size 1 (by simp [Act.eval]) (news_one (blk_alloc_new _ _)) (fun d hd => by rw [List.mem_singleton.1 hd]; exact X115.out.alloc _) (by simp) (by simp) (by have := M115.out.st.size; rw [nblk_alloc]; omega) ?_
     intro va116 vn116 vc116 w116 hv hgr
     have N116 := hidden ((M115.out.alloc _).n.grown hgr M115.out.v.ne)
     have M116 := hidden ((M115.out.alloc _).grown hgr hv)
     obtain ⟨n0, n1, n2, n3, n4, nf⟩ := N116.out.cells
     clear n0 n1 n2 n3
     clear hv hgr
     refine hK.out _ _ (fun _ => n4) ?_
     clear hK K
     (try simp only [Act.put, q4, q5, q6, q1, q2, q3])
     refine AnyTill.one (i := 9) (by kernel_rfl) rfl (fun K hK => ?_)
     (try simp only [q1, q2, q3])
     go_simp
     refine hK.out _ _ (fun _ => n4) ?_
     clear hK K
     (try simp only [Act.put, q4, q5, q6, q1, q2, q3])
     refine AnyTill.one (i := 10) (by kernel_rfl) rfl (fun K hK => ?_)
     (try simp only [q1, q2, q3])
     go_simp
     refine hK.out _ _ (fun h => absurd rfl h) ?_
     clear n4 nf
     clear hK K
     (try simp only [Act.put, q4, q5, q6, q1, q2, q3])
     refine AnyTill.done (by kernel_rfl) ?_ _
     (try simp only [Act.put, q4, q5, q6, q1, q2, q3])
     obtain ⟨W, hW⟩ : ∃ W, (w116.setCell ⟨nb, 4, none⟩ (.slice va116 vn116 vc116)) = W := ⟨_, rfl⟩
     have MW : Hid (Mk c w W _ _ _ _ _ _ _ _) := hidden (hW ▸ M116.out)
     rw [hW]
     clear hW
     obtain ⟨y0, y1, y2, y3, y4, yf⟩ := MW.out.n.cells
     obtain ⟨z0, z1, z2, z3, z4, zf⟩ := MW.out.st.zc
     clear yf
     go_wp2_with fail
     refine bodyPost_ret (results_cell_row rfl _ _ w.heap.size 25 #[.int .i64 20, .int .i64 (c.pl i), .int .i64 0, .string ⟨[].toArray⟩, (.slice va116 vn116 vc116)] (0, 0) _ rfl (MW.out.st.row _ _ _ _ _) Tryz.underlying25 rfl (by kernel_rfl)) rfl ?_
     exact MW.out.ret (s := []) (E115.out) rfl
end
end Go.Proofs.YthjmakjhidjbaaaGreat
