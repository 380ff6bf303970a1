/-
 Layer 8, the program's parser: rules' methods. Condition: the rules that they are made of do as the grammar says.
-/
import Derived.Test.YthjmakjhidjbaaaGreatLibAG
namespace Go.Proofs.YthjmakjhidjbaaaGreat
open Go.ChangeShapes Go.WideShapes Go.ChangeAt Go.RowKit Go.Deep
set_option linter.unusedVariables false
set_option linter.unusedSimpArgs false
set_option maxHeartbeats 2000000
set_option maxRecDepth 20000
attribute [local go_sem ↓] Go.wp_at_zero Go.wp_at_succ

/-- A block that was there, and is no part of what is made. -/
structure Lo (c : PC) (w0 w : World) (q : Nat) (k p N : Int) (s : ByteArray) (v : Value) : Prop where
 n : B5 w q k p N s v
 ne : q ≠ c.b
 lt : q < w0.heap.size
/-- A tree that lies at P, below the method's own. -/
structure HasP (c : PC) (P : Nat → Prop) (w0 w : World) (K : List Tr) (ao : Option Addr) : Prop where
 rl : RL c.pl (fun g => P g ∧ g < w0.heap.size) w K ao
 ne : ∀ g, P g → g ≠ c.b
/-- A token in a variable. -/
structure Tb (c : PC) (w0 w : World) (q : Nat) (k p N : Int) (s : ByteArray) : Prop where
 n : B4 w q k p N s
 hq : w0.heap.size < q
section
variable {c : PC} {P : Nat → Prop} {v0 w0 w w' : World} {i q b : Nat} {k p N : Int} {s : ByteArray} {v : Value} {K : List Tr} {ao : Option Addr}
theorem Lo.only (h : Lo c w0 w q k p N s v) (hs : St c w0 w i) (ho : OnlyB c.b w w') : Lo c w0 w' q k p N s v := ⟨h.n.only ho h.ne, h.ne, h.lt⟩
theorem Lo.below (h : Lo c w0 w q k p N s v) (hb : Below w.heap.size w w') : Lo c w0 w' q k p N s v := ⟨h.n.below hb (Nat.le_refl _), h.ne, h.lt⟩
theorem Lo.alloc (h : Lo c w0 w q k p N s v) (o : Obj) : Lo c w0 (w.alloc o) q k p N s v := ⟨h.n.alloc _, h.ne, h.lt⟩
theorem Lo.drw (h : Lo c w0 w q k p N s v) : Lo c w0 w.drew q k p N s v := ⟨h.n, h.ne, h.lt⟩
theorem HasP.only (h : HasP c P w0 w K ao) (hs : St c w0 w i) (ho : OnlyB c.b w w') : HasP c P w0 w' K ao := ⟨h.rl.onlyQ ho (fun g hg => h.ne g hg.1), h.ne⟩
theorem HasP.below (h : HasP c P w0 w K ao) (hb : Below w.heap.size w w') : HasP c P w0 w' K ao := ⟨h.rl.keep (fun g _ hl => hb.block g hl), h.ne⟩
theorem HasP.alloc (h : HasP c P w0 w K ao) (o : Obj) : HasP c P w0 (w.alloc o) K ao := ⟨RL.alloc h.rl o, h.ne⟩
theorem HasP.drw (h : HasP c P w0 w K ao) : HasP c P w0 w.drew K ao := ⟨h.rl.keep (fun _ _ _ => rfl), h.ne⟩
theorem Tb.only (h : Tb c w0 w q k p N s) (hs : St c w0 w i) (ho : OnlyB c.b w w') : Tb c w0 w' q k p N s := ⟨h.n.only ho (by have := hs.b0; have := h.hq; omega), h.hq⟩
theorem Tb.below (h : Tb c w0 w q k p N s) (hb : Below w.heap.size w w') : Tb c w0 w' q k p N s := ⟨h.n.below hb, h.hq⟩
theorem Tb.alloc (h : Tb c w0 w q k p N s) (o : Obj) : Tb c w0 (w.alloc o) q k p N s := ⟨h.n.alloc _, h.hq⟩
theorem Tb.drw (h : Tb c w0 w q k p N s) : Tb c w0 w.drew q k p N s := ⟨h.n, h.hq⟩
theorem Tb.new (h : St c w0 w i) (k p N : Int) (s : ByteArray) : Tb c w0 (w.alloc (.cells #[.int .i64 k, .int .i64 p, .int .i64 N, .string s] 40)) w.heap.size k p N s := ⟨B4.new _ _ _ _ _, h.size⟩
/-- A row that was laid. -/
structure Rw (c : PC) (w0 w : World) (g : Nat) (cs : Array Value) : Prop where
 blk : w.heap[g]? = some (.cells cs 25 (0, 0))
 hq : w0.heap.size < g
theorem Rw.new (h : St c w0 w i) (cs : Array Value) : Rw c w0 (w.alloc (.cells cs 25)) w.heap.size cs := ⟨blk_alloc_new _ _, h.size⟩
theorem Rw.only {cs : Array Value} (h : Rw c w0 w q cs) (hs : St c w0 w i) (ho : OnlyB c.b w w') : Rw c w0 w' q cs := ⟨(ho.block q (lt_of_some h.blk) (by have := hs.b0; have := h.hq; intro (e : q = c.b); omega)).trans h.blk, h.hq⟩
theorem Rw.below {cs : Array Value} (h : Rw c w0 w q cs) (hb : Below w.heap.size w w') : Rw c w0 w' q cs := ⟨(hb.block q (lt_of_some h.blk)).trans h.blk, h.hq⟩
theorem Rw.alloc {cs : Array Value} (h : Rw c w0 w q cs) (o : Obj) : Rw c w0 (w.alloc o) q cs := ⟨(blk_alloc_lt _ _ _ (lt_of_some h.blk)).trans h.blk, h.hq⟩
theorem Rw.drw {cs : Array Value} (h : Rw c w0 w q cs) : Rw c w0 w.drew q cs := ⟨h.blk, h.hq⟩
theorem Rw.fill {cs : Array Value} (h : Rw c w0 w q cs) (hb : q ≠ b) (a' b' d' : Int) (s' : ByteArray) (v' : Value) : Rw c w0 (fill5 w b a' b' d' s' v') q cs := ⟨(fill5_blk w hb _ _ _ _ _).trans h.blk, h.hq⟩
theorem HasP.fill (h : HasP c P w0 w K ao) (hb : w0.heap.size < b) (a' b' d' : Int) (s' : ByteArray) (v' : Value) : HasP c P w0 (fill5 w b a' b' d' s' v') K ao := ⟨h.rl.fill5 (fun g hg => by omega) _ _ _ _ _, h.ne⟩
theorem Lc.fillq (h : Lc c w0 w q k p N s v) (a' b' d' : Int) (s' : ByteArray) (v' : Value) : Lc c w0 (fill5 w q a' b' d' s' v') q a' b' d' s' v' := ⟨h.n.fill _ _ _ _ _, h.hq⟩
/-- A tree between two bounds. -/
structure HasI (c : PC) (A B : Nat) (w : World) (K : List Tr) (ao : Option Addr) : Prop where
 rl : RL c.pl (fun g => A ≤ g ∧ g < B) w K ao
 le : B ≤ w.heap.size
theorem HasI.of {W : World} (h : RL c.pl (fun g => W.heap.size ≤ g) w K ao) : HasI c W.heap.size w.heap.size w K ao := ⟨h.mono (fun g hg hl => ⟨hg, hl⟩), Nat.le_refl _⟩
theorem HasI.only {A B : Nat} (h : HasI c A B w K ao) (hs : St c w0 w i) (ho : OnlyB c.b w w') (hA : c.b < A) : HasI c A B w' K ao := ⟨h.rl.onlyQ ho (fun g hg => by omega), Nat.le_trans h.le ho.size⟩
theorem HasI.below {A B : Nat} (h : HasI c A B w K ao) (hb : Below w.heap.size w w') : HasI c A B w' K ao := ⟨h.rl.keep (fun g _ hl => hb.block g hl), Nat.le_trans h.le hb.size⟩
theorem HasI.alloc {A B : Nat} (h : HasI c A B w K ao) (o : Obj) : HasI c A B (w.alloc o) K ao := ⟨RL.alloc h.rl o, by rw [nblk_alloc]; exact Nat.le_succ_of_le h.le⟩
theorem HasI.fillX {A B : Nat} (h : HasI c A B w K ao) (hb : b < A ∨ B ≤ b) (a' b' d' : Int) (s' : ByteArray) (v' : Value) (hA : w0.heap.size + 1 ≤ A) : Has c w0 (fill5 w b a' b' d' s' v') K ao := (h.rl.fill5 (fun g hg => by omega) _ _ _ _ _).mono (fun g hg _ => by omega)
theorem St.stopP (h : St c w0 w i) (hv : OnlyB c.b v0 w0) {m : Nat} (ho : OnlyB c.b w w') {R : Res} (hR : R = .error m) : GotP c P R v0 (.panicked [faultQ (c.pl m)]) w' := by
 subst hR
 exact ⟨rfl, hv.trans (h.on.trans ho)⟩
/-- A tree told that has parts at P, and new ones. -/
theorem St.retP (h : St c w0 w i) (hv : OnlyB c.b v0 w0) {x : Tr} {cp : Nat} (hx : RL c.pl (fun g => (P g ∧ g < w0.heap.size) ∨ w0.heap.size + 1 ≤ g) w x.L ao) (hP : ∀ g, P g → g < w0.heap.size → g < v0.heap.size ∨ v0.heap.size ≤ g) {R : Res} (hR : R = .ok (x, i)) {e : Ending} (he : e = .returned (.agg #[.int .i64 x.kind, .int .i64 (c.pl x.pl), .int .i64 x.N, .string ⟨x.S.toArray⟩, .slice ao x.L.length cp])) : GotP c P R v0 e (fill5 w w0.heap.size x.kind (c.pl x.pl) x.N ⟨x.S.toArray⟩ (.slice ao x.L.length cp)) := by
 subst hR he
 have hz := hv.size
 refine ⟨_, _, rfl, (hx.fill5 (fun g hg => by omega) _ _ _ _ _).mono (fun g hg _ => hg.imp (fun h => h.1) (fun h => by omega)), ?_, hv.trans (h.on.fill5 (Nat.le_refl _) _ _ _ _ _)⟩
 exact h.ps.keep (S := fun k => k = w0.heap.size) ⟨rfl, rfl, rfl, by unfold fill5; simp only [nblk_setCell]; exact Nat.le_refl _, fun k _ hk => fill5_blk w hk _ _ _ _ _⟩ (by have := h.b0; omega) (by have := h.g0; omega)
end
section
variable {c : PC} {i : Nat}
theorem m_part {R : Res} {v0 : World} {x : Tr} {ao : Option Addr} {cp : Nat} {P : Nat → Prop} (h : PS c v0 i) (hi : i < c.ts.length) (hP : ∀ g, P g → g ≠ c.b) (hx : RL c.pl P v0 x.L ao) (hd : isS [46] (tk c.ts i) = true ∨ isS [46, 40] (tk c.ts i) = true) (ih : Beh c i) (hE : R = exec c.ts (reads c.ts) (.skip [46] (.token 3 fun t => .ret (.mk 12 i 0 t.S [x])) (.must [46, 40] (.call .seq fun y => .must [41] (.ret (.mk 14 i 0 [] [x, y]))))) i) : Calls Tryz.prog 183 #[.pointer (some ⟨c.b, 0, none⟩), .agg #[.int .i64 x.kind, .int .i64 (c.pl x.pl), .int .i64 x.N, .string ⟨x.S.toArray⟩, .slice ao x.L.length cp]] v0 fun e w' => GotP c P R v0 e w' := by
 have E0 := hidden hE
 have fl := fld3
 have zz : (v0.alloc (.cells #[.int .i64 x.kind, .int .i64 (c.pl x.pl), .int .i64 x.N, .string ⟨x.S.toArray⟩, .slice ao x.L.length cp] 25)).heap.size = v0.heap.size + 1 := nblk_alloc _ _
 have S0 := hidden (St.new (h.alloc (.cells #[.int .i64 x.kind, .int .i64 (c.pl x.pl), .int .i64 x.N, .string ⟨x.S.toArray⟩, .slice ao x.L.length cp] 25)))
 have HO := hidden (alloc_only v0 c.b (.cells #[.int .i64 x.kind, .int .i64 (c.pl x.pl), .int .i64 x.N, .string ⟨x.S.toArray⟩, .slice ao x.L.length cp] 25))
 have VO0 : Lo c (v0.alloc (.cells #[.int .i64 x.kind, .int .i64 (c.pl x.pl), .int .i64 x.N, .string ⟨x.S.toArray⟩, .slice ao x.L.length cp] 25)) ((v0.alloc (.cells #[.int .i64 x.kind, .int .i64 (c.pl x.pl), .int .i64 x.N, .string ⟨x.S.toArray⟩, .slice ao x.L.length cp] 25)).alloc (.cells #[.int .i64 0, .int .i64 0, .int .i64 0, .string ⟨#[]⟩, .slice none 0 0] 25)) v0.heap.size x.kind (c.pl x.pl) x.N ⟨x.S.toArray⟩ (.slice ao x.L.length cp) := ⟨(B5.new _ _ _ _ _ _).alloc _, by have := h.lt; omega, by rw [nblk_alloc]; omega⟩
 have HP0 : HasP c P (v0.alloc (.cells #[.int .i64 x.kind, .int .i64 (c.pl x.pl), .int .i64 x.N, .string ⟨x.S.toArray⟩, .slice ao x.L.length cp] 25)) ((v0.alloc (.cells #[.int .i64 x.kind, .int .i64 (c.pl x.pl), .int .i64 x.N, .string ⟨x.S.toArray⟩, .slice ao x.L.length cp] 25)).alloc (.cells #[.int .i64 0, .int .i64 0, .int .i64 0, .string ⟨#[]⟩, .slice none 0 0] 25)) x.L ao := ⟨(((hx.mono (Q := fun g => P g ∧ g < (v0.alloc (.cells #[.int .i64 x.kind, .int .i64 (c.pl x.pl), .int .i64 x.N, .string ⟨x.S.toArray⟩, .slice ao x.L.length cp] 25)).heap.size) (fun g hg hl => ⟨hg, by rw [nblk_alloc]; omega⟩)).alloc _).alloc _), hP⟩
 have VO := hidden VO0
 have HX := hidden HP0
 clear h hE hx hP VO0 HP0
 go_enter Tryz.func183, Tryz.ntmps183
 go_wp2_with fail
 obtain ⟨w, hW⟩ : ∃ W0, v0.alloc (.cells #[.int .i64 x.kind, .int .i64 (c.pl x.pl), .int .i64 x.N, .string ⟨x.S.toArray⟩, .slice ao x.L.length cp] 25) = W0 := ⟨_, rfl⟩
 rw [hW] at S0 HO VO HX zz
 rw [hW, ← zz]
 have ZZ := hidden zz
 clear hW zz
 cases hs : isS [46] (tk c.ts i) with
 | true =>
  have E8 := hidden (ex_skip E0.out hs)
  have htk := take8 S0.out.ps hi
  rw [(isS_is hs).1] at htk
  refine htk.mono ?_
  clear htk
  rintro e w1 ⟨rfl, hp, ho⟩
  have VO_1 := hidden (VO.out.only S0.out ho)
  have HX_1 := hidden (HX.out.only S0.out ho)
  have S1 := hidden (S0.out.only ho hp)
  clear hp ho
  go_wp2_with fail
  have S2 := hidden (S1.out.alloc (.cells #[.int .i64 (tk c.ts i).kind, .int .i64 (c.pl i), .int .i64 (tk c.ts i).N, .string ⟨#[46]⟩] 40))
  have VO_2 := hidden (VO_1.out.alloc (.cells #[.int .i64 (tk c.ts i).kind, .int .i64 (c.pl i), .int .i64 (tk c.ts i).N, .string ⟨#[46]⟩] 40))
  have HX_2 := hidden (HX_1.out.alloc (.cells #[.int .i64 (tk c.ts i).kind, .int .i64 (c.pl i), .int .i64 (tk c.ts i).N, .string ⟨#[46]⟩] 40))
  have TT_2 := hidden (Tb.new S1.out (tk c.ts i).kind (c.pl i) (tk c.ts i).N ⟨#[46]⟩)
  obtain ⟨w2, hW⟩ : ∃ W, World.alloc w1 (.cells #[.int .i64 (tk c.ts i).kind, .int .i64 (c.pl i), .int .i64 (tk c.ts i).N, .string ⟨#[46]⟩] 40) = W := ⟨_, rfl⟩
  rw [hW] at S2 VO_2 HX_2 TT_2 ⊢
  clear hW
  obtain ⟨n0, n1, n2, n3, n4, nf⟩ := VO_2.out.n.cells
  obtain ⟨t0, t1, t2, t3, tf⟩ := TT_2.out.n.cells
  clear nf t0 t2 t3 tf
  refine region_till (S := (fun w' => w'.cell? ⟨w1.heap.size, 1, none⟩ = some (.int .i64 (c.pl i)) ∧ w'.cell? ⟨v0.heap.size, 0, none⟩ = some (.int .i64 x.kind) ∧ w'.cell? ⟨v0.heap.size, 1, none⟩ = some (.int .i64 (c.pl x.pl)) ∧ w'.cell? ⟨v0.heap.size, 2, none⟩ = some (.int .i64 x.N) ∧ w'.cell? ⟨v0.heap.size, 3, none⟩ = some (.string ⟨x.S.toArray⟩) ∧ w'.cell? ⟨v0.heap.size, 4, none⟩ = some (.slice ao x.L.length cp))) (kz := 8) (by kernel_rfl) ⟨t1, n0, n1, n2, n3, n4⟩ (fun hHeld => ?_)
  refine AnyTill.tk (i := 0) (v := ?_) hHeld ?_ ?_
  rotate_left
  ·(intro w hSw; (try dsimp only at hSw); go_simp; (try with_reducible rfl))
  (try simp only [Act.put, q4, q5, q6, q1, q2, q3])
  refine AnyTill.tk (i := 1) (v := ?_) hHeld ?_ ?_
  rotate_left
  ·(intro w hSw; (try dsimp only at hSw); go_simp; (try with_reducible rfl))
  (try simp only [Act.put, q4, q5, q6, q1, q2, q3])
  refine AnyTill.tk (i := 2) (v := ?_) hHeld ?_ ?_
  rotate_left
  ·(intro w hSw; (try dsimp only at hSw); go_simp; (try with_reducible rfl))
  (try simp only [Act.put, q4, q5, q6, q1, q2, q3])
  refine AnyTill.tk (i := 5) (v := ?_) hHeld ?_ ?_
  rotate_left
  ·(intro w hSw; (try dsimp only at hSw); go_simp; (try with_reducible rfl))
  (try simp only [Act.put, q4, q5, q6, q1, q2, q3])
  refine AnyTill.two (i := 3) (j := 6) (by kernel_rfl) rfl rfl (fun K hK => ?_) (fun K hK => ?_)
  ·(try simp only [q1, q2, q3])
   go_simp
   cases hs : isK 3 (tk c.ts (i + 1)) with
   | false =>
    refine (mustBe_no (S2.out.drew).ps (by omega) 3 hs).mono ?_
    rintro e w' ⟨rfl, ho⟩
    exact ⟨rfl, (S2.out.drew).stopP HO.out ho (ex_tokenN E8.out hs)⟩
   | true =>
    have t3 := isK_in hs (by decide)
    have E3 := hidden (ex_token E8.out hs (by decide))
    refine (mustBe_yes (S2.out.drew).ps 3 (by decide) hs).mono ?_
    rintro e w3 ⟨rfl, hp, ho⟩
    have VO_3 := hidden ((VO_2.out.drw).only (S2.out.drew) ho)
    have HX_3 := hidden ((HX_2.out.drw).only (S2.out.drew) ho)
    have TT_3 := hidden ((TT_2.out.drw).only (S2.out.drew) ho)
    have S3 := hidden ((S2.out.drew).only ho hp)
    clear hp ho hs
    obtain ⟨n0, n1, n2, n3, n4, nf⟩ := VO_3.out.n.cells
    obtain ⟨t0, t1, t2, t3, tf⟩ := TT_3.out.n.cells
    clear nf t0 t2 t3 tf
    refine hK.out _ _ (fun _ => ⟨t1, n0, n1, n2, n3, n4⟩) ?_
    clear hK K
    (try simp only [Act.put, q4, q5, q6, q1, q2, q3])
    refine AnyTill.take (i := 4) (v := ?_) rfl (by kernel_rfl) (by kernel_rfl) (by kernel_rfl) (by kernel_rfl) (fun _ _ _ h => h) (Or.inl ⟨by rfl, ?_⟩) ⟨t1, n0, n1, n2, n3, n4⟩ ?_
    rotate_left
    ·(intro w hSw; (try dsimp only at hSw); go_simp; (try with_reducible rfl))
    (try simp only [Act.put, q4, q5, q6, q1, q2, q3])
    refine AnyTill.one (i := 6) (by kernel_rfl) rfl (fun K hK => ?_)
    (try simp only [q1, q2, q3])
    go_simp
    have S4 := hidden (S3.out.alloc (.cells #[.int .i64 x.kind, .int .i64 (c.pl x.pl), .int .i64 x.N, .string ⟨x.S.toArray⟩, .slice ao x.L.length cp] 25))
    have VO_4 := hidden (VO_3.out.alloc (.cells #[.int .i64 x.kind, .int .i64 (c.pl x.pl), .int .i64 x.N, .string ⟨x.S.toArray⟩, .slice ao x.L.length cp] 25))
    have HX_4 := hidden (HX_3.out.alloc (.cells #[.int .i64 x.kind, .int .i64 (c.pl x.pl), .int .i64 x.N, .string ⟨x.S.toArray⟩, .slice ao x.L.length cp] 25))
    have TT_4 := hidden (TT_3.out.alloc (.cells #[.int .i64 x.kind, .int .i64 (c.pl x.pl), .int .i64 x.N, .string ⟨x.S.toArray⟩, .slice ao x.L.length cp] 25))
    have VR_4 := hidden (Lc.new S3.out x.kind (c.pl x.pl) x.N ⟨x.S.toArray⟩ (.slice ao x.L.length cp))
    obtain ⟨w4, hW⟩ : ∃ W, World.alloc w3 (.cells #[.int .i64 x.kind, .int .i64 (c.pl x.pl), .int .i64 x.N, .string ⟨x.S.toArray⟩, .slice ao x.L.length cp] 25) = W := ⟨_, rfl⟩
    rw [hW] at S4 VO_4 HX_4 TT_4 VR_4 ⊢
    clear hW
    obtain ⟨n0, n1, n2, n3, n4, nf⟩ := VO_4.out.n.cells
    obtain ⟨t0, t1, t2, t3, tf⟩ := TT_4.out.n.cells
    clear nf t0 t2 t3 tf
    refine hK.out _ _ (fun _ => ⟨t1, n0, n1, n2, n3, n4⟩) ?_
    clear hK K
    (try simp only [Act.put, q4, q5, q6, q1, q2, q3])
    refine AnyTill.take (i := 7) (v := ?_) rfl (by kernel_rfl) (by kernel_rfl) (by kernel_rfl) (by kernel_rfl) (fun _ _ _ h => h) (Or.inl ⟨by rfl, ?_⟩) ⟨t1, n0, n1, n2, n3, n4⟩ ?_
    rotate_left
    ·(intro w hSw; (try dsimp only at hSw); go_simp; (try with_reducible rfl))
    (try simp only [Act.put, q4, q5, q6, q1, q2, q3])
    obtain ⟨z0, z1, z2, z3, z4, zf⟩ := S4.out.zc
    refine AnyTill.one (i := 8) (by kernel_rfl) rfl (fun K hK => ?_)
    (try simp only [q1, q2, q3])
    go_simp
    refine hK.out _ _ (fun h => absurd rfl h) ?_
    clear hK K
    (try simp only [Act.put, q4, q5, q6, q1, q2, q3])
    refine AnyTill.done (by kernel_rfl) ?_ _
    (try simp only [Act.put, q4, q5, q6, q1, q2, q3])
    clear t1 n0 n1 n2 n3 n4
    go_wp2_with fail
    refine bodyPost_ret (results_cell_row rfl _ _ w.heap.size 25 #[.int .i64 12, .int .i64 (c.pl i), .int .i64 0, .string ⟨(tk c.ts (i + 1)).S.toArray⟩, .slice (some ⟨w3.heap.size, 0, none⟩) 1 1] (0, 0) _ rfl (S4.out.row _ _ _ _ _) Tryz.underlying25 rfl (by kernel_rfl)) rfl ?_
    exact S4.out.retP (x := .mk 12 i 0 (tk c.ts (i + 1)).S [x]) HO.out (RL.one VR_4.out.n (Or.inr VR_4.out.hq) (HX_4.out.rl.mono (fun g hg _ => Or.inl hg))) (fun g _ _ => by omega) E3.out rfl
  ·(try simp only [q1, q2, q3])
   go_simp
   have S5 := hidden ((S2.out.alloc (.cells #[.int .i64 x.kind, .int .i64 (c.pl x.pl), .int .i64 x.N, .string ⟨x.S.toArray⟩, .slice ao x.L.length cp] 25)).drew)
   have VO_5 := hidden ((VO_2.out.alloc (.cells #[.int .i64 x.kind, .int .i64 (c.pl x.pl), .int .i64 x.N, .string ⟨x.S.toArray⟩, .slice ao x.L.length cp] 25)).drw)
   have HX_5 := hidden ((HX_2.out.alloc (.cells #[.int .i64 x.kind, .int .i64 (c.pl x.pl), .int .i64 x.N, .string ⟨x.S.toArray⟩, .slice ao x.L.length cp] 25)).drw)
   have TT_5 := hidden ((TT_2.out.alloc (.cells #[.int .i64 x.kind, .int .i64 (c.pl x.pl), .int .i64 x.N, .string ⟨x.S.toArray⟩, .slice ao x.L.length cp] 25)).drw)
   have VR_5 := hidden ((Lc.new S2.out x.kind (c.pl x.pl) x.N ⟨x.S.toArray⟩ (.slice ao x.L.length cp)).drw)
   obtain ⟨w5, hW⟩ : ∃ W, (World.alloc w2 (.cells #[.int .i64 x.kind, .int .i64 (c.pl x.pl), .int .i64 x.N, .string ⟨x.S.toArray⟩, .slice ao x.L.length cp] 25)).drew = W := ⟨_, rfl⟩
   rw [hW] at S5 VO_5 HX_5 TT_5 VR_5 ⊢
   clear hW
   obtain ⟨n0, n1, n2, n3, n4, nf⟩ := VO_5.out.n.cells
   obtain ⟨t0, t1, t2, t3, tf⟩ := TT_5.out.n.cells
   clear nf t0 t2 t3 tf
   refine hK.out _ _ (fun _ => ⟨t1, n0, n1, n2, n3, n4⟩) ?_
   clear hK K
   (try simp only [Act.put, q4, q5, q6, q1, q2, q3])
   refine AnyTill.one (i := 3) (by kernel_rfl) rfl (fun K hK => ?_)
   (try simp only [q1, q2, q3])
   go_simp
   cases hs : isK 3 (tk c.ts (i + 1)) with
   | false =>
    refine (mustBe_no S5.out.ps (by omega) 3 hs).mono ?_
    rintro e w' ⟨rfl, ho⟩
    exact ⟨rfl, S5.out.stopP HO.out ho (ex_tokenN E8.out hs)⟩
   | true =>
    have t6 := isK_in hs (by decide)
    have E6 := hidden (ex_token E8.out hs (by decide))
    refine (mustBe_yes S5.out.ps 3 (by decide) hs).mono ?_
    rintro e w6 ⟨rfl, hp, ho⟩
    have VO_6 := hidden (VO_5.out.only S5.out ho)
    have HX_6 := hidden (HX_5.out.only S5.out ho)
    have TT_6 := hidden (TT_5.out.only S5.out ho)
    have VR_6 := hidden (VR_5.out.only S5.out ho)
    have S6 := hidden (S5.out.only ho hp)
    clear hp ho hs
    obtain ⟨n0, n1, n2, n3, n4, nf⟩ := VO_6.out.n.cells
    obtain ⟨t0, t1, t2, t3, tf⟩ := TT_6.out.n.cells
    clear nf t0 t2 t3 tf
    refine hK.out _ _ (fun _ => ⟨t1, n0, n1, n2, n3, n4⟩) ?_
    clear hK K
    (try simp only [Act.put, q4, q5, q6, q1, q2, q3])
    refine AnyTill.take (i := 4) (v := ?_) rfl (by kernel_rfl) (by kernel_rfl) (by kernel_rfl) (by kernel_rfl) (fun _ _ _ h => h) (Or.inl ⟨by rfl, ?_⟩) ⟨t1, n0, n1, n2, n3, n4⟩ ?_
    rotate_left
    ·(intro w hSw; (try dsimp only at hSw); go_simp; (try with_reducible rfl))
    (try simp only [Act.put, q4, q5, q6, q1, q2, q3])
    refine AnyTill.take (i := 7) (v := ?_) rfl (by kernel_rfl) (by kernel_rfl) (by kernel_rfl) (by kernel_rfl) (fun _ _ _ h => h) (Or.inl ⟨by rfl, ?_⟩) ⟨t1, n0, n1, n2, n3, n4⟩ ?_
    rotate_left
    ·(intro w hSw; (try dsimp only at hSw); go_simp; (try with_reducible rfl))
    (try simp only [Act.put, q4, q5, q6, q1, q2, q3])
    obtain ⟨z0, z1, z2, z3, z4, zf⟩ := S6.out.zc
    refine AnyTill.one (i := 8) (by kernel_rfl) rfl (fun K hK => ?_)
    (try simp only [q1, q2, q3])
    go_simp
    refine hK.out _ _ (fun h => absurd rfl h) ?_
    clear hK K
    (try simp only [Act.put, q4, q5, q6, q1, q2, q3])
    refine AnyTill.done (by kernel_rfl) ?_ _
    (try simp only [Act.put, q4, q5, q6, q1, q2, q3])
    clear t1 n0 n1 n2 n3 n4
    go_wp2_with fail
    refine bodyPost_ret (results_cell_row rfl _ _ w.heap.size 25 #[.int .i64 12, .int .i64 (c.pl i), .int .i64 0, .string ⟨(tk c.ts (i + 1)).S.toArray⟩, .slice (some ⟨w2.heap.size, 0, none⟩) 1 1] (0, 0) _ rfl (S6.out.row _ _ _ _ _) Tryz.underlying25 rfl (by kernel_rfl)) rfl ?_
    exact S6.out.retP (x := .mk 12 i 0 (tk c.ts (i + 1)).S [x]) HO.out (RL.one VR_6.out.n (Or.inr VR_6.out.hq) (HX_6.out.rl.mono (fun g hg _ => Or.inl hg))) (fun g _ _ => by omega) E6.out rfl
 | false =>
  have hs2 : isS [46, 40] (tk c.ts i) = true := hd.resolve_left (by rw [hs]; decide)
  have E8 := hidden (ex_must (ex_skipN E0.out hs) hs2)
  clear hs
  have hs := hs2
  clear hs2
  have htk := take8 S0.out.ps hi
  rw [(isS_is hs).1] at htk
  refine htk.mono ?_
  clear htk
  rintro e w7 ⟨rfl, hp, ho⟩
  have VO_7 := hidden (VO.out.only S0.out ho)
  have HX_7 := hidden (HX.out.only S0.out ho)
  have S7 := hidden (S0.out.only ho hp)
  clear hp ho
  go_wp2_with fail
  have S8 := hidden (S7.out.alloc (.cells #[.int .i64 (tk c.ts i).kind, .int .i64 (c.pl i), .int .i64 (tk c.ts i).N, .string ⟨#[46, 40]⟩] 40))
  have VO_8 := hidden (VO_7.out.alloc (.cells #[.int .i64 (tk c.ts i).kind, .int .i64 (c.pl i), .int .i64 (tk c.ts i).N, .string ⟨#[46, 40]⟩] 40))
  have HX_8 := hidden (HX_7.out.alloc (.cells #[.int .i64 (tk c.ts i).kind, .int .i64 (c.pl i), .int .i64 (tk c.ts i).N, .string ⟨#[46, 40]⟩] 40))
  have TT_8 := hidden (Tb.new S7.out (tk c.ts i).kind (c.pl i) (tk c.ts i).N ⟨#[46, 40]⟩)
  obtain ⟨w8, hW⟩ : ∃ W, World.alloc w7 (.cells #[.int .i64 (tk c.ts i).kind, .int .i64 (c.pl i), .int .i64 (tk c.ts i).N, .string ⟨#[46, 40]⟩] 40) = W := ⟨_, rfl⟩
  rw [hW] at S8 VO_8 HX_8 TT_8 ⊢
  clear hW
  obtain ⟨n0, n1, n2, n3, n4, nf⟩ := VO_8.out.n.cells
  obtain ⟨t0, t1, t2, t3, tf⟩ := TT_8.out.n.cells
  clear nf t0 t2 t3 tf
  refine region_till (S := (fun w' => w'.cell? ⟨w7.heap.size, 1, none⟩ = some (.int .i64 (c.pl i)) ∧ w'.cell? ⟨v0.heap.size, 0, none⟩ = some (.int .i64 x.kind) ∧ w'.cell? ⟨v0.heap.size, 1, none⟩ = some (.int .i64 (c.pl x.pl)) ∧ w'.cell? ⟨v0.heap.size, 2, none⟩ = some (.int .i64 x.N) ∧ w'.cell? ⟨v0.heap.size, 3, none⟩ = some (.string ⟨x.S.toArray⟩) ∧ w'.cell? ⟨v0.heap.size, 4, none⟩ = some (.slice ao x.L.length cp))) (kz := 8) (by kernel_rfl) ⟨t1, n0, n1, n2, n3, n4⟩ (fun hHeld => ?_)
  refine AnyTill.tk (i := 0) (v := ?_) hHeld ?_ ?_
  rotate_left
  ·(intro w hSw; (try dsimp only at hSw); go_simp; (try with_reducible rfl))
  (try simp only [Act.put, q4, q5, q6, q1, q2, q3])
  refine AnyTill.tk (i := 1) (v := ?_) hHeld ?_ ?_
  rotate_left
  ·(intro w hSw; (try dsimp only at hSw); go_simp; (try with_reducible rfl))
  (try simp only [Act.put, q4, q5, q6, q1, q2, q3])
  refine AnyTill.tk (i := 2) (v := ?_) hHeld ?_ ?_
  rotate_left
  ·(intro w hSw; (try dsimp only at hSw); go_simp; (try with_reducible rfl))
  (try simp only [Act.put, q4, q5, q6, q1, q2, q3])
  refine AnyTill.tk (i := 3) (v := ?_) hHeld ?_ ?_
  rotate_left
  ·(intro w hSw; (try dsimp only at hSw); go_simp; (try with_reducible rfl))
  (try simp only [Act.put, q4, q5, q6, q1, q2, q3])
  refine AnyTill.two (i := 4) (j := 7) (by kernel_rfl) rfl rfl (fun K hK => ?_) (fun K hK => ?_)
  ·(try simp only [q1, q2, q3])
   go_simp
   have aA := (S8.out.drew).size
   refine ((ih .seq (i + 1) (by omega) (by omega) : Rule c 111 .seq (i + 1)) _ (S8.out.drew).ps).mono ?_
   intro e w9 hg
   cases hx : reads c.ts .seq (i + 1) with
   | error m =>
    rw [hx] at hg
    obtain ⟨rfl, ho⟩ := hg
    exact ⟨rfl, (S8.out.drew).stopP HO.out ho (ex_err E8.out hx)⟩
   | ok xj =>
    obtain ⟨x9, j9⟩ := xj
    have f9 := reads_fine (ts := c.ts) .seq (i := i + 1) (by omega)
    rw [hx] at hg f9
    obtain ⟨ao9, cp9, rfl, hl, hp, ho⟩ := hg
    have E9 := hidden (ex_ok E8.out hx)
    have b9 : j9 ≤ c.ts.length := f9.2.1
    have a9 : i + 1 < j9 := f9.2.2 _ _ rfl rfl
    have XI := hidden (HasI.of hl)
    have X9 := hidden (Has.of hl (S8.out.drew))
    have VO_9 := hidden ((VO_8.out.drw).only (S8.out.drew) ho)
    have HX_9 := hidden ((HX_8.out.drw).only (S8.out.drew) ho)
    have TT_9 := hidden ((TT_8.out.drw).only (S8.out.drew) ho)
    have S9 := hidden ((S8.out.drew).only ho hp)
    clear hl hp ho hx f9
    obtain ⟨n0, n1, n2, n3, n4, nf⟩ := VO_9.out.n.cells
    obtain ⟨t0, t1, t2, t3, tf⟩ := TT_9.out.n.cells
    clear nf t0 t2 t3 tf
    refine hK.out _ _ (fun _ => ⟨t1, n0, n1, n2, n3, n4⟩) ?_
    clear hK K
    (try simp only [Act.put, q4, q5, q6, q1, q2, q3])
    refine AnyTill.two (i := 5) (j := 7) (by kernel_rfl) rfl rfl (fun K hK => ?_) (fun K hK => ?_)
    ·(try simp only [q1, q2, q3])
     go_simp
     have S10 := hidden (S9.out.alloc (.cells #[.int .i64 x.kind, .int .i64 (c.pl x.pl), .int .i64 x.N, .string ⟨x.S.toArray⟩, .slice ao x.L.length cp, .int .i64 x9.kind, .int .i64 (c.pl x9.pl), .int .i64 x9.N, .string ⟨x9.S.toArray⟩, .slice ao9 x9.L.length cp9] 25))
     have VO_10 := hidden (VO_9.out.alloc (.cells #[.int .i64 x.kind, .int .i64 (c.pl x.pl), .int .i64 x.N, .string ⟨x.S.toArray⟩, .slice ao x.L.length cp, .int .i64 x9.kind, .int .i64 (c.pl x9.pl), .int .i64 x9.N, .string ⟨x9.S.toArray⟩, .slice ao9 x9.L.length cp9] 25))
     have HX_10 := hidden (HX_9.out.alloc (.cells #[.int .i64 x.kind, .int .i64 (c.pl x.pl), .int .i64 x.N, .string ⟨x.S.toArray⟩, .slice ao x.L.length cp, .int .i64 x9.kind, .int .i64 (c.pl x9.pl), .int .i64 x9.N, .string ⟨x9.S.toArray⟩, .slice ao9 x9.L.length cp9] 25))
     have TT_10 := hidden (TT_9.out.alloc (.cells #[.int .i64 x.kind, .int .i64 (c.pl x.pl), .int .i64 x.N, .string ⟨x.S.toArray⟩, .slice ao x.L.length cp, .int .i64 x9.kind, .int .i64 (c.pl x9.pl), .int .i64 x9.N, .string ⟨x9.S.toArray⟩, .slice ao9 x9.L.length cp9] 25))
     have XI_10 := hidden (XI.out.alloc (.cells #[.int .i64 x.kind, .int .i64 (c.pl x.pl), .int .i64 x.N, .string ⟨x.S.toArray⟩, .slice ao x.L.length cp, .int .i64 x9.kind, .int .i64 (c.pl x9.pl), .int .i64 x9.N, .string ⟨x9.S.toArray⟩, .slice ao9 x9.L.length cp9] 25))
     have RW_10 := hidden (Rw.new S9.out #[.int .i64 x.kind, .int .i64 (c.pl x.pl), .int .i64 x.N, .string ⟨x.S.toArray⟩, .slice ao x.L.length cp, .int .i64 x9.kind, .int .i64 (c.pl x9.pl), .int .i64 x9.N, .string ⟨x9.S.toArray⟩, .slice ao9 x9.L.length cp9])
     obtain ⟨w10, hW⟩ : ∃ W, World.alloc w9 (.cells #[.int .i64 x.kind, .int .i64 (c.pl x.pl), .int .i64 x.N, .string ⟨x.S.toArray⟩, .slice ao x.L.length cp, .int .i64 x9.kind, .int .i64 (c.pl x9.pl), .int .i64 x9.N, .string ⟨x9.S.toArray⟩, .slice ao9 x9.L.length cp9] 25) = W := ⟨_, rfl⟩
     rw [hW] at S10 VO_10 HX_10 TT_10 XI_10 RW_10 ⊢
     clear hW
     obtain ⟨n0, n1, n2, n3, n4, nf⟩ := VO_10.out.n.cells
     obtain ⟨t0, t1, t2, t3, tf⟩ := TT_10.out.n.cells
     clear nf t0 t2 t3 tf
     refine hK.out _ _ (fun _ => ⟨t1, n0, n1, n2, n3, n4⟩) ?_
     clear hK K
     (try simp only [Act.put, q4, q5, q6, q1, q2, q3])
     refine AnyTill.take (i := 6) (v := ?_) rfl (by kernel_rfl) (by kernel_rfl) (by kernel_rfl) (by kernel_rfl) (fun _ _ _ h => h) (Or.inl ⟨by rfl, ?_⟩) ⟨t1, n0, n1, n2, n3, n4⟩ ?_
     rotate_left
     ·(intro w hSw; (try dsimp only at hSw); go_simp; (try with_reducible rfl))
     (try simp only [Act.put, q4, q5, q6, q1, q2, q3])
     refine AnyTill.one (i := 7) (by kernel_rfl) rfl (fun K hK => ?_)
     (try simp only [q1, q2, q3])
     go_simp
     have qB := XI_10.out.le
     have rq := lt_of_some RW_10.out.blk
     have S11 := hidden (S10.out.alloc (.cells #[.int .i64 0, .int .i64 0, .int .i64 0, .string ⟨#[]⟩, .slice none 0 0] 25))
     have VO_11 := hidden (VO_10.out.alloc (.cells #[.int .i64 0, .int .i64 0, .int .i64 0, .string ⟨#[]⟩, .slice none 0 0] 25))
     have HX_11 := hidden (HX_10.out.alloc (.cells #[.int .i64 0, .int .i64 0, .int .i64 0, .string ⟨#[]⟩, .slice none 0 0] 25))
     have TT_11 := hidden (TT_10.out.alloc (.cells #[.int .i64 0, .int .i64 0, .int .i64 0, .string ⟨#[]⟩, .slice none 0 0] 25))
     have XI_11 := hidden (XI_10.out.alloc (.cells #[.int .i64 0, .int .i64 0, .int .i64 0, .string ⟨#[]⟩, .slice none 0 0] 25))
     have RW_11 := hidden (RW_10.out.alloc (.cells #[.int .i64 0, .int .i64 0, .int .i64 0, .string ⟨#[]⟩, .slice none 0 0] 25))
     have VQ_11 := hidden (Lc.new S10.out 0 0 0 ⟨#[]⟩ (.slice none 0 0))
     obtain ⟨w11, hW⟩ : ∃ W, World.alloc w10 (.cells #[.int .i64 0, .int .i64 0, .int .i64 0, .string ⟨#[]⟩, .slice none 0 0] 25) = W := ⟨_, rfl⟩
     rw [hW] at S11 VO_11 HX_11 TT_11 XI_11 RW_11 VQ_11 ⊢
     clear hW
     obtain ⟨n0, n1, n2, n3, n4, nf⟩ := VO_11.out.n.cells
     obtain ⟨t0, t1, t2, t3, tf⟩ := TT_11.out.n.cells
     clear nf t0 t2 t3 tf
     refine hK.out _ _ (fun _ => ⟨t1, n0, n1, n2, n3, n4⟩) ?_
     clear hK K
     (try simp only [Act.put, q4, q5, q6, q1, q2, q3])
     obtain ⟨q0, q1, q2, q3, q4, qf⟩ := VQ_11.out.n.cells
     refine AnyTill.one (i := 8) (by kernel_rfl) rfl (fun K hK => ?_)
     (try simp only [q1, q2, q3])
     go_simp
     refine hK.out _ _ (fun h => absurd rfl h) ?_
     clear hK K
     (try simp only [Act.put, q4, q5, q6, q1, q2, q3])
     refine AnyTill.done (by kernel_rfl) ?_ _
     (try simp only [Act.put, q4, q5, q6, q1, q2, q3])
     clear t1 n0 n1 n2 n3 n4 q0 q1 q2 q3 q4 qf
     have S12 := hidden (S11.out.fillq VQ_11.out.hq 14 (c.pl i) 0 ⟨#[]⟩ (.slice (some ⟨w9.heap.size, 0, none⟩) 2 2))
     have VF := hidden (VQ_11.out.fillq 14 (c.pl i) 0 ⟨#[]⟩ (.slice (some ⟨w9.heap.size, 0, none⟩) 2 2))
     have RF := hidden (RW_11.out.fill (b := w10.heap.size) (by omega) 14 (c.pl i) 0 ⟨#[]⟩ (.slice (some ⟨w9.heap.size, 0, none⟩) 2 2))
     have XF := hidden (HX_11.out.fill (b := w10.heap.size) VQ_11.out.hq 14 (c.pl i) 0 ⟨#[]⟩ (.slice (some ⟨w9.heap.size, 0, none⟩) 2 2))
     have YF := hidden (XI_11.out.fillX (b := w10.heap.size) (w0 := w) (by omega) 14 (c.pl i) 0 ⟨#[]⟩ (.slice (some ⟨w9.heap.size, 0, none⟩) 2 2) (by omega))
     go_wp2_with fail
     cases hs : isS [41] (tk c.ts (j9)) with
     | false =>
      refine (must_no S12.out.ps (by omega) [41] (by decide) hs).mono ?_
      rintro e w' ⟨rfl, ho⟩
      exact ⟨rfl, S12.out.stopP HO.out ho (ex_mustN E9.out hs)⟩
     | true =>
      have t13 := isS_in hs
      have E13 := hidden (ex_must E9.out hs)
      refine (must_yes S12.out.ps [41] (by decide) hs).mono ?_
      rintro e w13 ⟨rfl, hp, ho⟩
      have VF_13 := hidden (VF.out.only S12.out ho)
      have RF_13 := hidden (RF.out.only S12.out ho)
      have XF_13 := hidden (XF.out.only S12.out ho)
      have YF_13 := hidden (YF.out.only S12.out ho)
      have S13 := hidden (S12.out.only ho hp)
      clear hp ho hs
      obtain ⟨y0, y1, y2, y3, y4, yf⟩ := VF_13.out.n.cells
      obtain ⟨z0, z1, z2, z3, z4, zf⟩ := S13.out.zc
      go_wp2_with fail
      refine bodyPost_ret (results_cell_row rfl _ _ w.heap.size 25 #[.int .i64 14, .int .i64 (c.pl i), .int .i64 0, .string ⟨#[]⟩, .slice (some ⟨w9.heap.size, 0, none⟩) 2 2] (0, 0) _ rfl (S13.out.row _ _ _ _ _) Tryz.underlying25 rfl (by kernel_rfl)) rfl ?_
      exact S13.out.retP (x := .mk 14 i 0 [] [x, x9]) HO.out (RL.two RF_13.out.blk (Or.inr RF_13.out.hq) (XF_13.out.rl.mono (fun g hg _ => Or.inl hg)) (YF_13.out.mono (fun g hg _ => Or.inr hg))) (fun g _ _ => by omega) E13.out rfl
    ·(try simp only [q1, q2, q3])
     go_simp
     have qB := XI.out.le
     have S14 := hidden (S9.out.alloc (.cells #[.int .i64 0, .int .i64 0, .int .i64 0, .string ⟨#[]⟩, .slice none 0 0] 25))
     have VO_14 := hidden (VO_9.out.alloc (.cells #[.int .i64 0, .int .i64 0, .int .i64 0, .string ⟨#[]⟩, .slice none 0 0] 25))
     have HX_14 := hidden (HX_9.out.alloc (.cells #[.int .i64 0, .int .i64 0, .int .i64 0, .string ⟨#[]⟩, .slice none 0 0] 25))
     have TT_14 := hidden (TT_9.out.alloc (.cells #[.int .i64 0, .int .i64 0, .int .i64 0, .string ⟨#[]⟩, .slice none 0 0] 25))
     have XI_14 := hidden (XI.out.alloc (.cells #[.int .i64 0, .int .i64 0, .int .i64 0, .string ⟨#[]⟩, .slice none 0 0] 25))
     have VQ_14 := hidden (Lc.new S9.out 0 0 0 ⟨#[]⟩ (.slice none 0 0))
     obtain ⟨w14, hW⟩ : ∃ W, World.alloc w9 (.cells #[.int .i64 0, .int .i64 0, .int .i64 0, .string ⟨#[]⟩, .slice none 0 0] 25) = W := ⟨_, rfl⟩
     rw [hW] at S14 VO_14 HX_14 TT_14 XI_14 VQ_14 ⊢
     clear hW
     obtain ⟨n0, n1, n2, n3, n4, nf⟩ := VO_14.out.n.cells
     obtain ⟨t0, t1, t2, t3, tf⟩ := TT_14.out.n.cells
     clear nf t0 t2 t3 tf
     refine hK.out _ _ (fun _ => ⟨t1, n0, n1, n2, n3, n4⟩) ?_
     clear hK K
     (try simp only [Act.put, q4, q5, q6, q1, q2, q3])
     refine AnyTill.one (i := 5) (by kernel_rfl) rfl (fun K hK => ?_)
     (try simp only [q1, q2, q3])
     go_simp
     have rq := VQ_14.out.n.lt
     have S15 := hidden (S14.out.alloc (.cells #[.int .i64 x.kind, .int .i64 (c.pl x.pl), .int .i64 x.N, .string ⟨x.S.toArray⟩, .slice ao x.L.length cp, .int .i64 x9.kind, .int .i64 (c.pl x9.pl), .int .i64 x9.N, .string ⟨x9.S.toArray⟩, .slice ao9 x9.L.length cp9] 25))
     have VO_15 := hidden (VO_14.out.alloc (.cells #[.int .i64 x.kind, .int .i64 (c.pl x.pl), .int .i64 x.N, .string ⟨x.S.toArray⟩, .slice ao x.L.length cp, .int .i64 x9.kind, .int .i64 (c.pl x9.pl), .int .i64 x9.N, .string ⟨x9.S.toArray⟩, .slice ao9 x9.L.length cp9] 25))
     have HX_15 := hidden (HX_14.out.alloc (.cells #[.int .i64 x.kind, .int .i64 (c.pl x.pl), .int .i64 x.N, .string ⟨x.S.toArray⟩, .slice ao x.L.length cp, .int .i64 x9.kind, .int .i64 (c.pl x9.pl), .int .i64 x9.N, .string ⟨x9.S.toArray⟩, .slice ao9 x9.L.length cp9] 25))
     have TT_15 := hidden (TT_14.out.alloc (.cells #[.int .i64 x.kind, .int .i64 (c.pl x.pl), .int .i64 x.N, .string ⟨x.S.toArray⟩, .slice ao x.L.length cp, .int .i64 x9.kind, .int .i64 (c.pl x9.pl), .int .i64 x9.N, .string ⟨x9.S.toArray⟩, .slice ao9 x9.L.length cp9] 25))
     have XI_15 := hidden (XI_14.out.alloc (.cells #[.int .i64 x.kind, .int .i64 (c.pl x.pl), .int .i64 x.N, .string ⟨x.S.toArray⟩, .slice ao x.L.length cp, .int .i64 x9.kind, .int .i64 (c.pl x9.pl), .int .i64 x9.N, .string ⟨x9.S.toArray⟩, .slice ao9 x9.L.length cp9] 25))
     have VQ_15 := hidden (VQ_14.out.alloc (.cells #[.int .i64 x.kind, .int .i64 (c.pl x.pl), .int .i64 x.N, .string ⟨x.S.toArray⟩, .slice ao x.L.length cp, .int .i64 x9.kind, .int .i64 (c.pl x9.pl), .int .i64 x9.N, .string ⟨x9.S.toArray⟩, .slice ao9 x9.L.length cp9] 25))
     have RW_15 := hidden (Rw.new S14.out #[.int .i64 x.kind, .int .i64 (c.pl x.pl), .int .i64 x.N, .string ⟨x.S.toArray⟩, .slice ao x.L.length cp, .int .i64 x9.kind, .int .i64 (c.pl x9.pl), .int .i64 x9.N, .string ⟨x9.S.toArray⟩, .slice ao9 x9.L.length cp9])
     obtain ⟨w15, hW⟩ : ∃ W, World.alloc w14 (.cells #[.int .i64 x.kind, .int .i64 (c.pl x.pl), .int .i64 x.N, .string ⟨x.S.toArray⟩, .slice ao x.L.length cp, .int .i64 x9.kind, .int .i64 (c.pl x9.pl), .int .i64 x9.N, .string ⟨x9.S.toArray⟩, .slice ao9 x9.L.length cp9] 25) = W := ⟨_, rfl⟩
     rw [hW] at S15 VO_15 HX_15 TT_15 XI_15 VQ_15 RW_15 ⊢
     clear hW
     obtain ⟨n0, n1, n2, n3, n4, nf⟩ := VO_15.out.n.cells
     obtain ⟨t0, t1, t2, t3, tf⟩ := TT_15.out.n.cells
     clear nf t0 t2 t3 tf
     refine hK.out _ _ (fun _ => ⟨t1, n0, n1, n2, n3, n4⟩) ?_
     clear hK K
     (try simp only [Act.put, q4, q5, q6, q1, q2, q3])
     refine AnyTill.take (i := 6) (v := ?_) rfl (by kernel_rfl) (by kernel_rfl) (by kernel_rfl) (by kernel_rfl) (fun _ _ _ h => h) (Or.inl ⟨by rfl, ?_⟩) ⟨t1, n0, n1, n2, n3, n4⟩ ?_
     rotate_left
     ·(intro w hSw; (try dsimp only at hSw); go_simp; (try with_reducible rfl))
     (try simp only [Act.put, q4, q5, q6, q1, q2, q3])
     obtain ⟨q0, q1, q2, q3, q4, qf⟩ := VQ_15.out.n.cells
     refine AnyTill.one (i := 8) (by kernel_rfl) rfl (fun K hK => ?_)
     (try simp only [q1, q2, q3])
     go_simp
     refine hK.out _ _ (fun h => absurd rfl h) ?_
     clear hK K
     (try simp only [Act.put, q4, q5, q6, q1, q2, q3])
     refine AnyTill.done (by kernel_rfl) ?_ _
     (try simp only [Act.put, q4, q5, q6, q1, q2, q3])
     clear t1 n0 n1 n2 n3 n4 q0 q1 q2 q3 q4 qf
     have S16 := hidden (S15.out.fillq VQ_15.out.hq 14 (c.pl i) 0 ⟨#[]⟩ (.slice (some ⟨w14.heap.size, 0, none⟩) 2 2))
     have VF := hidden (VQ_15.out.fillq 14 (c.pl i) 0 ⟨#[]⟩ (.slice (some ⟨w14.heap.size, 0, none⟩) 2 2))
     have RF := hidden (RW_15.out.fill (b := w9.heap.size) (by omega) 14 (c.pl i) 0 ⟨#[]⟩ (.slice (some ⟨w14.heap.size, 0, none⟩) 2 2))
     have XF := hidden (HX_15.out.fill (b := w9.heap.size) VQ_15.out.hq 14 (c.pl i) 0 ⟨#[]⟩ (.slice (some ⟨w14.heap.size, 0, none⟩) 2 2))
     have YF := hidden (XI_15.out.fillX (b := w9.heap.size) (w0 := w) (by omega) 14 (c.pl i) 0 ⟨#[]⟩ (.slice (some ⟨w14.heap.size, 0, none⟩) 2 2) (by omega))
     go_wp2_with fail
     cases hs : isS [41] (tk c.ts (j9)) with
     | false =>
      refine (must_no S16.out.ps (by omega) [41] (by decide) hs).mono ?_
      rintro e w' ⟨rfl, ho⟩
      exact ⟨rfl, S16.out.stopP HO.out ho (ex_mustN E9.out hs)⟩
     | true =>
      have t17 := isS_in hs
      have E17 := hidden (ex_must E9.out hs)
      refine (must_yes S16.out.ps [41] (by decide) hs).mono ?_
      rintro e w17 ⟨rfl, hp, ho⟩
      have VF_17 := hidden (VF.out.only S16.out ho)
      have RF_17 := hidden (RF.out.only S16.out ho)
      have XF_17 := hidden (XF.out.only S16.out ho)
      have YF_17 := hidden (YF.out.only S16.out ho)
      have S17 := hidden (S16.out.only ho hp)
      clear hp ho hs
      obtain ⟨y0, y1, y2, y3, y4, yf⟩ := VF_17.out.n.cells
      obtain ⟨z0, z1, z2, z3, z4, zf⟩ := S17.out.zc
      go_wp2_with fail
      refine bodyPost_ret (results_cell_row rfl _ _ w.heap.size 25 #[.int .i64 14, .int .i64 (c.pl i), .int .i64 0, .string ⟨#[]⟩, .slice (some ⟨w14.heap.size, 0, none⟩) 2 2] (0, 0) _ rfl (S17.out.row _ _ _ _ _) Tryz.underlying25 rfl (by kernel_rfl)) rfl ?_
      exact S17.out.retP (x := .mk 14 i 0 [] [x, x9]) HO.out (RL.two RF_17.out.blk (Or.inr RF_17.out.hq) (XF_17.out.rl.mono (fun g hg _ => Or.inl hg)) (YF_17.out.mono (fun g hg _ => Or.inr hg))) (fun g _ _ => by omega) E17.out rfl
  ·(try simp only [q1, q2, q3])
   go_simp
   have S18 := hidden ((S8.out.alloc (.cells #[.int .i64 0, .int .i64 0, .int .i64 0, .string ⟨#[]⟩, .slice none 0 0] 25)).drew)
   have VO_18 := hidden ((VO_8.out.alloc (.cells #[.int .i64 0, .int .i64 0, .int .i64 0, .string ⟨#[]⟩, .slice none 0 0] 25)).drw)
   have HX_18 := hidden ((HX_8.out.alloc (.cells #[.int .i64 0, .int .i64 0, .int .i64 0, .string ⟨#[]⟩, .slice none 0 0] 25)).drw)
   have TT_18 := hidden ((TT_8.out.alloc (.cells #[.int .i64 0, .int .i64 0, .int .i64 0, .string ⟨#[]⟩, .slice none 0 0] 25)).drw)
   have VQ_18 := hidden ((Lc.new S8.out 0 0 0 ⟨#[]⟩ (.slice none 0 0)).drw)
   obtain ⟨w18, hW⟩ : ∃ W, (World.alloc w8 (.cells #[.int .i64 0, .int .i64 0, .int .i64 0, .string ⟨#[]⟩, .slice none 0 0] 25)).drew = W := ⟨_, rfl⟩
   rw [hW] at S18 VO_18 HX_18 TT_18 VQ_18 ⊢
   clear hW
   obtain ⟨n0, n1, n2, n3, n4, nf⟩ := VO_18.out.n.cells
   obtain ⟨t0, t1, t2, t3, tf⟩ := TT_18.out.n.cells
   clear nf t0 t2 t3 tf
   refine hK.out _ _ (fun _ => ⟨t1, n0, n1, n2, n3, n4⟩) ?_
   clear hK K
   (try simp only [Act.put, q4, q5, q6, q1, q2, q3])
   refine AnyTill.one (i := 4) (by kernel_rfl) rfl (fun K hK => ?_)
   (try simp only [q1, q2, q3])
   go_simp
   have qA := VQ_18.out.n.lt
   have aA := S18.out.size
   refine ((ih .seq (i + 1) (by omega) (by omega) : Rule c 111 .seq (i + 1)) _ S18.out.ps).mono ?_
   intro e w19 hg
   cases hx : reads c.ts .seq (i + 1) with
   | error m =>
    rw [hx] at hg
    obtain ⟨rfl, ho⟩ := hg
    exact ⟨rfl, S18.out.stopP HO.out ho (ex_err E8.out hx)⟩
   | ok xj =>
    obtain ⟨x19, j19⟩ := xj
    have f19 := reads_fine (ts := c.ts) .seq (i := i + 1) (by omega)
    rw [hx] at hg f19
    obtain ⟨ao19, cp19, rfl, hl, hp, ho⟩ := hg
    have E19 := hidden (ex_ok E8.out hx)
    have b19 : j19 ≤ c.ts.length := f19.2.1
    have a19 : i + 1 < j19 := f19.2.2 _ _ rfl rfl
    have XI := hidden (HasI.of hl)
    have X19 := hidden (Has.of hl S18.out)
    have VO_19 := hidden (VO_18.out.only S18.out ho)
    have HX_19 := hidden (HX_18.out.only S18.out ho)
    have TT_19 := hidden (TT_18.out.only S18.out ho)
    have VQ_19 := hidden (VQ_18.out.only S18.out ho)
    have S19 := hidden (S18.out.only ho hp)
    clear hl hp ho hx f19
    obtain ⟨n0, n1, n2, n3, n4, nf⟩ := VO_19.out.n.cells
    obtain ⟨t0, t1, t2, t3, tf⟩ := TT_19.out.n.cells
    clear nf t0 t2 t3 tf
    refine hK.out _ _ (fun _ => ⟨t1, n0, n1, n2, n3, n4⟩) ?_
    clear hK K
    (try simp only [Act.put, q4, q5, q6, q1, q2, q3])
    refine AnyTill.one (i := 5) (by kernel_rfl) rfl (fun K hK => ?_)
    (try simp only [q1, q2, q3])
    go_simp
    have rq := VQ_19.out.n.lt
    have S20 := hidden (S19.out.alloc (.cells #[.int .i64 x.kind, .int .i64 (c.pl x.pl), .int .i64 x.N, .string ⟨x.S.toArray⟩, .slice ao x.L.length cp, .int .i64 x19.kind, .int .i64 (c.pl x19.pl), .int .i64 x19.N, .string ⟨x19.S.toArray⟩, .slice ao19 x19.L.length cp19] 25))
    have VO_20 := hidden (VO_19.out.alloc (.cells #[.int .i64 x.kind, .int .i64 (c.pl x.pl), .int .i64 x.N, .string ⟨x.S.toArray⟩, .slice ao x.L.length cp, .int .i64 x19.kind, .int .i64 (c.pl x19.pl), .int .i64 x19.N, .string ⟨x19.S.toArray⟩, .slice ao19 x19.L.length cp19] 25))
    have HX_20 := hidden (HX_19.out.alloc (.cells #[.int .i64 x.kind, .int .i64 (c.pl x.pl), .int .i64 x.N, .string ⟨x.S.toArray⟩, .slice ao x.L.length cp, .int .i64 x19.kind, .int .i64 (c.pl x19.pl), .int .i64 x19.N, .string ⟨x19.S.toArray⟩, .slice ao19 x19.L.length cp19] 25))
    have TT_20 := hidden (TT_19.out.alloc (.cells #[.int .i64 x.kind, .int .i64 (c.pl x.pl), .int .i64 x.N, .string ⟨x.S.toArray⟩, .slice ao x.L.length cp, .int .i64 x19.kind, .int .i64 (c.pl x19.pl), .int .i64 x19.N, .string ⟨x19.S.toArray⟩, .slice ao19 x19.L.length cp19] 25))
    have VQ_20 := hidden (VQ_19.out.alloc (.cells #[.int .i64 x.kind, .int .i64 (c.pl x.pl), .int .i64 x.N, .string ⟨x.S.toArray⟩, .slice ao x.L.length cp, .int .i64 x19.kind, .int .i64 (c.pl x19.pl), .int .i64 x19.N, .string ⟨x19.S.toArray⟩, .slice ao19 x19.L.length cp19] 25))
    have XI_20 := hidden (XI.out.alloc (.cells #[.int .i64 x.kind, .int .i64 (c.pl x.pl), .int .i64 x.N, .string ⟨x.S.toArray⟩, .slice ao x.L.length cp, .int .i64 x19.kind, .int .i64 (c.pl x19.pl), .int .i64 x19.N, .string ⟨x19.S.toArray⟩, .slice ao19 x19.L.length cp19] 25))
    have RW_20 := hidden (Rw.new S19.out #[.int .i64 x.kind, .int .i64 (c.pl x.pl), .int .i64 x.N, .string ⟨x.S.toArray⟩, .slice ao x.L.length cp, .int .i64 x19.kind, .int .i64 (c.pl x19.pl), .int .i64 x19.N, .string ⟨x19.S.toArray⟩, .slice ao19 x19.L.length cp19])
    obtain ⟨w20, hW⟩ : ∃ W, World.alloc w19 (.cells #[.int .i64 x.kind, .int .i64 (c.pl x.pl), .int .i64 x.N, .string ⟨x.S.toArray⟩, .slice ao x.L.length cp, .int .i64 x19.kind, .int .i64 (c.pl x19.pl), .int .i64 x19.N, .string ⟨x19.S.toArray⟩, .slice ao19 x19.L.length cp19] 25) = W := ⟨_, rfl⟩
    rw [hW] at S20 VO_20 HX_20 TT_20 VQ_20 XI_20 RW_20 ⊢
    clear hW
    obtain ⟨n0, n1, n2, n3, n4, nf⟩ := VO_20.out.n.cells
    obtain ⟨t0, t1, t2, t3, tf⟩ := TT_20.out.n.cells
    clear nf t0 t2 t3 tf
    refine hK.out _ _ (fun _ => ⟨t1, n0, n1, n2, n3, n4⟩) ?_
    clear hK K
    (try simp only [Act.put, q4, q5, q6, q1, q2, q3])
    refine AnyTill.take (i := 6) (v := ?_) rfl (by kernel_rfl) (by kernel_rfl) (by kernel_rfl) (by kernel_rfl) (fun _ _ _ h => h) (Or.inl ⟨by rfl, ?_⟩) ⟨t1, n0, n1, n2, n3, n4⟩ ?_
    rotate_left
    ·(intro w hSw; (try dsimp only at hSw); go_simp; (try with_reducible rfl))
    (try simp only [Act.put, q4, q5, q6, q1, q2, q3])
    obtain ⟨q0, q1, q2, q3, q4, qf⟩ := VQ_20.out.n.cells
    refine AnyTill.one (i := 8) (by kernel_rfl) rfl (fun K hK => ?_)
    (try simp only [q1, q2, q3])
    go_simp
    refine hK.out _ _ (fun h => absurd rfl h) ?_
    clear hK K
    (try simp only [Act.put, q4, q5, q6, q1, q2, q3])
    refine AnyTill.done (by kernel_rfl) ?_ _
    (try simp only [Act.put, q4, q5, q6, q1, q2, q3])
    clear t1 n0 n1 n2 n3 n4 q0 q1 q2 q3 q4 qf
    have S21 := hidden (S20.out.fillq VQ_20.out.hq 14 (c.pl i) 0 ⟨#[]⟩ (.slice (some ⟨w19.heap.size, 0, none⟩) 2 2))
    have VF := hidden (VQ_20.out.fillq 14 (c.pl i) 0 ⟨#[]⟩ (.slice (some ⟨w19.heap.size, 0, none⟩) 2 2))
    have RF := hidden (RW_20.out.fill (b := w8.heap.size) (by omega) 14 (c.pl i) 0 ⟨#[]⟩ (.slice (some ⟨w19.heap.size, 0, none⟩) 2 2))
    have XF := hidden (HX_20.out.fill (b := w8.heap.size) VQ_20.out.hq 14 (c.pl i) 0 ⟨#[]⟩ (.slice (some ⟨w19.heap.size, 0, none⟩) 2 2))
    have YF := hidden (XI_20.out.fillX (b := w8.heap.size) (w0 := w) (by omega) 14 (c.pl i) 0 ⟨#[]⟩ (.slice (some ⟨w19.heap.size, 0, none⟩) 2 2) (by omega))
    go_wp2_with fail
    cases hs : isS [41] (tk c.ts (j19)) with
    | false =>
     refine (must_no S21.out.ps (by omega) [41] (by decide) hs).mono ?_
     rintro e w' ⟨rfl, ho⟩
     exact ⟨rfl, S21.out.stopP HO.out ho (ex_mustN E19.out hs)⟩
    | true =>
     have t22 := isS_in hs
     have E22 := hidden (ex_must E19.out hs)
     refine (must_yes S21.out.ps [41] (by decide) hs).mono ?_
     rintro e w22 ⟨rfl, hp, ho⟩
     have VF_22 := hidden (VF.out.only S21.out ho)
     have RF_22 := hidden (RF.out.only S21.out ho)
     have XF_22 := hidden (XF.out.only S21.out ho)
     have YF_22 := hidden (YF.out.only S21.out ho)
     have S22 := hidden (S21.out.only ho hp)
     clear hp ho hs
     obtain ⟨y0, y1, y2, y3, y4, yf⟩ := VF_22.out.n.cells
     obtain ⟨z0, z1, z2, z3, z4, zf⟩ := S22.out.zc
     go_wp2_with fail
     refine bodyPost_ret (results_cell_row rfl _ _ w.heap.size 25 #[.int .i64 14, .int .i64 (c.pl i), .int .i64 0, .string ⟨#[]⟩, .slice (some ⟨w19.heap.size, 0, none⟩) 2 2] (0, 0) _ rfl (S22.out.row _ _ _ _ _) Tryz.underlying25 rfl (by kernel_rfl)) rfl ?_
     exact S22.out.retP (x := .mk 14 i 0 [] [x, x19]) HO.out (RL.two RF_22.out.blk (Or.inr RF_22.out.hq) (XF_22.out.rl.mono (fun g hg _ => Or.inl hg)) (YF_22.out.mono (fun g hg _ => Or.inr hg))) (fun g _ _ => by omega) E22.out rfl
end
end Go.Proofs.YthjmakjhidjbaaaGreat
