/-
 Layer 8, the program's parser: rules' methods. Condition: the rules that they are made of do as the grammar says.
-/
import Derived.Test.YthjmakjhidjbaaaGreatLibAF
namespace Go.Proofs.YthjmakjhidjbaaaGreat
open Go.ChangeShapes Go.WideShapes Go.ChangeAt Go.RowKit Go.Deep
set_option linter.unusedVariables false
set_option linter.unusedSimpArgs false
set_option maxHeartbeats 2000000
set_option maxRecDepth 20000
attribute [local go_sem ↓] Go.wp_at_zero Go.wp_at_succ

section
variable {c : PC} {w0 w w' : World} {i j q : Nat} {k p N : Int} {s : ByteArray} {v : Value} {L : List ND}
theorem Lc.drw (h : Lc c w0 w q k p N s v) : Lc c w0 w.drew q k p N s v := ⟨h.n, h.hq⟩
theorem Has.drw {K : List Tr} {ao : Option Addr} (h : Has c w0 w K ao) : Has c w0 w.drew K ao := RL.keep h (fun _ _ _ => rfl)
/-- As Has, below a bound. -/
structure HasB (c : PC) (w0 : World) (B : Nat) (w : World) (K : List Tr) (ao : Option Addr) : Prop where
 rl : RL c.pl (fun b => w0.heap.size + 1 ≤ b ∧ b < B) w K ao
 le : B ≤ w.heap.size
theorem HasB.of {K : List Tr} {ao : Option Addr} (h : Has c w0 w K ao) : HasB c w0 w.heap.size w K ao := ⟨h.mono (fun b hb hl => ⟨hb, hl⟩), Nat.le_refl _⟩
theorem HasB.below {B : Nat} {K : List Tr} {ao : Option Addr} (h : HasB c w0 B w K ao) (hb : Below w.heap.size w w') : HasB c w0 B w' K ao := ⟨h.rl.keep (fun g _ hl => hb.block g hl), Nat.le_trans h.le hb.size⟩
theorem HasB.only {B : Nat} {K : List Tr} {ao : Option Addr} (h : HasB c w0 B w K ao) (hs : St c w0 w i) (ho : OnlyB c.b w w') : HasB c w0 B w' K ao := ⟨h.rl.onlyQ ho (fun g hg => by have := hs.b0; omega), Nat.le_trans h.le ho.size⟩
theorem HasB.alloc {B : Nat} {K : List Tr} {ao : Option Addr} (h : HasB c w0 B w K ao) (o : Obj) : HasB c w0 B (w.alloc o) K ao := ⟨RL.alloc h.rl o, by rw [nblk_alloc]; exact Nat.le_succ_of_le h.le⟩
theorem HasB.drw {B : Nat} {K : List Tr} {ao : Option Addr} (h : HasB c w0 B w K ao) : HasB c w0 B w.drew K ao := ⟨h.rl.keep (fun _ _ _ => rfl), h.le⟩
/-- A block laid at a bound or above. -/
structure Lb (c : PC) (w0 : World) (B : Nat) (w : World) (q : Nat) (k p N : Int) (s : ByteArray) (v : Value) : Prop where
 l : Lc c w0 w q k p N s v
 ge : B ≤ q
theorem Lb.new {B : Nat} (h : St c w0 w i) (hB : B ≤ w.heap.size) (k p N : Int) (s : ByteArray) (v : Value) : Lb c w0 B (w.alloc (.cells #[.int .i64 k, .int .i64 p, .int .i64 N, .string s, v] 25)) w.heap.size k p N s v := ⟨Lc.new h k p N s v, hB⟩
theorem Lb.only {B : Nat} (h : Lb c w0 B w q k p N s v) (hs : St c w0 w i) (ho : OnlyB c.b w w') : Lb c w0 B w' q k p N s v := ⟨h.l.only hs ho, h.ge⟩
theorem Lb.below {B : Nat} (h : Lb c w0 B w q k p N s v) (hb : Below w.heap.size w w') : Lb c w0 B w' q k p N s v := ⟨h.l.below hb, h.ge⟩
theorem Lb.alloc {B : Nat} (h : Lb c w0 B w q k p N s v) (o : Obj) : Lb c w0 B (w.alloc o) q k p N s v := ⟨h.l.alloc o, h.ge⟩
theorem Lb.drw {B : Nat} (h : Lb c w0 B w q k p N s v) : Lb c w0 B w.drew q k p N s v := ⟨h.l.drw, h.ge⟩
/-- Behind an append, ahead of the store: only blocks of the method's own have turned. -/
theorem Mk.gone (h : Mk c w0 w i q k p N s v L) {v' : Value} {L' : List ND} (hg : w.grownBy w' v.ownBlock) (hv : NWq c.pl w' (w0.heap.size + 1) q v' L') : OnlyB c.b w0 w' := h.st.on.transB (grown_only hg (fun g e => h.v.ownB e) : Only (fun g => w0.heap.size + 1 ≤ g) w w') (by omega)
/-- A node with its first part: the row and the node lie there; it is filled. -/
theorem Mk.fillAt {g B : Nat} (h : St c w0 w i) {x : Tr} {ao : Option Addr} (cp : Nat) (hr : Lb c w0 B w g x.kind (c.pl x.pl) x.N ⟨x.S.toArray⟩ (.slice ao x.L.length cp)) (hz : Lb c w0 B w q 0 0 0 ⟨#[]⟩ (.slice none 0 0)) (hne : g ≠ q) (hx : HasB c w0 B w x.L ao) (k p N : Int) (s : ByteArray) : Mk c w0 (fill5 w q k p N s (.slice (some ⟨g, 0, none⟩) 1 1)) i q k p N s (.slice (some ⟨g, 0, none⟩) 1 1) [⟨x, ao, cp⟩] := by
 have hg := hr.ge
 have hq := hz.ge
 refine ⟨h.fillq hz.l.hq _ _ _ _ _, hz.l.n.fill _ _ _ _ _, NWq.one ((fill5_blk w hne _ _ _ _ _).trans hr.l.n) hr.l.hq hne ?_, hz.l.hq⟩
 exact (hx.rl.mono (Q := fun b => w0.heap.size + 1 ≤ b ∧ b ≠ q ∧ b ≠ g) (fun b hb hl => ⟨hb.1, by omega, by omega⟩)).fill5 (fun b hb => hb.2.1) _ _ _ _ _
end
section
variable {c : PC} {w : World} {i : Nat}
theorem m_inRow1 {R : Res} {s k1 : Nat} {n1 : NT} {kd : Int} {sg : List UInt8} {T : NT} (h : PS c w i) (hi : i ≤ c.ts.length) (hf : FI c w s k1 kd sg) (hsb : c.b < s) (hsg : sg ≠ []) (hh : hard n1 = true) (ht : body T = .skip sg (.call n1 fun x => .call T fun r => .ret (lst (x :: r.L))) (.ret (lst []))) (e1 : EntersF k1) (r1 : ∀ j, i ≤ j → j ≤ c.ts.length → Rule c k1 n1 j) (hE : R = inR c.ts n1 T sg kd i) : Calls Tryz.prog 150 #[.pointer (some ⟨s + 1, 0, none⟩), .pointer (some ⟨s, 0, none⟩), .pointer (some ⟨s + 3, 0, none⟩), .pointer (some ⟨s + 2, 0, none⟩)] w fun e w' => Got8 c R w e w' := by
 have hl := hf.lt
 have E0 := hidden hE
 have S0 := hidden (St.new h)
 have HF := hidden hf
 have HT := hidden ht
 have H1 := hidden r1
 have fl := fld1
 have c0 := hf.nx
 have l1 : s + 1 < w.heap.size := by omega
 have l2 := Nat.ne_of_lt l1
 clear h hf ht r1 hE
 go_enter Tryz.func150, Tryz.ntmps150
 go_wp2_with fail
 refine (H1.out i (by omega) hi _ S0.out.ps).mono ?_
 intro e w1 hg
 cases hx : reads c.ts n1 (i) with
 | error m =>
  rw [hx] at hg
  obtain ⟨rfl, ho⟩ := hg
  exact ⟨rfl, S0.out.stop ho (in_err E0.out hx)⟩
 | ok xj =>
  obtain ⟨x1, j1⟩ := xj
  have f1 := reads_fine (ts := c.ts) n1 (i := i) (by omega)
  rw [hx] at hg f1
  obtain ⟨ao1, cp1, rfl, hl, hp, ho⟩ := hg
  have E1 := hidden (in_ok E0.out hx)
  have b1 : j1 ≤ c.ts.length := f1.2.1
  have a1 : i < j1 := f1.2.2 _ _ rfl hh
  have X1 := hidden (Has.of hl S0.out)
  have S1 := hidden (S0.out.only ho hp)
  clear hl hp ho hx f1
  clear c0
  have V1 := hidden (Lc.new S1.out x1.kind (c.pl x1.pl) x1.N ⟨x1.S.toArray⟩ (.slice ao1 x1.L.length cp1))
  have F := HF.out.only S1.out.on hsb
  have c1 := F.p
  have c2 := F.sn
  have fz := F.lt
  have d1 : s < w1.heap.size := by omega
  have d2 := Nat.ne_of_lt d1
  have d3 := Nat.ne_of_lt fz
  clear F
  go_wp2_with fail
  cases hs : isS sg (tk c.ts (j1)) with
  | true =>
   have t2 := isS_in hs
   have E2 := hidden ((fun h hs => by rw [h, hs]; rfl : R = _ → _ → R = exec c.ts (reads c.ts) (.call T fun r => .ret (.mk kd j1 0 [] ([x1] ++ r.L))) j1) E1.out hs)
   refine (comesR1 (S1.out.alloc _).ps (by omega) sg hsg hs (by first | exact nblk_alloc _ _ | rfl | simp only [nblk_alloc, nblk_setCell])).mono ?_
   rintro e w2 ⟨rfl, hb⟩
   have X1_2 := hidden ((X1.out.alloc _).below hb)
   have V1_2 := hidden (V1.out.below hb)
   have S2 := hidden ((S1.out.alloc _).below hb)
   clear hb hs c1 c2 d1 d2 d3 fz
   go_wp2_with fail
   have F := HF.out.only S2.out.on hsb
   have c1 := F.p
   have c2 := F.kn
   clear F
   obtain ⟨n0, n1_, n2, n3, n4, nf⟩ := V1_2.out.n.cells
   clear nf
   have XB := hidden (HasB.of X1_2.out)
   refine region_till (S := (fun w' => w'.cell? ⟨s, 0, none⟩ = some (.pointer (some ⟨c.b, 0, none⟩)) ∧ w'.cell? ⟨s + 2, 0, none⟩ = some (.int .i64 kd) ∧ w'.cell? ⟨w1.heap.size, 0, none⟩ = some (.int .i64 x1.kind) ∧ w'.cell? ⟨w1.heap.size, 1, none⟩ = some (.int .i64 (c.pl x1.pl)) ∧ w'.cell? ⟨w1.heap.size, 2, none⟩ = some (.int .i64 x1.N) ∧ w'.cell? ⟨w1.heap.size, 3, none⟩ = some (.string ⟨x1.S.toArray⟩) ∧ w'.cell? ⟨w1.heap.size, 4, none⟩ = some (.slice ao1 x1.L.length cp1))) (kz := 8) (by kernel_rfl) ⟨c1, c2, n0, n1_, n2, n3, n4⟩ (fun hHeld => ?_)
   refine AnyTill.tk (i := 0) (v := ?_) hHeld ?_ ?_
   rotate_left
   ·(intro w hSw; (try dsimp only at hSw); go_simp; (try with_reducible rfl))
   (try simp only [Act.put, q4, q5, q6, q1, q2, q3])
   refine AnyTill.tk (i := 1) (v := ?_) hHeld ?_ ?_
   rotate_left
   ·(intro w hSw; (try dsimp only at hSw); go_simp; (try with_reducible rfl))
   (try simp only [Act.put, q4, q5, q6, q1, q2, q3])
   refine AnyTill.tk (i := 4) (v := ?_) hHeld ?_ ?_
   rotate_left
   ·(intro w hSw; (try dsimp only at hSw); go_simp; (try with_reducible rfl))
   (try simp only [Act.put, q4, q5, q6, q1, q2, q3])
   refine AnyTill.three (i := 2) (j := 5) (k := 7) (by kernel_rfl) rfl rfl rfl (fun K hK => ?_) (fun K hK => ?_) (fun K hK => ?_)
   ·(try simp only [q1, q2, q3])
    go_simp
    refine (next_any (S2.out.drew).ps (by omega)).mono ?_
    rintro e w3 ⟨rfl, hb⟩
    have V1_3 := hidden ((V1_2.out.drw).below hb)
    have XB_3 := hidden ((XB.out.drw).below hb)
    have S3 := hidden ((S2.out.drew).below hb)
    clear hb
    have F := HF.out.only S3.out.on hsb
    obtain ⟨n0, n1_, n2, n3, n4, nf⟩ := V1_3.out.n.cells
    refine hK.out _ _ (fun _ => ⟨F.p, F.kn, n0, n1_, n2, n3, n4⟩) ?_
    clear hK K
    (try simp only [Act.put, q4, q5, q6, q1, q2, q3])
    clear nf
    refine AnyTill.take (i := 3) (v := ?_) rfl (by kernel_rfl) (by kernel_rfl) (by kernel_rfl) (by kernel_rfl) (fun _ _ _ h => h) (Or.inl ⟨by rfl, ?_⟩) ⟨F.p, F.kn, n0, n1_, n2, n3, n4⟩ ?_
    rotate_left
    ·(intro w hSw; (try dsimp only at hSw); go_simp; (try with_reducible rfl))
    (try simp only [Act.put, q4, q5, q6, q1, q2, q3])
    refine AnyTill.two (i := 5) (j := 7) (by kernel_rfl) rfl rfl (fun K hK => ?_) (fun K hK => ?_)
    ·(try simp only [q1, q2, q3])
     go_simp
     have S4 := hidden (S3.out.alloc (.cells #[.int .i64 x1.kind, .int .i64 (c.pl x1.pl), .int .i64 x1.N, .string ⟨x1.S.toArray⟩, .slice ao1 x1.L.length cp1] 25))
     have V1_4 := hidden (V1_3.out.alloc (.cells #[.int .i64 x1.kind, .int .i64 (c.pl x1.pl), .int .i64 x1.N, .string ⟨x1.S.toArray⟩, .slice ao1 x1.L.length cp1] 25))
     have XB_4 := hidden (XB_3.out.alloc (.cells #[.int .i64 x1.kind, .int .i64 (c.pl x1.pl), .int .i64 x1.N, .string ⟨x1.S.toArray⟩, .slice ao1 x1.L.length cp1] 25))
     have VR_4 := hidden (Lb.new (B := w2.heap.size) S3.out XB_3.out.le x1.kind (c.pl x1.pl) x1.N ⟨x1.S.toArray⟩ (.slice ao1 x1.L.length cp1))
     obtain ⟨w4, hW⟩ : ∃ W, World.alloc w3 (.cells #[.int .i64 x1.kind, .int .i64 (c.pl x1.pl), .int .i64 x1.N, .string ⟨x1.S.toArray⟩, .slice ao1 x1.L.length cp1] 25) = W := ⟨_, rfl⟩
     rw [hW] at S4 V1_4 XB_4 VR_4 ⊢
     clear hW
     have F := HF.out.only S4.out.on hsb
     obtain ⟨n0, n1_, n2, n3, n4, nf⟩ := V1_4.out.n.cells
     refine hK.out _ _ (fun _ => ⟨F.p, F.kn, n0, n1_, n2, n3, n4⟩) ?_
     clear hK K
     (try simp only [Act.put, q4, q5, q6, q1, q2, q3])
     clear nf
     refine AnyTill.take (i := 6) (v := ?_) rfl (by kernel_rfl) (by kernel_rfl) (by kernel_rfl) (by kernel_rfl) (fun _ _ _ h => h) (Or.inl ⟨by rfl, ?_⟩) ⟨F.p, F.kn, n0, n1_, n2, n3, n4⟩ ?_
     rotate_left
     ·(intro w hSw; (try dsimp only at hSw); go_simp; (try with_reducible rfl))
     (try simp only [Act.put, q4, q5, q6, q1, q2, q3])
     refine AnyTill.one (i := 7) (by kernel_rfl) rfl (fun K hK => ?_)
     (try simp only [q1, q2, q3])
     go_simp
     have gq := VR_4.out.l.n.lt
     have S5 := hidden (S4.out.alloc (.cells #[.int .i64 0, .int .i64 0, .int .i64 0, .string ⟨#[]⟩, .slice none 0 0] 25))
     have V1_5 := hidden (V1_4.out.alloc (.cells #[.int .i64 0, .int .i64 0, .int .i64 0, .string ⟨#[]⟩, .slice none 0 0] 25))
     have XB_5 := hidden (XB_4.out.alloc (.cells #[.int .i64 0, .int .i64 0, .int .i64 0, .string ⟨#[]⟩, .slice none 0 0] 25))
     have VR_5 := hidden (VR_4.out.alloc (.cells #[.int .i64 0, .int .i64 0, .int .i64 0, .string ⟨#[]⟩, .slice none 0 0] 25))
     have VQ_5 := hidden (Lb.new (B := w2.heap.size) S4.out XB_4.out.le 0 0 0 ⟨#[]⟩ (.slice none 0 0))
     obtain ⟨w5, hW⟩ : ∃ W, World.alloc w4 (.cells #[.int .i64 0, .int .i64 0, .int .i64 0, .string ⟨#[]⟩, .slice none 0 0] 25) = W := ⟨_, rfl⟩
     rw [hW] at S5 V1_5 XB_5 VR_5 VQ_5 ⊢
     clear hW
     have F := HF.out.only S5.out.on hsb
     obtain ⟨n0, n1_, n2, n3, n4, nf⟩ := V1_5.out.n.cells
     refine hK.out _ _ (fun _ => ⟨F.p, F.kn, n0, n1_, n2, n3, n4⟩) ?_
     clear hK K
     (try simp only [Act.put, q4, q5, q6, q1, q2, q3])
     clear nf
     obtain ⟨q0, q1, q2, q3, q4, qf⟩ := VQ_5.out.l.n.cells
     have hrl := VR_5.out.l.n.lt
     have hql := VQ_5.out.l.n.lt
     refine AnyTill.one (i := 8) (by kernel_rfl) rfl (fun K hK => ?_)
     (try simp only [q1, q2, q3])
     go_simp
     refine hK.out _ _ (fun h => absurd rfl h) ?_
     clear hK K
     (try simp only [Act.put, q4, q5, q6, q1, q2, q3])
     refine AnyTill.done (by kernel_rfl) ?_ _
     (try simp only [Act.put, q4, q5, q6, q1, q2, q3])
     have M6 := hidden (Mk.fillAt S5.out cp1 VR_5.out VQ_5.out (by omega) XB_5.out kd (c.pl (j1)) 0 ⟨#[]⟩)
     clear q0 q1 q2 q3 q4 qf
     go_wp2_with fail
     go_loopg [] (c.ts.length + 1 - (j1)) (fun gk wr => InM c w i R T (fun l => .ret (.mk kd (j1) 0 [] l)) w4.heap.size kd (c.pl (j1)) 0 ⟨#[]⟩ gk wr)
     case atStart => exact ⟨_, _, _, _, _, by omega, by omega, (by simp; omega), rfl, M6.out, E2.out⟩
     case round =>
      obtain ⟨k7, ao7, n7, cp7, L7, kb7, ka7, kl7, kg7, hm, hE⟩ := hrel
      have M7 := hidden hm
      have E7 := hidden hE
      clear hm hE
      have F := HF.out.only M7.out.st.on hsb
      have c1 := F.p
      have c2 := F.sn
      clear F
      go_wp2_with fail
      cases hs : isS sg (tk c.ts (k7)) with
      | true =>
       have t8 := isS_in hs
       have E8 := hidden (tail_skip (T := T) (C := fun l => .ret (.mk kd (j1) 0 [] l)) (acc := L7.map ND.t) HT.out kb7 E7.out hs)
       refine (has_yes M7.out.st.ps sg hsg hs).mono ?_
       rintro e w8 ⟨rfl, hp, ho⟩
       have M8 := hidden (M7.out.only ho hp)
       clear hp ho hs
       clear c1 c2
       go_wp2_with fail
       refine region_till (S := (fun w' => w'.cell? ⟨w4.heap.size, 4, none⟩ = some (.slice ao7 n7 cp7) ∧ w'.cell? ⟨s + 1, 0, none⟩ = some (.func (.func k1) #[.pointer (some ⟨c.b, 0, none⟩)] #[]))) (kz := 7) (by kernel_rfl) ⟨M8.out.cell, (HF.out.only M8.out.st.on hsb).nx⟩ (fun hHeld => ?_)
       refine AnyTill.tk (i := 0) (v := ?_) hHeld ?_ ?_
       rotate_left
       ·(intro w hSw; (try dsimp only at hSw); go_simp; (try with_reducible rfl))
       (try simp only [Act.put, q4, q5, q6, q1, q2, q3])
       refine AnyTill.tk (i := 1) (v := ?_) hHeld ?_ ?_
       rotate_left
       ·(intro w hSw; (try dsimp only at hSw); go_simp; (try with_reducible rfl))
       (try simp only [Act.put, q4, q5, q6, q1, q2, q3])
       refine AnyTill.tk (i := 2) (v := ?_) hHeld ?_ ?_
       rotate_left
       ·(intro w hSw; (try dsimp only at hSw); go_simp; (try with_reducible rfl))
       (try simp only [Act.put, q4, q5, q6, q1, q2, q3])
       refine AnyTill.one (i := 3) (by kernel_rfl) rfl (fun K hK => ?_)
       (try simp only [q1, q2, q3])
       go_simp
       refine (H1.out (k7 + 1) (by omega) (by omega) _ (M8.out.drew).st.ps).mono ?_
       intro e w9 hg
       cases hx : reads c.ts n1 (k7 + 1) with
       | error m =>
        rw [hx] at hg
        obtain ⟨rfl, ho⟩ := hg
        exact ⟨rfl, (M8.out.drew).st.stop ho (ex_err E8.out hx)⟩
       | ok xj =>
        obtain ⟨x9, j9⟩ := xj
        have f9 := reads_fine (ts := c.ts) n1 (i := k7 + 1) (by omega)
        rw [hx] at hg f9
        obtain ⟨ao9, cp9, rfl, hl, hp, ho⟩ := hg
        have E9 := hidden (ex_ok E8.out hx)
        have b9 : j9 ≤ c.ts.length := f9.2.1
        have a9 : k7 + 1 < j9 := f9.2.2 _ _ rfl hh
        have X9 := hidden ((M8.out.drew).fresh hl)
        have M9 := hidden ((M8.out.drew).only ho hp)
        clear hl hp ho hx f9
        refine hK.out _ _ (fun _ => ⟨M9.out.cell, (HF.out.only M9.out.st.on hsb).nx⟩) ?_
        clear hHeld
        clear hK K
        (try simp only [Act.put, q4, q5, q6, q1, q2, q3])
        refine AnyTill.one (i := 4) (by kernel_rfl) rfl (fun K hK => ?_)
        (try simp only [q1, q2, q3])
        go_simp
        refine hK.out _ _ (fun _ => ⟨(M9.out.alloc _).cell, (HF.out.only (M9.out.alloc (.cells #[.int .i64 x9.kind, .int .i64 (c.pl x9.pl), .int .i64 x9.N, .string ⟨x9.S.toArray⟩, .slice ao9 x9.L.length cp9] 25)).st.on hsb).nx⟩) ?_
        clear hK K
        (try simp only [Act.put, q4, q5, q6, q1, q2, q3])
        refine AnyTill.one (i := 5) (by kernel_rfl) rfl (fun K hK => ?_)
        refine step_nodes rfl (.tmp 26) (.tmp 29) rfl (.slice ao7 n7 cp7) L7 [⟨x9, ao9, cp9⟩] (by simp [Act.eval]) (M9.out.alloc _).v (by have := (M9.out.alloc (.cells #[.int .i64 x9.kind, .int .i64 (c.pl x9.pl), .int .i64 x9.N, .string ⟨x9.S.toArray⟩, .slice ao9 x9.L.length cp9] 25)).n.lt; omega) w9.heap.size 1 (by simp [Act.eval]) (news_one (blk_alloc_new _ _)) (fun d hd => by rw [List.mem_singleton.1 hd]; exact X9.out.alloc _) (by simp) (by have := c.small; have := c.tm.len; simp; omega) (by have := M9.out.st.size; rw [nblk_alloc]; omega) ?_
        intro va10 vn10 vc10 w10 hv hgr
        have N10 := hidden ((M9.out.alloc _).n.grown hgr M9.out.v.ne)
        have M10 := hidden ((M9.out.alloc _).grown hgr hv)
        obtain ⟨n0, n1, n2, n3, n4, nf⟩ := N10.out.cells
        clear n0 n1 n2 n3
        have G10 := hidden ((M9.out.alloc _).gone hgr hv)
        clear hv hgr
        refine hK.out _ _ (fun _ => ⟨n4, (HF.out.only G10.out hsb).nx⟩) ?_
        clear hK K
        (try simp only [Act.put, q4, q5, q6, q1, q2, q3])
        refine AnyTill.one (i := 6) (by kernel_rfl) rfl (fun K hK => ?_)
        (try simp only [q1, q2, q3])
        go_simp
        refine hK.out _ _ (fun _ => ⟨n4, (HF.out.only G10.out hsb).nx⟩) ?_
        clear hK K
        (try simp only [Act.put, q4, q5, q6, q1, q2, q3])
        refine AnyTill.one (i := 7) (by kernel_rfl) rfl (fun K hK => ?_)
        (try simp only [q1, q2, q3])
        go_simp
        refine hK.out _ _ (fun h => absurd rfl h) ?_
        clear n4 nf
        clear hK K
        (try simp only [Act.put, q4, q5, q6, q1, q2, q3])
        refine AnyTill.done (by kernel_rfl) ?_ _
        (try simp only [Act.put, q4, q5, q6, q1, q2, q3])
        go_wp2_with fail
        go_roundg (c.ts.length + 1 - (j9))
        case rel => exact ⟨_, _, _, _, _, by omega, by omega, by simp; omega, rfl, M10.out, by rw [List.map_append]; exact E9.out⟩
        case measure => omega
      | false =>
       have E8 := hidden (tail_skipN (T := T) (C := fun l => .ret (.mk kd (j1) 0 [] l)) (acc := L7.map ND.t) HT.out kb7 E7.out hs)
       refine (has_no M7.out.st.ps (by omega) sg hsg hs).mono ?_
       rintro e w8 ⟨rfl, hb⟩
       have M8 := hidden (M7.out.below hb)
       clear hb hs
       clear c1 c2
       obtain ⟨y0, y1, y2, y3, y4, yf⟩ := M8.out.n.cells
       obtain ⟨z0, z1, z2, z3, z4, zf⟩ := M8.out.st.zc
       clear yf
       go_wp2_with fail
       refine bodyPost_ret (results_cell_row rfl _ _ w.heap.size 25 #[.int .i64 kd, .int .i64 (c.pl (j1)), .int .i64 0, .string ⟨[].toArray⟩, (.slice ao7 n7 cp7)] (0, 0) _ rfl (M8.out.st.row _ _ _ _ _) Tryz.underlying25 rfl (by kernel_rfl)) rfl ?_
       exact M8.out.ret (s := []) (E8.out) rfl
    ·(try simp only [q1, q2, q3])
     go_simp
     have S12 := hidden (S3.out.alloc (.cells #[.int .i64 0, .int .i64 0, .int .i64 0, .string ⟨#[]⟩, .slice none 0 0] 25))
     have V1_12 := hidden (V1_3.out.alloc (.cells #[.int .i64 0, .int .i64 0, .int .i64 0, .string ⟨#[]⟩, .slice none 0 0] 25))
     have XB_12 := hidden (XB_3.out.alloc (.cells #[.int .i64 0, .int .i64 0, .int .i64 0, .string ⟨#[]⟩, .slice none 0 0] 25))
     have VQ_12 := hidden (Lb.new (B := w2.heap.size) S3.out XB_3.out.le 0 0 0 ⟨#[]⟩ (.slice none 0 0))
     obtain ⟨w12, hW⟩ : ∃ W, World.alloc w3 (.cells #[.int .i64 0, .int .i64 0, .int .i64 0, .string ⟨#[]⟩, .slice none 0 0] 25) = W := ⟨_, rfl⟩
     rw [hW] at S12 V1_12 XB_12 VQ_12 ⊢
     clear hW
     have F := HF.out.only S12.out.on hsb
     obtain ⟨n0, n1_, n2, n3, n4, nf⟩ := V1_12.out.n.cells
     refine hK.out _ _ (fun _ => ⟨F.p, F.kn, n0, n1_, n2, n3, n4⟩) ?_
     clear hK K
     (try simp only [Act.put, q4, q5, q6, q1, q2, q3])
     clear nf
     refine AnyTill.one (i := 5) (by kernel_rfl) rfl (fun K hK => ?_)
     (try simp only [q1, q2, q3])
     go_simp
     have gq := VQ_12.out.l.n.lt
     have S13 := hidden (S12.out.alloc (.cells #[.int .i64 x1.kind, .int .i64 (c.pl x1.pl), .int .i64 x1.N, .string ⟨x1.S.toArray⟩, .slice ao1 x1.L.length cp1] 25))
     have V1_13 := hidden (V1_12.out.alloc (.cells #[.int .i64 x1.kind, .int .i64 (c.pl x1.pl), .int .i64 x1.N, .string ⟨x1.S.toArray⟩, .slice ao1 x1.L.length cp1] 25))
     have XB_13 := hidden (XB_12.out.alloc (.cells #[.int .i64 x1.kind, .int .i64 (c.pl x1.pl), .int .i64 x1.N, .string ⟨x1.S.toArray⟩, .slice ao1 x1.L.length cp1] 25))
     have VQ_13 := hidden (VQ_12.out.alloc (.cells #[.int .i64 x1.kind, .int .i64 (c.pl x1.pl), .int .i64 x1.N, .string ⟨x1.S.toArray⟩, .slice ao1 x1.L.length cp1] 25))
     have VR_13 := hidden (Lb.new (B := w2.heap.size) S12.out XB_12.out.le x1.kind (c.pl x1.pl) x1.N ⟨x1.S.toArray⟩ (.slice ao1 x1.L.length cp1))
     obtain ⟨w13, hW⟩ : ∃ W, World.alloc w12 (.cells #[.int .i64 x1.kind, .int .i64 (c.pl x1.pl), .int .i64 x1.N, .string ⟨x1.S.toArray⟩, .slice ao1 x1.L.length cp1] 25) = W := ⟨_, rfl⟩
     rw [hW] at S13 V1_13 XB_13 VQ_13 VR_13 ⊢
     clear hW
     have F := HF.out.only S13.out.on hsb
     obtain ⟨n0, n1_, n2, n3, n4, nf⟩ := V1_13.out.n.cells
     refine hK.out _ _ (fun _ => ⟨F.p, F.kn, n0, n1_, n2, n3, n4⟩) ?_
     clear hK K
     (try simp only [Act.put, q4, q5, q6, q1, q2, q3])
     clear nf
     refine AnyTill.take (i := 6) (v := ?_) rfl (by kernel_rfl) (by kernel_rfl) (by kernel_rfl) (by kernel_rfl) (fun _ _ _ h => h) (Or.inl ⟨by rfl, ?_⟩) ⟨F.p, F.kn, n0, n1_, n2, n3, n4⟩ ?_
     rotate_left
     ·(intro w hSw; (try dsimp only at hSw); go_simp; (try with_reducible rfl))
     (try simp only [Act.put, q4, q5, q6, q1, q2, q3])
     obtain ⟨q0, q1, q2, q3, q4, qf⟩ := VQ_13.out.l.n.cells
     have hrl := VR_13.out.l.n.lt
     have hql := VQ_13.out.l.n.lt
     refine AnyTill.one (i := 8) (by kernel_rfl) rfl (fun K hK => ?_)
     (try simp only [q1, q2, q3])
     go_simp
     refine hK.out _ _ (fun h => absurd rfl h) ?_
     clear hK K
     (try simp only [Act.put, q4, q5, q6, q1, q2, q3])
     refine AnyTill.done (by kernel_rfl) ?_ _
     (try simp only [Act.put, q4, q5, q6, q1, q2, q3])
     have M14 := hidden (Mk.fillAt S13.out cp1 VR_13.out VQ_13.out (by omega) XB_13.out kd (c.pl (j1)) 0 ⟨#[]⟩)
     clear q0 q1 q2 q3 q4 qf
     go_wp2_with fail
     go_loopg [] (c.ts.length + 1 - (j1)) (fun gk wr => InM c w i R T (fun l => .ret (.mk kd (j1) 0 [] l)) w3.heap.size kd (c.pl (j1)) 0 ⟨#[]⟩ gk wr)
     case atStart => exact ⟨_, _, _, _, _, by omega, by omega, (by simp; omega), rfl, M14.out, E2.out⟩
     case round =>
      obtain ⟨k15, ao15, n15, cp15, L15, kb15, ka15, kl15, kg15, hm, hE⟩ := hrel
      have M15 := hidden hm
      have E15 := hidden hE
      clear hm hE
      have F := HF.out.only M15.out.st.on hsb
      have c1 := F.p
      have c2 := F.sn
      clear F
      go_wp2_with fail
      cases hs : isS sg (tk c.ts (k15)) with
      | true =>
       have t16 := isS_in hs
       have E16 := hidden (tail_skip (T := T) (C := fun l => .ret (.mk kd (j1) 0 [] l)) (acc := L15.map ND.t) HT.out kb15 E15.out hs)
       refine (has_yes M15.out.st.ps sg hsg hs).mono ?_
       rintro e w16 ⟨rfl, hp, ho⟩
       have M16 := hidden (M15.out.only ho hp)
       clear hp ho hs
       clear c1 c2
       go_wp2_with fail
       refine region_till (S := (fun w' => w'.cell? ⟨w3.heap.size, 4, none⟩ = some (.slice ao15 n15 cp15) ∧ w'.cell? ⟨s + 1, 0, none⟩ = some (.func (.func k1) #[.pointer (some ⟨c.b, 0, none⟩)] #[]))) (kz := 7) (by kernel_rfl) ⟨M16.out.cell, (HF.out.only M16.out.st.on hsb).nx⟩ (fun hHeld => ?_)
       refine AnyTill.tk (i := 0) (v := ?_) hHeld ?_ ?_
       rotate_left
       ·(intro w hSw; (try dsimp only at hSw); go_simp; (try with_reducible rfl))
       (try simp only [Act.put, q4, q5, q6, q1, q2, q3])
       refine AnyTill.tk (i := 1) (v := ?_) hHeld ?_ ?_
       rotate_left
       ·(intro w hSw; (try dsimp only at hSw); go_simp; (try with_reducible rfl))
       (try simp only [Act.put, q4, q5, q6, q1, q2, q3])
       refine AnyTill.tk (i := 2) (v := ?_) hHeld ?_ ?_
       rotate_left
       ·(intro w hSw; (try dsimp only at hSw); go_simp; (try with_reducible rfl))
       (try simp only [Act.put, q4, q5, q6, q1, q2, q3])
       refine AnyTill.one (i := 3) (by kernel_rfl) rfl (fun K hK => ?_)
       (try simp only [q1, q2, q3])
       go_simp
       refine (H1.out (k15 + 1) (by omega) (by omega) _ (M16.out.drew).st.ps).mono ?_
       intro e w17 hg
       cases hx : reads c.ts n1 (k15 + 1) with
       | error m =>
        rw [hx] at hg
        obtain ⟨rfl, ho⟩ := hg
        exact ⟨rfl, (M16.out.drew).st.stop ho (ex_err E16.out hx)⟩
       | ok xj =>
        obtain ⟨x17, j17⟩ := xj
        have f17 := reads_fine (ts := c.ts) n1 (i := k15 + 1) (by omega)
        rw [hx] at hg f17
        obtain ⟨ao17, cp17, rfl, hl, hp, ho⟩ := hg
        have E17 := hidden (ex_ok E16.out hx)
        have b17 : j17 ≤ c.ts.length := f17.2.1
        have a17 : k15 + 1 < j17 := f17.2.2 _ _ rfl hh
        have X17 := hidden ((M16.out.drew).fresh hl)
        have M17 := hidden ((M16.out.drew).only ho hp)
        clear hl hp ho hx f17
        refine hK.out _ _ (fun _ => ⟨M17.out.cell, (HF.out.only M17.out.st.on hsb).nx⟩) ?_
        clear hHeld
        clear hK K
        (try simp only [Act.put, q4, q5, q6, q1, q2, q3])
        refine AnyTill.one (i := 4) (by kernel_rfl) rfl (fun K hK => ?_)
        (try simp only [q1, q2, q3])
        go_simp
        refine hK.out _ _ (fun _ => ⟨(M17.out.alloc _).cell, (HF.out.only (M17.out.alloc (.cells #[.int .i64 x17.kind, .int .i64 (c.pl x17.pl), .int .i64 x17.N, .string ⟨x17.S.toArray⟩, .slice ao17 x17.L.length cp17] 25)).st.on hsb).nx⟩) ?_
        clear hK K
        (try simp only [Act.put, q4, q5, q6, q1, q2, q3])
        refine AnyTill.one (i := 5) (by kernel_rfl) rfl (fun K hK => ?_)
        refine step_nodes rfl (.tmp 26) (.tmp 29) rfl (.slice ao15 n15 cp15) L15 [⟨x17, ao17, cp17⟩] (by simp [Act.eval]) (M17.out.alloc _).v (by have := (M17.out.alloc (.cells #[.int .i64 x17.kind, .int .i64 (c.pl x17.pl), .int .i64 x17.N, .string ⟨x17.S.toArray⟩, .slice ao17 x17.L.length cp17] 25)).n.lt; omega) w17.heap.size 1 (by simp [Act.eval]) (news_one (blk_alloc_new _ _)) (fun d hd => by rw [List.mem_singleton.1 hd]; exact X17.out.alloc _) (by simp) (by have := c.small; have := c.tm.len; simp; omega) (by have := M17.out.st.size; rw [nblk_alloc]; omega) ?_
        intro va18 vn18 vc18 w18 hv hgr
        have N18 := hidden ((M17.out.alloc _).n.grown hgr M17.out.v.ne)
        have M18 := hidden ((M17.out.alloc _).grown hgr hv)
        obtain ⟨n0, n1, n2, n3, n4, nf⟩ := N18.out.cells
        clear n0 n1 n2 n3
        have G18 := hidden ((M17.out.alloc _).gone hgr hv)
        clear hv hgr
        refine hK.out _ _ (fun _ => ⟨n4, (HF.out.only G18.out hsb).nx⟩) ?_
        clear hK K
        (try simp only [Act.put, q4, q5, q6, q1, q2, q3])
        refine AnyTill.one (i := 6) (by kernel_rfl) rfl (fun K hK => ?_)
        (try simp only [q1, q2, q3])
        go_simp
        refine hK.out _ _ (fun _ => ⟨n4, (HF.out.only G18.out hsb).nx⟩) ?_
        clear hK K
        (try simp only [Act.put, q4, q5, q6, q1, q2, q3])
        refine AnyTill.one (i := 7) (by kernel_rfl) rfl (fun K hK => ?_)
        (try simp only [q1, q2, q3])
        go_simp
        refine hK.out _ _ (fun h => absurd rfl h) ?_
        clear n4 nf
        clear hK K
        (try simp only [Act.put, q4, q5, q6, q1, q2, q3])
        refine AnyTill.done (by kernel_rfl) ?_ _
        (try simp only [Act.put, q4, q5, q6, q1, q2, q3])
        go_wp2_with fail
        go_roundg (c.ts.length + 1 - (j17))
        case rel => exact ⟨_, _, _, _, _, by omega, by omega, by simp; omega, rfl, M18.out, by rw [List.map_append]; exact E17.out⟩
        case measure => omega
      | false =>
       have E16 := hidden (tail_skipN (T := T) (C := fun l => .ret (.mk kd (j1) 0 [] l)) (acc := L15.map ND.t) HT.out kb15 E15.out hs)
       refine (has_no M15.out.st.ps (by omega) sg hsg hs).mono ?_
       rintro e w16 ⟨rfl, hb⟩
       have M16 := hidden (M15.out.below hb)
       clear hb hs
       clear c1 c2
       obtain ⟨y0, y1, y2, y3, y4, yf⟩ := M16.out.n.cells
       obtain ⟨z0, z1, z2, z3, z4, zf⟩ := M16.out.st.zc
       clear yf
       go_wp2_with fail
       refine bodyPost_ret (results_cell_row rfl _ _ w.heap.size 25 #[.int .i64 kd, .int .i64 (c.pl (j1)), .int .i64 0, .string ⟨[].toArray⟩, (.slice ao15 n15 cp15)] (0, 0) _ rfl (M16.out.st.row _ _ _ _ _) Tryz.underlying25 rfl (by kernel_rfl)) rfl ?_
       exact M16.out.ret (s := []) (E16.out) rfl
   ·(try simp only [q1, q2, q3])
    go_simp
    have S20 := hidden ((S2.out.alloc (.cells #[.int .i64 x1.kind, .int .i64 (c.pl x1.pl), .int .i64 x1.N, .string ⟨x1.S.toArray⟩, .slice ao1 x1.L.length cp1] 25)).drew)
    have V1_20 := hidden ((V1_2.out.alloc (.cells #[.int .i64 x1.kind, .int .i64 (c.pl x1.pl), .int .i64 x1.N, .string ⟨x1.S.toArray⟩, .slice ao1 x1.L.length cp1] 25)).drw)
    have XB_20 := hidden ((XB.out.alloc (.cells #[.int .i64 x1.kind, .int .i64 (c.pl x1.pl), .int .i64 x1.N, .string ⟨x1.S.toArray⟩, .slice ao1 x1.L.length cp1] 25)).drw)
    have VR_20 := hidden ((Lb.new (B := w2.heap.size) S2.out XB.out.le x1.kind (c.pl x1.pl) x1.N ⟨x1.S.toArray⟩ (.slice ao1 x1.L.length cp1)).drw)
    obtain ⟨w20, hW⟩ : ∃ W, (World.alloc w2 (.cells #[.int .i64 x1.kind, .int .i64 (c.pl x1.pl), .int .i64 x1.N, .string ⟨x1.S.toArray⟩, .slice ao1 x1.L.length cp1] 25)).drew = W := ⟨_, rfl⟩
    rw [hW] at S20 V1_20 XB_20 VR_20 ⊢
    clear hW
    have F := HF.out.only S20.out.on hsb
    obtain ⟨n0, n1_, n2, n3, n4, nf⟩ := V1_20.out.n.cells
    refine hK.out _ _ (fun _ => ⟨F.p, F.kn, n0, n1_, n2, n3, n4⟩) ?_
    clear hK K
    (try simp only [Act.put, q4, q5, q6, q1, q2, q3])
    clear nf
    refine AnyTill.two (i := 2) (j := 7) (by kernel_rfl) rfl rfl (fun K hK => ?_) (fun K hK => ?_)
    ·(try simp only [q1, q2, q3])
     go_simp
     refine (next_any S20.out.ps (by omega)).mono ?_
     rintro e w21 ⟨rfl, hb⟩
     have V1_21 := hidden (V1_20.out.below hb)
     have XB_21 := hidden (XB_20.out.below hb)
     have VR_21 := hidden (VR_20.out.below hb)
     have S21 := hidden (S20.out.below hb)
     clear hb
     have F := HF.out.only S21.out.on hsb
     obtain ⟨n0, n1_, n2, n3, n4, nf⟩ := V1_21.out.n.cells
     refine hK.out _ _ (fun _ => ⟨F.p, F.kn, n0, n1_, n2, n3, n4⟩) ?_
     clear hK K
     (try simp only [Act.put, q4, q5, q6, q1, q2, q3])
     clear nf
     refine AnyTill.take (i := 3) (v := ?_) rfl (by kernel_rfl) (by kernel_rfl) (by kernel_rfl) (by kernel_rfl) (fun _ _ _ h => h) (Or.inl ⟨by rfl, ?_⟩) ⟨F.p, F.kn, n0, n1_, n2, n3, n4⟩ ?_
     rotate_left
     ·(intro w hSw; (try dsimp only at hSw); go_simp; (try with_reducible rfl))
     (try simp only [Act.put, q4, q5, q6, q1, q2, q3])
     refine AnyTill.take (i := 6) (v := ?_) rfl (by kernel_rfl) (by kernel_rfl) (by kernel_rfl) (by kernel_rfl) (fun _ _ _ h => h) (Or.inl ⟨by rfl, ?_⟩) ⟨F.p, F.kn, n0, n1_, n2, n3, n4⟩ ?_
     rotate_left
     ·(intro w hSw; (try dsimp only at hSw); go_simp; (try with_reducible rfl))
     (try simp only [Act.put, q4, q5, q6, q1, q2, q3])
     refine AnyTill.one (i := 7) (by kernel_rfl) rfl (fun K hK => ?_)
     (try simp only [q1, q2, q3])
     go_simp
     have gq := VR_21.out.l.n.lt
     have S22 := hidden (S21.out.alloc (.cells #[.int .i64 0, .int .i64 0, .int .i64 0, .string ⟨#[]⟩, .slice none 0 0] 25))
     have V1_22 := hidden (V1_21.out.alloc (.cells #[.int .i64 0, .int .i64 0, .int .i64 0, .string ⟨#[]⟩, .slice none 0 0] 25))
     have XB_22 := hidden (XB_21.out.alloc (.cells #[.int .i64 0, .int .i64 0, .int .i64 0, .string ⟨#[]⟩, .slice none 0 0] 25))
     have VR_22 := hidden (VR_21.out.alloc (.cells #[.int .i64 0, .int .i64 0, .int .i64 0, .string ⟨#[]⟩, .slice none 0 0] 25))
     have VQ_22 := hidden (Lb.new (B := w2.heap.size) S21.out XB_21.out.le 0 0 0 ⟨#[]⟩ (.slice none 0 0))
     obtain ⟨w22, hW⟩ : ∃ W, World.alloc w21 (.cells #[.int .i64 0, .int .i64 0, .int .i64 0, .string ⟨#[]⟩, .slice none 0 0] 25) = W := ⟨_, rfl⟩
     rw [hW] at S22 V1_22 XB_22 VR_22 VQ_22 ⊢
     clear hW
     have F := HF.out.only S22.out.on hsb
     obtain ⟨n0, n1_, n2, n3, n4, nf⟩ := V1_22.out.n.cells
     refine hK.out _ _ (fun _ => ⟨F.p, F.kn, n0, n1_, n2, n3, n4⟩) ?_
     clear hK K
     (try simp only [Act.put, q4, q5, q6, q1, q2, q3])
     clear nf
     obtain ⟨q0, q1, q2, q3, q4, qf⟩ := VQ_22.out.l.n.cells
     have hrl := VR_22.out.l.n.lt
     have hql := VQ_22.out.l.n.lt
     refine AnyTill.one (i := 8) (by kernel_rfl) rfl (fun K hK => ?_)
     (try simp only [q1, q2, q3])
     go_simp
     refine hK.out _ _ (fun h => absurd rfl h) ?_
     clear hK K
     (try simp only [Act.put, q4, q5, q6, q1, q2, q3])
     refine AnyTill.done (by kernel_rfl) ?_ _
     (try simp only [Act.put, q4, q5, q6, q1, q2, q3])
     have M23 := hidden (Mk.fillAt S22.out cp1 VR_22.out VQ_22.out (by omega) XB_22.out kd (c.pl (j1)) 0 ⟨#[]⟩)
     clear q0 q1 q2 q3 q4 qf
     go_wp2_with fail
     go_loopg [] (c.ts.length + 1 - (j1)) (fun gk wr => InM c w i R T (fun l => .ret (.mk kd (j1) 0 [] l)) w21.heap.size kd (c.pl (j1)) 0 ⟨#[]⟩ gk wr)
     case atStart => exact ⟨_, _, _, _, _, by omega, by omega, (by simp; omega), rfl, M23.out, E2.out⟩
     case round =>
      obtain ⟨k24, ao24, n24, cp24, L24, kb24, ka24, kl24, kg24, hm, hE⟩ := hrel
      have M24 := hidden hm
      have E24 := hidden hE
      clear hm hE
      have F := HF.out.only M24.out.st.on hsb
      have c1 := F.p
      have c2 := F.sn
      clear F
      go_wp2_with fail
      cases hs : isS sg (tk c.ts (k24)) with
      | true =>
       have t25 := isS_in hs
       have E25 := hidden (tail_skip (T := T) (C := fun l => .ret (.mk kd (j1) 0 [] l)) (acc := L24.map ND.t) HT.out kb24 E24.out hs)
       refine (has_yes M24.out.st.ps sg hsg hs).mono ?_
       rintro e w25 ⟨rfl, hp, ho⟩
       have M25 := hidden (M24.out.only ho hp)
       clear hp ho hs
       clear c1 c2
       go_wp2_with fail
       refine region_till (S := (fun w' => w'.cell? ⟨w21.heap.size, 4, none⟩ = some (.slice ao24 n24 cp24) ∧ w'.cell? ⟨s + 1, 0, none⟩ = some (.func (.func k1) #[.pointer (some ⟨c.b, 0, none⟩)] #[]))) (kz := 7) (by kernel_rfl) ⟨M25.out.cell, (HF.out.only M25.out.st.on hsb).nx⟩ (fun hHeld => ?_)
       refine AnyTill.tk (i := 0) (v := ?_) hHeld ?_ ?_
       rotate_left
       ·(intro w hSw; (try dsimp only at hSw); go_simp; (try with_reducible rfl))
       (try simp only [Act.put, q4, q5, q6, q1, q2, q3])
       refine AnyTill.tk (i := 1) (v := ?_) hHeld ?_ ?_
       rotate_left
       ·(intro w hSw; (try dsimp only at hSw); go_simp; (try with_reducible rfl))
       (try simp only [Act.put, q4, q5, q6, q1, q2, q3])
       refine AnyTill.tk (i := 2) (v := ?_) hHeld ?_ ?_
       rotate_left
       ·(intro w hSw; (try dsimp only at hSw); go_simp; (try with_reducible rfl))
       (try simp only [Act.put, q4, q5, q6, q1, q2, q3])
       refine AnyTill.one (i := 3) (by kernel_rfl) rfl (fun K hK => ?_)
       (try simp only [q1, q2, q3])
       go_simp
       refine (H1.out (k24 + 1) (by omega) (by omega) _ (M25.out.drew).st.ps).mono ?_
       intro e w26 hg
       cases hx : reads c.ts n1 (k24 + 1) with
       | error m =>
        rw [hx] at hg
        obtain ⟨rfl, ho⟩ := hg
        exact ⟨rfl, (M25.out.drew).st.stop ho (ex_err E25.out hx)⟩
       | ok xj =>
        obtain ⟨x26, j26⟩ := xj
        have f26 := reads_fine (ts := c.ts) n1 (i := k24 + 1) (by omega)
        rw [hx] at hg f26
        obtain ⟨ao26, cp26, rfl, hl, hp, ho⟩ := hg
        have E26 := hidden (ex_ok E25.out hx)
        have b26 : j26 ≤ c.ts.length := f26.2.1
        have a26 : k24 + 1 < j26 := f26.2.2 _ _ rfl hh
        have X26 := hidden ((M25.out.drew).fresh hl)
        have M26 := hidden ((M25.out.drew).only ho hp)
        clear hl hp ho hx f26
        refine hK.out _ _ (fun _ => ⟨M26.out.cell, (HF.out.only M26.out.st.on hsb).nx⟩) ?_
        clear hHeld
        clear hK K
        (try simp only [Act.put, q4, q5, q6, q1, q2, q3])
        refine AnyTill.one (i := 4) (by kernel_rfl) rfl (fun K hK => ?_)
        (try simp only [q1, q2, q3])
        go_simp
        refine hK.out _ _ (fun _ => ⟨(M26.out.alloc _).cell, (HF.out.only (M26.out.alloc (.cells #[.int .i64 x26.kind, .int .i64 (c.pl x26.pl), .int .i64 x26.N, .string ⟨x26.S.toArray⟩, .slice ao26 x26.L.length cp26] 25)).st.on hsb).nx⟩) ?_
        clear hK K
        (try simp only [Act.put, q4, q5, q6, q1, q2, q3])
        refine AnyTill.one (i := 5) (by kernel_rfl) rfl (fun K hK => ?_)
        refine step_nodes rfl (.tmp 26) (.tmp 29) rfl (.slice ao24 n24 cp24) L24 [⟨x26, ao26, cp26⟩] (by simp [Act.eval]) (M26.out.alloc _).v (by have := (M26.out.alloc (.cells #[.int .i64 x26.kind, .int .i64 (c.pl x26.pl), .int .i64 x26.N, .string ⟨x26.S.toArray⟩, .slice ao26 x26.L.length cp26] 25)).n.lt; omega) w26.heap.size 1 (by simp [Act.eval]) (news_one (blk_alloc_new _ _)) (fun d hd => by rw [List.mem_singleton.1 hd]; exact X26.out.alloc _) (by simp) (by have := c.small; have := c.tm.len; simp; omega) (by have := M26.out.st.size; rw [nblk_alloc]; omega) ?_
        intro va27 vn27 vc27 w27 hv hgr
        have N27 := hidden ((M26.out.alloc _).n.grown hgr M26.out.v.ne)
        have M27 := hidden ((M26.out.alloc _).grown hgr hv)
        obtain ⟨n0, n1, n2, n3, n4, nf⟩ := N27.out.cells
        clear n0 n1 n2 n3
        have G27 := hidden ((M26.out.alloc _).gone hgr hv)
        clear hv hgr
        refine hK.out _ _ (fun _ => ⟨n4, (HF.out.only G27.out hsb).nx⟩) ?_
        clear hK K
        (try simp only [Act.put, q4, q5, q6, q1, q2, q3])
        refine AnyTill.one (i := 6) (by kernel_rfl) rfl (fun K hK => ?_)
        (try simp only [q1, q2, q3])
        go_simp
        refine hK.out _ _ (fun _ => ⟨n4, (HF.out.only G27.out hsb).nx⟩) ?_
        clear hK K
        (try simp only [Act.put, q4, q5, q6, q1, q2, q3])
        refine AnyTill.one (i := 7) (by kernel_rfl) rfl (fun K hK => ?_)
        (try simp only [q1, q2, q3])
        go_simp
        refine hK.out _ _ (fun h => absurd rfl h) ?_
        clear n4 nf
        clear hK K
        (try simp only [Act.put, q4, q5, q6, q1, q2, q3])
        refine AnyTill.done (by kernel_rfl) ?_ _
        (try simp only [Act.put, q4, q5, q6, q1, q2, q3])
        go_wp2_with fail
        go_roundg (c.ts.length + 1 - (j26))
        case rel => exact ⟨_, _, _, _, _, by omega, by omega, by simp; omega, rfl, M27.out, by rw [List.map_append]; exact E26.out⟩
        case measure => omega
      | false =>
       have E25 := hidden (tail_skipN (T := T) (C := fun l => .ret (.mk kd (j1) 0 [] l)) (acc := L24.map ND.t) HT.out kb24 E24.out hs)
       refine (has_no M24.out.st.ps (by omega) sg hsg hs).mono ?_
       rintro e w25 ⟨rfl, hb⟩
       have M25 := hidden (M24.out.below hb)
       clear hb hs
       clear c1 c2
       obtain ⟨y0, y1, y2, y3, y4, yf⟩ := M25.out.n.cells
       obtain ⟨z0, z1, z2, z3, z4, zf⟩ := M25.out.st.zc
       clear yf
       go_wp2_with fail
       refine bodyPost_ret (results_cell_row rfl _ _ w.heap.size 25 #[.int .i64 kd, .int .i64 (c.pl (j1)), .int .i64 0, .string ⟨[].toArray⟩, (.slice ao24 n24 cp24)] (0, 0) _ rfl (M25.out.st.row _ _ _ _ _) Tryz.underlying25 rfl (by kernel_rfl)) rfl ?_
       exact M25.out.ret (s := []) (E25.out) rfl
    ·(try simp only [q1, q2, q3])
     go_simp
     have gq := VR_20.out.l.n.lt
     have S29 := hidden (S20.out.alloc (.cells #[.int .i64 0, .int .i64 0, .int .i64 0, .string ⟨#[]⟩, .slice none 0 0] 25))
     have V1_29 := hidden (V1_20.out.alloc (.cells #[.int .i64 0, .int .i64 0, .int .i64 0, .string ⟨#[]⟩, .slice none 0 0] 25))
     have XB_29 := hidden (XB_20.out.alloc (.cells #[.int .i64 0, .int .i64 0, .int .i64 0, .string ⟨#[]⟩, .slice none 0 0] 25))
     have VR_29 := hidden (VR_20.out.alloc (.cells #[.int .i64 0, .int .i64 0, .int .i64 0, .string ⟨#[]⟩, .slice none 0 0] 25))
     have VQ_29 := hidden (Lb.new (B := w2.heap.size) S20.out XB_20.out.le 0 0 0 ⟨#[]⟩ (.slice none 0 0))
     obtain ⟨w29, hW⟩ : ∃ W, World.alloc w20 (.cells #[.int .i64 0, .int .i64 0, .int .i64 0, .string ⟨#[]⟩, .slice none 0 0] 25) = W := ⟨_, rfl⟩
     rw [hW] at S29 V1_29 XB_29 VR_29 VQ_29 ⊢
     clear hW
     have F := HF.out.only S29.out.on hsb
     obtain ⟨n0, n1_, n2, n3, n4, nf⟩ := V1_29.out.n.cells
     refine hK.out _ _ (fun _ => ⟨F.p, F.kn, n0, n1_, n2, n3, n4⟩) ?_
     clear hK K
     (try simp only [Act.put, q4, q5, q6, q1, q2, q3])
     clear nf
     refine AnyTill.one (i := 2) (by kernel_rfl) rfl (fun K hK => ?_)
     (try simp only [q1, q2, q3])
     go_simp
     refine (next_any S29.out.ps (by omega)).mono ?_
     rintro e w30 ⟨rfl, hb⟩
     have V1_30 := hidden (V1_29.out.below hb)
     have XB_30 := hidden (XB_29.out.below hb)
     have VR_30 := hidden (VR_29.out.below hb)
     have VQ_30 := hidden (VQ_29.out.below hb)
     have S30 := hidden (S29.out.below hb)
     clear hb
     have F := HF.out.only S30.out.on hsb
     obtain ⟨n0, n1_, n2, n3, n4, nf⟩ := V1_30.out.n.cells
     refine hK.out _ _ (fun _ => ⟨F.p, F.kn, n0, n1_, n2, n3, n4⟩) ?_
     clear hK K
     (try simp only [Act.put, q4, q5, q6, q1, q2, q3])
     clear nf
     refine AnyTill.take (i := 3) (v := ?_) rfl (by kernel_rfl) (by kernel_rfl) (by kernel_rfl) (by kernel_rfl) (fun _ _ _ h => h) (Or.inl ⟨by rfl, ?_⟩) ⟨F.p, F.kn, n0, n1_, n2, n3, n4⟩ ?_
     rotate_left
     ·(intro w hSw; (try dsimp only at hSw); go_simp; (try with_reducible rfl))
     (try simp only [Act.put, q4, q5, q6, q1, q2, q3])
     refine AnyTill.take (i := 6) (v := ?_) rfl (by kernel_rfl) (by kernel_rfl) (by kernel_rfl) (by kernel_rfl) (fun _ _ _ h => h) (Or.inl ⟨by rfl, ?_⟩) ⟨F.p, F.kn, n0, n1_, n2, n3, n4⟩ ?_
     rotate_left
     ·(intro w hSw; (try dsimp only at hSw); go_simp; (try with_reducible rfl))
     (try simp only [Act.put, q4, q5, q6, q1, q2, q3])
     obtain ⟨q0, q1, q2, q3, q4, qf⟩ := VQ_30.out.l.n.cells
     have hrl := VR_30.out.l.n.lt
     have hql := VQ_30.out.l.n.lt
     refine AnyTill.one (i := 8) (by kernel_rfl) rfl (fun K hK => ?_)
     (try simp only [q1, q2, q3])
     go_simp
     refine hK.out _ _ (fun h => absurd rfl h) ?_
     clear hK K
     (try simp only [Act.put, q4, q5, q6, q1, q2, q3])
     refine AnyTill.done (by kernel_rfl) ?_ _
     (try simp only [Act.put, q4, q5, q6, q1, q2, q3])
     have M31 := hidden (Mk.fillAt S30.out cp1 VR_30.out VQ_30.out (by omega) XB_30.out kd (c.pl (j1)) 0 ⟨#[]⟩)
     clear q0 q1 q2 q3 q4 qf
     go_wp2_with fail
     go_loopg [] (c.ts.length + 1 - (j1)) (fun gk wr => InM c w i R T (fun l => .ret (.mk kd (j1) 0 [] l)) w20.heap.size kd (c.pl (j1)) 0 ⟨#[]⟩ gk wr)
     case atStart => exact ⟨_, _, _, _, _, by omega, by omega, (by simp; omega), rfl, M31.out, E2.out⟩
     case round =>
      obtain ⟨k32, ao32, n32, cp32, L32, kb32, ka32, kl32, kg32, hm, hE⟩ := hrel
      have M32 := hidden hm
      have E32 := hidden hE
      clear hm hE
      have F := HF.out.only M32.out.st.on hsb
      have c1 := F.p
      have c2 := F.sn
      clear F
      go_wp2_with fail
      cases hs : isS sg (tk c.ts (k32)) with
      | true =>
       have t33 := isS_in hs
       have E33 := hidden (tail_skip (T := T) (C := fun l => .ret (.mk kd (j1) 0 [] l)) (acc := L32.map ND.t) HT.out kb32 E32.out hs)
       refine (has_yes M32.out.st.ps sg hsg hs).mono ?_
       rintro e w33 ⟨rfl, hp, ho⟩
       have M33 := hidden (M32.out.only ho hp)
       clear hp ho hs
       clear c1 c2
       go_wp2_with fail
       refine region_till (S := (fun w' => w'.cell? ⟨w20.heap.size, 4, none⟩ = some (.slice ao32 n32 cp32) ∧ w'.cell? ⟨s + 1, 0, none⟩ = some (.func (.func k1) #[.pointer (some ⟨c.b, 0, none⟩)] #[]))) (kz := 7) (by kernel_rfl) ⟨M33.out.cell, (HF.out.only M33.out.st.on hsb).nx⟩ (fun hHeld => ?_)
       refine AnyTill.tk (i := 0) (v := ?_) hHeld ?_ ?_
       rotate_left
       ·(intro w hSw; (try dsimp only at hSw); go_simp; (try with_reducible rfl))
       (try simp only [Act.put, q4, q5, q6, q1, q2, q3])
       refine AnyTill.tk (i := 1) (v := ?_) hHeld ?_ ?_
       rotate_left
       ·(intro w hSw; (try dsimp only at hSw); go_simp; (try with_reducible rfl))
       (try simp only [Act.put, q4, q5, q6, q1, q2, q3])
       refine AnyTill.tk (i := 2) (v := ?_) hHeld ?_ ?_
       rotate_left
       ·(intro w hSw; (try dsimp only at hSw); go_simp; (try with_reducible rfl))
       (try simp only [Act.put, q4, q5, q6, q1, q2, q3])
       refine AnyTill.one (i := 3) (by kernel_rfl) rfl (fun K hK => ?_)
       (try simp only [q1, q2, q3])
       go_simp
       refine (H1.out (k32 + 1) (by omega) (by omega) _ (M33.out.drew).st.ps).mono ?_
       intro e w34 hg
       cases hx : reads c.ts n1 (k32 + 1) with
       | error m =>
        rw [hx] at hg
        obtain ⟨rfl, ho⟩ := hg
        exact ⟨rfl, (M33.out.drew).st.stop ho (ex_err E33.out hx)⟩
       | ok xj =>
        obtain ⟨x34, j34⟩ := xj
        have f34 := reads_fine (ts := c.ts) n1 (i := k32 + 1) (by omega)
        rw [hx] at hg f34
        obtain ⟨ao34, cp34, rfl, hl, hp, ho⟩ := hg
        have E34 := hidden (ex_ok E33.out hx)
        have b34 : j34 ≤ c.ts.length := f34.2.1
        have a34 : k32 + 1 < j34 := f34.2.2 _ _ rfl hh
        have X34 := hidden ((M33.out.drew).fresh hl)
        have M34 := hidden ((M33.out.drew).only ho hp)
        clear hl hp ho hx f34
        refine hK.out _ _ (fun _ => ⟨M34.out.cell, (HF.out.only M34.out.st.on hsb).nx⟩) ?_
        clear hHeld
        clear hK K
        (try simp only [Act.put, q4, q5, q6, q1, q2, q3])
        refine AnyTill.one (i := 4) (by kernel_rfl) rfl (fun K hK => ?_)
        (try simp only [q1, q2, q3])
        go_simp
        refine hK.out _ _ (fun _ => ⟨(M34.out.alloc _).cell, (HF.out.only (M34.out.alloc (.cells #[.int .i64 x34.kind, .int .i64 (c.pl x34.pl), .int .i64 x34.N, .string ⟨x34.S.toArray⟩, .slice ao34 x34.L.length cp34] 25)).st.on hsb).nx⟩) ?_
        clear hK K
        (try simp only [Act.put, q4, q5, q6, q1, q2, q3])
        refine AnyTill.one (i := 5) (by kernel_rfl) rfl (fun K hK => ?_)
        refine step_nodes rfl (.tmp 26) (.tmp 29) rfl (.slice ao32 n32 cp32) L32 [⟨x34, ao34, cp34⟩] (by simp [Act.eval]) (M34.out.alloc _).v (by have := (M34.out.alloc (.cells #[.int .i64 x34.kind, .int .i64 (c.pl x34.pl), .int .i64 x34.N, .string ⟨x34.S.toArray⟩, .slice ao34 x34.L.length cp34] 25)).n.lt; omega) w34.heap.size 1 (by simp [Act.eval]) (news_one (blk_alloc_new _ _)) (fun d hd => by rw [List.mem_singleton.1 hd]; exact X34.out.alloc _) (by simp) (by have := c.small; have := c.tm.len; simp; omega) (by have := M34.out.st.size; rw [nblk_alloc]; omega) ?_
        intro va35 vn35 vc35 w35 hv hgr
        have N35 := hidden ((M34.out.alloc _).n.grown hgr M34.out.v.ne)
        have M35 := hidden ((M34.out.alloc _).grown hgr hv)
        obtain ⟨n0, n1, n2, n3, n4, nf⟩ := N35.out.cells
        clear n0 n1 n2 n3
        have G35 := hidden ((M34.out.alloc _).gone hgr hv)
        clear hv hgr
        refine hK.out _ _ (fun _ => ⟨n4, (HF.out.only G35.out hsb).nx⟩) ?_
        clear hK K
        (try simp only [Act.put, q4, q5, q6, q1, q2, q3])
        refine AnyTill.one (i := 6) (by kernel_rfl) rfl (fun K hK => ?_)
        (try simp only [q1, q2, q3])
        go_simp
        refine hK.out _ _ (fun _ => ⟨n4, (HF.out.only G35.out hsb).nx⟩) ?_
        clear hK K
        (try simp only [Act.put, q4, q5, q6, q1, q2, q3])
        refine AnyTill.one (i := 7) (by kernel_rfl) rfl (fun K hK => ?_)
        (try simp only [q1, q2, q3])
        go_simp
        refine hK.out _ _ (fun h => absurd rfl h) ?_
        clear n4 nf
        clear hK K
        (try simp only [Act.put, q4, q5, q6, q1, q2, q3])
        refine AnyTill.done (by kernel_rfl) ?_ _
        (try simp only [Act.put, q4, q5, q6, q1, q2, q3])
        go_wp2_with fail
        go_roundg (c.ts.length + 1 - (j34))
        case rel => exact ⟨_, _, _, _, _, by omega, by omega, by simp; omega, rfl, M35.out, by rw [List.map_append]; exact E34.out⟩
        case measure => omega
      | false =>
       have E33 := hidden (tail_skipN (T := T) (C := fun l => .ret (.mk kd (j1) 0 [] l)) (acc := L32.map ND.t) HT.out kb32 E32.out hs)
       refine (has_no M32.out.st.ps (by omega) sg hsg hs).mono ?_
       rintro e w33 ⟨rfl, hb⟩
       have M33 := hidden (M32.out.below hb)
       clear hb hs
       clear c1 c2
       obtain ⟨y0, y1, y2, y3, y4, yf⟩ := M33.out.n.cells
       obtain ⟨z0, z1, z2, z3, z4, zf⟩ := M33.out.st.zc
       clear yf
       go_wp2_with fail
       refine bodyPost_ret (results_cell_row rfl _ _ w.heap.size 25 #[.int .i64 kd, .int .i64 (c.pl (j1)), .int .i64 0, .string ⟨[].toArray⟩, (.slice ao32 n32 cp32)] (0, 0) _ rfl (M33.out.st.row _ _ _ _ _) Tryz.underlying25 rfl (by kernel_rfl)) rfl ?_
       exact M33.out.ret (s := []) (E33.out) rfl
   ·(try simp only [q1, q2, q3])
    go_simp
    have S37 := hidden ((S2.out.alloc (.cells #[.int .i64 0, .int .i64 0, .int .i64 0, .string ⟨#[]⟩, .slice none 0 0] 25)).drew)
    have V1_37 := hidden ((V1_2.out.alloc (.cells #[.int .i64 0, .int .i64 0, .int .i64 0, .string ⟨#[]⟩, .slice none 0 0] 25)).drw)
    have XB_37 := hidden ((XB.out.alloc (.cells #[.int .i64 0, .int .i64 0, .int .i64 0, .string ⟨#[]⟩, .slice none 0 0] 25)).drw)
    have VQ_37 := hidden ((Lb.new (B := w2.heap.size) S2.out XB.out.le 0 0 0 ⟨#[]⟩ (.slice none 0 0)).drw)
    obtain ⟨w37, hW⟩ : ∃ W, (World.alloc w2 (.cells #[.int .i64 0, .int .i64 0, .int .i64 0, .string ⟨#[]⟩, .slice none 0 0] 25)).drew = W := ⟨_, rfl⟩
    rw [hW] at S37 V1_37 XB_37 VQ_37 ⊢
    clear hW
    have F := HF.out.only S37.out.on hsb
    obtain ⟨n0, n1_, n2, n3, n4, nf⟩ := V1_37.out.n.cells
    refine hK.out _ _ (fun _ => ⟨F.p, F.kn, n0, n1_, n2, n3, n4⟩) ?_
    clear hK K
    (try simp only [Act.put, q4, q5, q6, q1, q2, q3])
    clear nf
    refine AnyTill.two (i := 2) (j := 5) (by kernel_rfl) rfl rfl (fun K hK => ?_) (fun K hK => ?_)
    ·(try simp only [q1, q2, q3])
     go_simp
     refine (next_any S37.out.ps (by omega)).mono ?_
     rintro e w38 ⟨rfl, hb⟩
     have V1_38 := hidden (V1_37.out.below hb)
     have XB_38 := hidden (XB_37.out.below hb)
     have VQ_38 := hidden (VQ_37.out.below hb)
     have S38 := hidden (S37.out.below hb)
     clear hb
     have F := HF.out.only S38.out.on hsb
     obtain ⟨n0, n1_, n2, n3, n4, nf⟩ := V1_38.out.n.cells
     refine hK.out _ _ (fun _ => ⟨F.p, F.kn, n0, n1_, n2, n3, n4⟩) ?_
     clear hK K
     (try simp only [Act.put, q4, q5, q6, q1, q2, q3])
     clear nf
     refine AnyTill.take (i := 3) (v := ?_) rfl (by kernel_rfl) (by kernel_rfl) (by kernel_rfl) (by kernel_rfl) (fun _ _ _ h => h) (Or.inl ⟨by rfl, ?_⟩) ⟨F.p, F.kn, n0, n1_, n2, n3, n4⟩ ?_
     rotate_left
     ·(intro w hSw; (try dsimp only at hSw); go_simp; (try with_reducible rfl))
     (try simp only [Act.put, q4, q5, q6, q1, q2, q3])
     refine AnyTill.one (i := 5) (by kernel_rfl) rfl (fun K hK => ?_)
     (try simp only [q1, q2, q3])
     go_simp
     have gq := VQ_38.out.l.n.lt
     have S39 := hidden (S38.out.alloc (.cells #[.int .i64 x1.kind, .int .i64 (c.pl x1.pl), .int .i64 x1.N, .string ⟨x1.S.toArray⟩, .slice ao1 x1.L.length cp1] 25))
     have V1_39 := hidden (V1_38.out.alloc (.cells #[.int .i64 x1.kind, .int .i64 (c.pl x1.pl), .int .i64 x1.N, .string ⟨x1.S.toArray⟩, .slice ao1 x1.L.length cp1] 25))
     have XB_39 := hidden (XB_38.out.alloc (.cells #[.int .i64 x1.kind, .int .i64 (c.pl x1.pl), .int .i64 x1.N, .string ⟨x1.S.toArray⟩, .slice ao1 x1.L.length cp1] 25))
     have VQ_39 := hidden (VQ_38.out.alloc (.cells #[.int .i64 x1.kind, .int .i64 (c.pl x1.pl), .int .i64 x1.N, .string ⟨x1.S.toArray⟩, .slice ao1 x1.L.length cp1] 25))
     have VR_39 := hidden (Lb.new (B := w2.heap.size) S38.out XB_38.out.le x1.kind (c.pl x1.pl) x1.N ⟨x1.S.toArray⟩ (.slice ao1 x1.L.length cp1))
     obtain ⟨w39, hW⟩ : ∃ W, World.alloc w38 (.cells #[.int .i64 x1.kind, .int .i64 (c.pl x1.pl), .int .i64 x1.N, .string ⟨x1.S.toArray⟩, .slice ao1 x1.L.length cp1] 25) = W := ⟨_, rfl⟩
     rw [hW] at S39 V1_39 XB_39 VQ_39 VR_39 ⊢
     clear hW
     have F := HF.out.only S39.out.on hsb
     obtain ⟨n0, n1_, n2, n3, n4, nf⟩ := V1_39.out.n.cells
     refine hK.out _ _ (fun _ => ⟨F.p, F.kn, n0, n1_, n2, n3, n4⟩) ?_
     clear hK K
     (try simp only [Act.put, q4, q5, q6, q1, q2, q3])
     clear nf
     refine AnyTill.take (i := 6) (v := ?_) rfl (by kernel_rfl) (by kernel_rfl) (by kernel_rfl) (by kernel_rfl) (fun _ _ _ h => h) (Or.inl ⟨by rfl, ?_⟩) ⟨F.p, F.kn, n0, n1_, n2, n3, n4⟩ ?_
     rotate_left
     ·(intro w hSw; (try dsimp only at hSw); go_simp; (try with_reducible rfl))
     (try simp only [Act.put, q4, q5, q6, q1, q2, q3])
     obtain ⟨q0, q1, q2, q3, q4, qf⟩ := VQ_39.out.l.n.cells
     have hrl := VR_39.out.l.n.lt
     have hql := VQ_39.out.l.n.lt
     refine AnyTill.one (i := 8) (by kernel_rfl) rfl (fun K hK => ?_)
     (try simp only [q1, q2, q3])
     go_simp
     refine hK.out _ _ (fun h => absurd rfl h) ?_
     clear hK K
     (try simp only [Act.put, q4, q5, q6, q1, q2, q3])
     refine AnyTill.done (by kernel_rfl) ?_ _
     (try simp only [Act.put, q4, q5, q6, q1, q2, q3])
     have M40 := hidden (Mk.fillAt S39.out cp1 VR_39.out VQ_39.out (by omega) XB_39.out kd (c.pl (j1)) 0 ⟨#[]⟩)
     clear q0 q1 q2 q3 q4 qf
     go_wp2_with fail
     go_loopg [] (c.ts.length + 1 - (j1)) (fun gk wr => InM c w i R T (fun l => .ret (.mk kd (j1) 0 [] l)) w2.heap.size kd (c.pl (j1)) 0 ⟨#[]⟩ gk wr)
     case atStart => exact ⟨_, _, _, _, _, by omega, by omega, (by simp; omega), rfl, M40.out, E2.out⟩
     case round =>
      obtain ⟨k41, ao41, n41, cp41, L41, kb41, ka41, kl41, kg41, hm, hE⟩ := hrel
      have M41 := hidden hm
      have E41 := hidden hE
      clear hm hE
      have F := HF.out.only M41.out.st.on hsb
      have c1 := F.p
      have c2 := F.sn
      clear F
      go_wp2_with fail
      cases hs : isS sg (tk c.ts (k41)) with
      | true =>
       have t42 := isS_in hs
       have E42 := hidden (tail_skip (T := T) (C := fun l => .ret (.mk kd (j1) 0 [] l)) (acc := L41.map ND.t) HT.out kb41 E41.out hs)
       refine (has_yes M41.out.st.ps sg hsg hs).mono ?_
       rintro e w42 ⟨rfl, hp, ho⟩
       have M42 := hidden (M41.out.only ho hp)
       clear hp ho hs
       clear c1 c2
       go_wp2_with fail
       refine region_till (S := (fun w' => w'.cell? ⟨w2.heap.size, 4, none⟩ = some (.slice ao41 n41 cp41) ∧ w'.cell? ⟨s + 1, 0, none⟩ = some (.func (.func k1) #[.pointer (some ⟨c.b, 0, none⟩)] #[]))) (kz := 7) (by kernel_rfl) ⟨M42.out.cell, (HF.out.only M42.out.st.on hsb).nx⟩ (fun hHeld => ?_)
       refine AnyTill.tk (i := 0) (v := ?_) hHeld ?_ ?_
       rotate_left
       ·(intro w hSw; (try dsimp only at hSw); go_simp; (try with_reducible rfl))
       (try simp only [Act.put, q4, q5, q6, q1, q2, q3])
       refine AnyTill.tk (i := 1) (v := ?_) hHeld ?_ ?_
       rotate_left
       ·(intro w hSw; (try dsimp only at hSw); go_simp; (try with_reducible rfl))
       (try simp only [Act.put, q4, q5, q6, q1, q2, q3])
       refine AnyTill.tk (i := 2) (v := ?_) hHeld ?_ ?_
       rotate_left
       ·(intro w hSw; (try dsimp only at hSw); go_simp; (try with_reducible rfl))
       (try simp only [Act.put, q4, q5, q6, q1, q2, q3])
       refine AnyTill.one (i := 3) (by kernel_rfl) rfl (fun K hK => ?_)
       (try simp only [q1, q2, q3])
       go_simp
       refine (H1.out (k41 + 1) (by omega) (by omega) _ (M42.out.drew).st.ps).mono ?_
       intro e w43 hg
       cases hx : reads c.ts n1 (k41 + 1) with
       | error m =>
        rw [hx] at hg
        obtain ⟨rfl, ho⟩ := hg
        exact ⟨rfl, (M42.out.drew).st.stop ho (ex_err E42.out hx)⟩
       | ok xj =>
        obtain ⟨x43, j43⟩ := xj
        have f43 := reads_fine (ts := c.ts) n1 (i := k41 + 1) (by omega)
        rw [hx] at hg f43
        obtain ⟨ao43, cp43, rfl, hl, hp, ho⟩ := hg
        have E43 := hidden (ex_ok E42.out hx)
        have b43 : j43 ≤ c.ts.length := f43.2.1
        have a43 : k41 + 1 < j43 := f43.2.2 _ _ rfl hh
        have X43 := hidden ((M42.out.drew).fresh hl)
        have M43 := hidden ((M42.out.drew).only ho hp)
        clear hl hp ho hx f43
        refine hK.out _ _ (fun _ => ⟨M43.out.cell, (HF.out.only M43.out.st.on hsb).nx⟩) ?_
        clear hHeld
        clear hK K
        (try simp only [Act.put, q4, q5, q6, q1, q2, q3])
        refine AnyTill.one (i := 4) (by kernel_rfl) rfl (fun K hK => ?_)
        (try simp only [q1, q2, q3])
        go_simp
        refine hK.out _ _ (fun _ => ⟨(M43.out.alloc _).cell, (HF.out.only (M43.out.alloc (.cells #[.int .i64 x43.kind, .int .i64 (c.pl x43.pl), .int .i64 x43.N, .string ⟨x43.S.toArray⟩, .slice ao43 x43.L.length cp43] 25)).st.on hsb).nx⟩) ?_
        clear hK K
        (try simp only [Act.put, q4, q5, q6, q1, q2, q3])
        refine AnyTill.one (i := 5) (by kernel_rfl) rfl (fun K hK => ?_)
        refine step_nodes rfl (.tmp 26) (.tmp 29) rfl (.slice ao41 n41 cp41) L41 [⟨x43, ao43, cp43⟩] (by simp [Act.eval]) (M43.out.alloc _).v (by have := (M43.out.alloc (.cells #[.int .i64 x43.kind, .int .i64 (c.pl x43.pl), .int .i64 x43.N, .string ⟨x43.S.toArray⟩, .slice ao43 x43.L.length cp43] 25)).n.lt; omega) w43.heap.size 1 (by simp [Act.eval]) (news_one (blk_alloc_new _ _)) (fun d hd => by rw [List.mem_singleton.1 hd]; exact X43.out.alloc _) (by simp) (by have := c.small; have := c.tm.len; simp; omega) (by have := M43.out.st.size; rw [nblk_alloc]; omega) ?_
        intro va44 vn44 vc44 w44 hv hgr
        have N44 := hidden ((M43.out.alloc _).n.grown hgr M43.out.v.ne)
        have M44 := hidden ((M43.out.alloc _).grown hgr hv)
        obtain ⟨n0, n1, n2, n3, n4, nf⟩ := N44.out.cells
        clear n0 n1 n2 n3
        have G44 := hidden ((M43.out.alloc _).gone hgr hv)
        clear hv hgr
        refine hK.out _ _ (fun _ => ⟨n4, (HF.out.only G44.out hsb).nx⟩) ?_
        clear hK K
        (try simp only [Act.put, q4, q5, q6, q1, q2, q3])
        refine AnyTill.one (i := 6) (by kernel_rfl) rfl (fun K hK => ?_)
        (try simp only [q1, q2, q3])
        go_simp
        refine hK.out _ _ (fun _ => ⟨n4, (HF.out.only G44.out hsb).nx⟩) ?_
        clear hK K
        (try simp only [Act.put, q4, q5, q6, q1, q2, q3])
        refine AnyTill.one (i := 7) (by kernel_rfl) rfl (fun K hK => ?_)
        (try simp only [q1, q2, q3])
        go_simp
        refine hK.out _ _ (fun h => absurd rfl h) ?_
        clear n4 nf
        clear hK K
        (try simp only [Act.put, q4, q5, q6, q1, q2, q3])
        refine AnyTill.done (by kernel_rfl) ?_ _
        (try simp only [Act.put, q4, q5, q6, q1, q2, q3])
        go_wp2_with fail
        go_roundg (c.ts.length + 1 - (j43))
        case rel => exact ⟨_, _, _, _, _, by omega, by omega, by simp; omega, rfl, M44.out, by rw [List.map_append]; exact E43.out⟩
        case measure => omega
      | false =>
       have E42 := hidden (tail_skipN (T := T) (C := fun l => .ret (.mk kd (j1) 0 [] l)) (acc := L41.map ND.t) HT.out kb41 E41.out hs)
       refine (has_no M41.out.st.ps (by omega) sg hsg hs).mono ?_
       rintro e w42 ⟨rfl, hb⟩
       have M42 := hidden (M41.out.below hb)
       clear hb hs
       clear c1 c2
       obtain ⟨y0, y1, y2, y3, y4, yf⟩ := M42.out.n.cells
       obtain ⟨z0, z1, z2, z3, z4, zf⟩ := M42.out.st.zc
       clear yf
       go_wp2_with fail
       refine bodyPost_ret (results_cell_row rfl _ _ w.heap.size 25 #[.int .i64 kd, .int .i64 (c.pl (j1)), .int .i64 0, .string ⟨[].toArray⟩, (.slice ao41 n41 cp41)] (0, 0) _ rfl (M42.out.st.row _ _ _ _ _) Tryz.underlying25 rfl (by kernel_rfl)) rfl ?_
       exact M42.out.ret (s := []) (E42.out) rfl
    ·(try simp only [q1, q2, q3])
     go_simp
     have gq := VQ_37.out.l.n.lt
     have S46 := hidden (S37.out.alloc (.cells #[.int .i64 x1.kind, .int .i64 (c.pl x1.pl), .int .i64 x1.N, .string ⟨x1.S.toArray⟩, .slice ao1 x1.L.length cp1] 25))
     have V1_46 := hidden (V1_37.out.alloc (.cells #[.int .i64 x1.kind, .int .i64 (c.pl x1.pl), .int .i64 x1.N, .string ⟨x1.S.toArray⟩, .slice ao1 x1.L.length cp1] 25))
     have XB_46 := hidden (XB_37.out.alloc (.cells #[.int .i64 x1.kind, .int .i64 (c.pl x1.pl), .int .i64 x1.N, .string ⟨x1.S.toArray⟩, .slice ao1 x1.L.length cp1] 25))
     have VQ_46 := hidden (VQ_37.out.alloc (.cells #[.int .i64 x1.kind, .int .i64 (c.pl x1.pl), .int .i64 x1.N, .string ⟨x1.S.toArray⟩, .slice ao1 x1.L.length cp1] 25))
     have VR_46 := hidden (Lb.new (B := w2.heap.size) S37.out XB_37.out.le x1.kind (c.pl x1.pl) x1.N ⟨x1.S.toArray⟩ (.slice ao1 x1.L.length cp1))
     obtain ⟨w46, hW⟩ : ∃ W, World.alloc w37 (.cells #[.int .i64 x1.kind, .int .i64 (c.pl x1.pl), .int .i64 x1.N, .string ⟨x1.S.toArray⟩, .slice ao1 x1.L.length cp1] 25) = W := ⟨_, rfl⟩
     rw [hW] at S46 V1_46 XB_46 VQ_46 VR_46 ⊢
     clear hW
     have F := HF.out.only S46.out.on hsb
     obtain ⟨n0, n1_, n2, n3, n4, nf⟩ := V1_46.out.n.cells
     refine hK.out _ _ (fun _ => ⟨F.p, F.kn, n0, n1_, n2, n3, n4⟩) ?_
     clear hK K
     (try simp only [Act.put, q4, q5, q6, q1, q2, q3])
     clear nf
     refine AnyTill.one (i := 2) (by kernel_rfl) rfl (fun K hK => ?_)
     (try simp only [q1, q2, q3])
     go_simp
     refine (next_any S46.out.ps (by omega)).mono ?_
     rintro e w47 ⟨rfl, hb⟩
     have V1_47 := hidden (V1_46.out.below hb)
     have XB_47 := hidden (XB_46.out.below hb)
     have VQ_47 := hidden (VQ_46.out.below hb)
     have VR_47 := hidden (VR_46.out.below hb)
     have S47 := hidden (S46.out.below hb)
     clear hb
     have F := HF.out.only S47.out.on hsb
     obtain ⟨n0, n1_, n2, n3, n4, nf⟩ := V1_47.out.n.cells
     refine hK.out _ _ (fun _ => ⟨F.p, F.kn, n0, n1_, n2, n3, n4⟩) ?_
     clear hK K
     (try simp only [Act.put, q4, q5, q6, q1, q2, q3])
     clear nf
     refine AnyTill.take (i := 3) (v := ?_) rfl (by kernel_rfl) (by kernel_rfl) (by kernel_rfl) (by kernel_rfl) (fun _ _ _ h => h) (Or.inl ⟨by rfl, ?_⟩) ⟨F.p, F.kn, n0, n1_, n2, n3, n4⟩ ?_
     rotate_left
     ·(intro w hSw; (try dsimp only at hSw); go_simp; (try with_reducible rfl))
     (try simp only [Act.put, q4, q5, q6, q1, q2, q3])
     refine AnyTill.take (i := 6) (v := ?_) rfl (by kernel_rfl) (by kernel_rfl) (by kernel_rfl) (by kernel_rfl) (fun _ _ _ h => h) (Or.inl ⟨by rfl, ?_⟩) ⟨F.p, F.kn, n0, n1_, n2, n3, n4⟩ ?_
     rotate_left
     ·(intro w hSw; (try dsimp only at hSw); go_simp; (try with_reducible rfl))
     (try simp only [Act.put, q4, q5, q6, q1, q2, q3])
     obtain ⟨q0, q1, q2, q3, q4, qf⟩ := VQ_47.out.l.n.cells
     have hrl := VR_47.out.l.n.lt
     have hql := VQ_47.out.l.n.lt
     refine AnyTill.one (i := 8) (by kernel_rfl) rfl (fun K hK => ?_)
     (try simp only [q1, q2, q3])
     go_simp
     refine hK.out _ _ (fun h => absurd rfl h) ?_
     clear hK K
     (try simp only [Act.put, q4, q5, q6, q1, q2, q3])
     refine AnyTill.done (by kernel_rfl) ?_ _
     (try simp only [Act.put, q4, q5, q6, q1, q2, q3])
     have M48 := hidden (Mk.fillAt S47.out cp1 VR_47.out VQ_47.out (by omega) XB_47.out kd (c.pl (j1)) 0 ⟨#[]⟩)
     clear q0 q1 q2 q3 q4 qf
     go_wp2_with fail
     go_loopg [] (c.ts.length + 1 - (j1)) (fun gk wr => InM c w i R T (fun l => .ret (.mk kd (j1) 0 [] l)) w2.heap.size kd (c.pl (j1)) 0 ⟨#[]⟩ gk wr)
     case atStart => exact ⟨_, _, _, _, _, by omega, by omega, (by simp; omega), rfl, M48.out, E2.out⟩
     case round =>
      obtain ⟨k49, ao49, n49, cp49, L49, kb49, ka49, kl49, kg49, hm, hE⟩ := hrel
      have M49 := hidden hm
      have E49 := hidden hE
      clear hm hE
      have F := HF.out.only M49.out.st.on hsb
      have c1 := F.p
      have c2 := F.sn
      clear F
      go_wp2_with fail
      cases hs : isS sg (tk c.ts (k49)) with
      | true =>
       have t50 := isS_in hs
       have E50 := hidden (tail_skip (T := T) (C := fun l => .ret (.mk kd (j1) 0 [] l)) (acc := L49.map ND.t) HT.out kb49 E49.out hs)
       refine (has_yes M49.out.st.ps sg hsg hs).mono ?_
       rintro e w50 ⟨rfl, hp, ho⟩
       have M50 := hidden (M49.out.only ho hp)
       clear hp ho hs
       clear c1 c2
       go_wp2_with fail
       refine region_till (S := (fun w' => w'.cell? ⟨w2.heap.size, 4, none⟩ = some (.slice ao49 n49 cp49) ∧ w'.cell? ⟨s + 1, 0, none⟩ = some (.func (.func k1) #[.pointer (some ⟨c.b, 0, none⟩)] #[]))) (kz := 7) (by kernel_rfl) ⟨M50.out.cell, (HF.out.only M50.out.st.on hsb).nx⟩ (fun hHeld => ?_)
       refine AnyTill.tk (i := 0) (v := ?_) hHeld ?_ ?_
       rotate_left
       ·(intro w hSw; (try dsimp only at hSw); go_simp; (try with_reducible rfl))
       (try simp only [Act.put, q4, q5, q6, q1, q2, q3])
       refine AnyTill.tk (i := 1) (v := ?_) hHeld ?_ ?_
       rotate_left
       ·(intro w hSw; (try dsimp only at hSw); go_simp; (try with_reducible rfl))
       (try simp only [Act.put, q4, q5, q6, q1, q2, q3])
       refine AnyTill.tk (i := 2) (v := ?_) hHeld ?_ ?_
       rotate_left
       ·(intro w hSw; (try dsimp only at hSw); go_simp; (try with_reducible rfl))
       (try simp only [Act.put, q4, q5, q6, q1, q2, q3])
       refine AnyTill.one (i := 3) (by kernel_rfl) rfl (fun K hK => ?_)
       (try simp only [q1, q2, q3])
       go_simp
       refine (H1.out (k49 + 1) (by omega) (by omega) _ (M50.out.drew).st.ps).mono ?_
       intro e w51 hg
       cases hx : reads c.ts n1 (k49 + 1) with
       | error m =>
        rw [hx] at hg
        obtain ⟨rfl, ho⟩ := hg
        exact ⟨rfl, (M50.out.drew).st.stop ho (ex_err E50.out hx)⟩
       | ok xj =>
        obtain ⟨x51, j51⟩ := xj
        have f51 := reads_fine (ts := c.ts) n1 (i := k49 + 1) (by omega)
        rw [hx] at hg f51
        obtain ⟨ao51, cp51, rfl, hl, hp, ho⟩ := hg
        have E51 := hidden (ex_ok E50.out hx)
        have b51 : j51 ≤ c.ts.length := f51.2.1
        have a51 : k49 + 1 < j51 := f51.2.2 _ _ rfl hh
        have X51 := hidden ((M50.out.drew).fresh hl)
        have M51 := hidden ((M50.out.drew).only ho hp)
        clear hl hp ho hx f51
        refine hK.out _ _ (fun _ => ⟨M51.out.cell, (HF.out.only M51.out.st.on hsb).nx⟩) ?_
        clear hHeld
        clear hK K
        (try simp only [Act.put, q4, q5, q6, q1, q2, q3])
        refine AnyTill.one (i := 4) (by kernel_rfl) rfl (fun K hK => ?_)
        (try simp only [q1, q2, q3])
        go_simp
        refine hK.out _ _ (fun _ => ⟨(M51.out.alloc _).cell, (HF.out.only (M51.out.alloc (.cells #[.int .i64 x51.kind, .int .i64 (c.pl x51.pl), .int .i64 x51.N, .string ⟨x51.S.toArray⟩, .slice ao51 x51.L.length cp51] 25)).st.on hsb).nx⟩) ?_
        clear hK K
        (try simp only [Act.put, q4, q5, q6, q1, q2, q3])
        refine AnyTill.one (i := 5) (by kernel_rfl) rfl (fun K hK => ?_)
        refine step_nodes rfl (.tmp 26) (.tmp 29) rfl (.slice ao49 n49 cp49) L49 [⟨x51, ao51, cp51⟩] (by simp [Act.eval]) (M51.out.alloc _).v (by have := (M51.out.alloc (.cells #[.int .i64 x51.kind, .int .i64 (c.pl x51.pl), .int .i64 x51.N, .string ⟨x51.S.toArray⟩, .slice ao51 x51.L.length cp51] 25)).n.lt; omega) w51.heap.size 1 (by simp [Act.eval]) (news_one (blk_alloc_new _ _)) (fun d hd => by rw [List.mem_singleton.1 hd]; exact X51.out.alloc _) (by simp) (by have := c.small; have := c.tm.len; simp; omega) (by have := M51.out.st.size; rw [nblk_alloc]; omega) ?_
        intro va52 vn52 vc52 w52 hv hgr
        have N52 := hidden ((M51.out.alloc _).n.grown hgr M51.out.v.ne)
        have M52 := hidden ((M51.out.alloc _).grown hgr hv)
        obtain ⟨n0, n1, n2, n3, n4, nf⟩ := N52.out.cells
        clear n0 n1 n2 n3
        have G52 := hidden ((M51.out.alloc _).gone hgr hv)
        clear hv hgr
        refine hK.out _ _ (fun _ => ⟨n4, (HF.out.only G52.out hsb).nx⟩) ?_
        clear hK K
        (try simp only [Act.put, q4, q5, q6, q1, q2, q3])
        refine AnyTill.one (i := 6) (by kernel_rfl) rfl (fun K hK => ?_)
        (try simp only [q1, q2, q3])
        go_simp
        refine hK.out _ _ (fun _ => ⟨n4, (HF.out.only G52.out hsb).nx⟩) ?_
        clear hK K
        (try simp only [Act.put, q4, q5, q6, q1, q2, q3])
        refine AnyTill.one (i := 7) (by kernel_rfl) rfl (fun K hK => ?_)
        (try simp only [q1, q2, q3])
        go_simp
        refine hK.out _ _ (fun h => absurd rfl h) ?_
        clear n4 nf
        clear hK K
        (try simp only [Act.put, q4, q5, q6, q1, q2, q3])
        refine AnyTill.done (by kernel_rfl) ?_ _
        (try simp only [Act.put, q4, q5, q6, q1, q2, q3])
        go_wp2_with fail
        go_roundg (c.ts.length + 1 - (j51))
        case rel => exact ⟨_, _, _, _, _, by omega, by omega, by simp; omega, rfl, M52.out, by rw [List.map_append]; exact E51.out⟩
        case measure => omega
      | false =>
       have E50 := hidden (tail_skipN (T := T) (C := fun l => .ret (.mk kd (j1) 0 [] l)) (acc := L49.map ND.t) HT.out kb49 E49.out hs)
       refine (has_no M49.out.st.ps (by omega) sg hsg hs).mono ?_
       rintro e w50 ⟨rfl, hb⟩
       have M50 := hidden (M49.out.below hb)
       clear hb hs
       clear c1 c2
       obtain ⟨y0, y1, y2, y3, y4, yf⟩ := M50.out.n.cells
       obtain ⟨z0, z1, z2, z3, z4, zf⟩ := M50.out.st.zc
       clear yf
       go_wp2_with fail
       refine bodyPost_ret (results_cell_row rfl _ _ w.heap.size 25 #[.int .i64 kd, .int .i64 (c.pl (j1)), .int .i64 0, .string ⟨[].toArray⟩, (.slice ao49 n49 cp49)] (0, 0) _ rfl (M50.out.st.row _ _ _ _ _) Tryz.underlying25 rfl (by kernel_rfl)) rfl ?_
       exact M50.out.ret (s := []) (E50.out) rfl
  | false =>
   have E2 := hidden ((fun h hs => by rw [h, hs]; rfl : R = _ → _ → R = .ok (x1, j1)) E1.out hs)
   refine (comesR1 (S1.out.alloc _).ps (by omega) sg hsg hs (by first | exact nblk_alloc _ _ | rfl | simp only [nblk_alloc, nblk_setCell])).mono ?_
   rintro e w2 ⟨rfl, hb⟩
   have X1_2 := hidden ((X1.out.alloc _).below hb)
   have V1_2 := hidden (V1.out.below hb)
   have S2 := hidden ((S1.out.alloc _).below hb)
   clear hb hs c1 c2 d1 d2 d3 fz
   obtain ⟨y0, y1, y2, y3, y4, yf⟩ := V1_2.out.n.cells
   obtain ⟨z0, z1, z2, z3, z4, zf⟩ := S2.out.zc
   clear yf
   go_wp2_with fail
   refine bodyPost_ret (results_cell_row rfl _ _ w.heap.size 25 #[.int .i64 x1.kind, .int .i64 (c.pl x1.pl), .int .i64 x1.N, .string ⟨x1.S.toArray⟩, .slice ao1 x1.L.length cp1] (0, 0) _ rfl (S2.out.row _ _ _ _ _) Tryz.underlying25 rfl (by kernel_rfl)) rfl ?_
   exact S2.out.ret X1_2.out (E2.out) rfl
end
end Go.Proofs.YthjmakjhidjbaaaGreat
