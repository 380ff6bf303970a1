/-
  Several small texts in one; each tells at its head what it proves, and on what condition.
-/
import Derived.Test.YthjmakjhidjbaaaGreatLibAF
import Derived.Test.YthjmakjhidjbaaaGreatP8H

/-
 Layer 8, the program's parser: a node that a method tells with its row. No condition but that they lie in memory.
-/
namespace Go.Proofs.YthjmakjhidjbaaaGreat
open Go.ChangeShapes Go.WideShapes Go.ChangeAt Go.RowKit Go.Deep
set_option linter.unusedVariables false
set_option linter.unusedSimpArgs false
set_option maxHeartbeats 2000000
set_option maxRecDepth 20000

/-- As Got8, the row of the parts the method's own. -/
def GotN (c : PC) (r : Res) (w : World) (e : Ending) (w' : World) : Prop :=
 match r with
 | .ok (x, j) => ∃ (ao : Option Addr) (cp : Nat) (L : List ND), e = .returned (.agg #[.int .i64 x.kind, .int .i64 (c.pl x.pl), .int .i64 x.N, .string ⟨x.S.toArray⟩, .slice ao x.L.length cp]) ∧ L.map ND.t = x.L ∧ NWq c.pl w' w.heap.size c.b (.slice ao x.L.length cp) L ∧ PS c w' j ∧ OnlyB c.b w w'
 | .error m => e = .panicked [faultQ (c.pl m)] ∧ OnlyB c.b w w'
section
variable {c : PC} {w0 w w' : World} {i j q : Nat} {k p N : Int} {s : ByteArray} {v : Value} {L : List ND}
theorem NWq.turn {f : Nat → Int} {B B' q' : Nat} (h : NWq f w B q v L) (hB : B' ≤ B) (hq : ∀ g, B ≤ g → g < w.heap.size → g ≠ q') : NWq f w B' q' v L := by
 refine ⟨⟨h.own.1, ?_⟩, fun e => ?_, fun d hd => (h.rl d hd).mono (fun g hg hl => ⟨by omega, hq g hg.1 hl, hg.2.2⟩)⟩
 ·rcases h.own.2 with c | ⟨g, cap, cur, e, hb, r⟩
  ·exact Or.inl c
  ·exact Or.inr ⟨g, cap, cur, e, by omega, r⟩
 ·exact hq q' (h.ownB e) (h.ownlt e) rfl
theorem GotN.got {R : Res} {e : Ending} (h : GotN c R w e w') (hb : c.b < w.heap.size) : Got8 c R w e w' := by
 cases R with
 | error m => exact h
 | ok xj =>
  obtain ⟨x, j⟩ := xj
  obtain ⟨ao, cp, L, h1, h2, h3, h4, h5⟩ := h
  refine ⟨ao, cp, h1, ?_, h4, h5⟩
  rw [← h2]
  exact h3.tree.1.mono (fun g hg _ => hg.1)
theorem Mk.retN {pl : Nat} {s : List UInt8} (h : Mk c w0 w i q k (c.pl pl) N ⟨s.toArray⟩ v L) {R : Res} (hR : R = .ok (.mk k pl N s (L.map ND.t), i)) {e : Ending} (he : e = .returned (.agg #[.int .i64 k, .int .i64 (c.pl pl), .int .i64 N, .string ⟨s.toArray⟩, v])) : GotN c R w0 e (fill5 w w0.heap.size k (c.pl pl) N ⟨s.toArray⟩ v) := by
 have hg := h.ret hR he
 subst hR
 obtain ⟨ao, cp, h1, h2, h3, h4⟩ := hg
 obtain ⟨ao', cp', rfl⟩ := h.slice
 have hv : (Value.slice ao' L.length cp') = .slice ao (L.map ND.t).length cp := by
  rw [he] at h1
  simp only [Ending.returned.injEq, Value.agg.injEq] at h1
  have := congrArg (fun a : Array Value => a[4]?) h1
  simpa [Tr.L] using this
 refine ⟨ao, cp, L, h1, rfl, ?_, h3, h4⟩
 show NWq c.pl _ w0.heap.size c.b (.slice ao (L.map ND.t).length cp) L
 rw [← hv]
 have hk : NWq c.pl (fill5 w w0.heap.size k (c.pl pl) N ⟨s.toArray⟩ (.slice ao' L.length cp')) (w0.heap.size + 1) q (.slice ao' L.length cp') L := h.v.keep (fun g hg _ _ => fill5_blk w (by omega) _ _ _ _ _)
 exact hk.turn (by omega) (fun g hg _ => by have := h.st.b0; omega)
theorem St.stopN (h : St c w0 w i) {m : Nat} (ho : OnlyB c.b w w') {R : Res} (hR : R = .error m) : GotN c R w0 (.panicked [faultQ (c.pl m)]) w' := by
 subst hR
 exact ⟨rfl, h.on.trans ho⟩
theorem Mk.stopN (h : Mk c w0 w i q k p N s v L) {m : Nat} (ho : OnlyB c.b w w') {R : Res} (hR : R = .error m) : GotN c R w0 (.panicked [faultQ (c.pl m)]) w' := by
 subst hR
 exact ⟨rfl, h.st.on.trans ho⟩
/-- A variable that holds a node with its row. -/
theorem Mk.ofN {W : World} {x : Tr} {ao : Option Addr} {cp : Nat} (h : St c w0 w i) (hW : w0.heap.size + 1 ≤ W.heap.size) (hv : NWq c.pl w W.heap.size c.b (.slice ao x.L.length cp) L) : Mk c w0 (w.alloc (.cells #[.int .i64 x.kind, .int .i64 (c.pl x.pl), .int .i64 x.N, .string ⟨x.S.toArray⟩, .slice ao x.L.length cp] 25)) i w.heap.size x.kind (c.pl x.pl) x.N ⟨x.S.toArray⟩ (.slice ao x.L.length cp) L :=
 ⟨h.alloc _, B5.new _ _ _ _ _ _, (hv.turn hW (fun g _ hl => by omega)).alloc _, h.size⟩
end
end Go.Proofs.YthjmakjhidjbaaaGreat

/-
 Layer 8, the program's parser: rules' methods. Condition: the rules that they are made of do as the grammar says.
-/
namespace Go.Proofs.YthjmakjhidjbaaaGreat
open Go.ChangeShapes Go.WideShapes Go.ChangeAt Go.RowKit Go.Deep
set_option linter.unusedVariables false
set_option linter.unusedSimpArgs false
set_option maxHeartbeats 2000000
set_option maxRecDepth 20000
attribute [local go_sem ↓] Go.wp_at_zero Go.wp_at_succ

section
variable {c : PC} {w : World} {i : Nat}
/-- What a loop does. -/
def loopR (ts : List Tk) (k : Nat) : Res := exec ts (reads ts) (.must [100, 111] (.call .seq fun x => .must [100, 111, 110, 101] (.ret x))) k
theorem loop_eq {ts : List Tk} {R : Res} {k : Nat} {f : Tr → Tr} (h : R = exec ts (reads ts) (.must [100, 111] (.call .seq fun y => .must [100, 111, 110, 101] (.ret (f y)))) k) : R = (match loopR ts k with | .error m => .error m | .ok (y, q) => .ok (f y, q)) := by
 unfold loopR
 cases hs : isS [100, 111] (tk ts k) with
 | false =>
  have e : exec ts (reads ts) (.must [100, 111] (.call .seq fun x => .must [100, 111, 110, 101] (.ret x))) k = .error k := ex_mustN rfl hs
  rw [e]
  exact ex_mustN h hs
 | true =>
  have e : exec ts (reads ts) (.must [100, 111] (.call .seq fun x => .must [100, 111, 110, 101] (.ret x))) k = exec ts (reads ts) (.call .seq fun x => .must [100, 111, 110, 101] (.ret x)) (k + 1) := ex_must rfl hs
  rw [e]
  have h1 := ex_must h hs
  cases hx : reads ts .seq (k + 1) with
  | error m =>
   have e2 : exec ts (reads ts) (.call .seq fun x => .must [100, 111, 110, 101] (.ret x)) (k + 1) = .error m := ex_err rfl hx
   rw [e2]
   exact ex_err h1 hx
  | ok xj =>
   obtain ⟨x, j⟩ := xj
   have e2 : exec ts (reads ts) (.call .seq fun x => .must [100, 111, 110, 101] (.ret x)) (k + 1) = exec ts (reads ts) (.must [100, 111, 110, 101] (.ret x)) j := ex_ok rfl hx
   rw [e2]
   have h2 := ex_ok h1 hx
   cases hd : isS [100, 111, 110, 101] (tk ts j) with
   | false =>
    have e3 : exec ts (reads ts) (.must [100, 111, 110, 101] (.ret x)) j = .error j := ex_mustN rfl hd
    rw [e3]
    exact ex_mustN h2 hd
   | true =>
    have e3 : exec ts (reads ts) (.must [100, 111, 110, 101] (.ret x)) j = .ok (x, j + 1) := ex_must rfl hd
    rw [e3]
    exact ex_must h2 hd
theorem let_le {ts : List Tk} {j q i : Nat} {k : Int} {x : Tr} (h : reads ts (.letN k i) j = .ok (x, q)) : x.L.length ≤ q := by
 have h1 : PL j q x.L ∧ x.pl = i ∧ j < q := reads_post h
 have := h1.1.2
 have := cntL_ge x.L
 omega
end
end Go.Proofs.YthjmakjhidjbaaaGreat

/-
 Layer 8, the program's parser: variables beside a node that is being made; a row of three. No condition but that they lie in memory.
-/
namespace Go.Proofs.YthjmakjhidjbaaaGreat
open Go.ChangeShapes Go.WideShapes Go.ChangeAt Go.RowKit Go.Deep
set_option linter.unusedVariables false
set_option linter.unusedSimpArgs false
set_option maxHeartbeats 2000000
set_option maxRecDepth 20000

/-- A tree that lies neither in the result nor at q. -/
structure HasM (c : PC) (w0 : World) (q : Nat) (w : World) (K : List Tr) (ao : Option Addr) : Prop where
 rl : RL c.pl (fun g => w0.heap.size + 1 ≤ g ∧ g ≠ q) w K ao
/-- A variable beside the node at q. -/
structure Lq (c : PC) (w0 : World) (q : Nat) (w : World) (b : Nat) (k p N : Int) (s : ByteArray) (v : Value) : Prop where
 l : Lc c w0 w b k p N s v
 ne : b ≠ q
section
variable {c : PC} {w0 w w' : World} {i j q b : Nat} {k p N : Int} {s : ByteArray} {v : Value} {L : List ND} {K : List Tr} {ao : Option Addr}
theorem HasM.of (h : RL c.pl (fun g => w0.heap.size + 1 ≤ g ∧ g ≠ q ∧ v.ownBlock ≠ some g) w K ao) : HasM c w0 q w K ao := ⟨h.mono (fun g hg _ => ⟨hg.1, hg.2.1⟩)⟩
theorem HasM.only (h : HasM c w0 q w K ao) (hs : St c w0 w i) (ho : OnlyB c.b w w') : HasM c w0 q w' K ao := ⟨h.rl.onlyQ ho (fun g hg => by have := hs.b0; omega)⟩
theorem HasM.below (h : HasM c w0 q w K ao) (hb : Below w.heap.size w w') : HasM c w0 q w' K ao := ⟨h.rl.keep (fun g _ hl => hb.block g hl)⟩
theorem HasM.alloc (h : HasM c w0 q w K ao) (o : Obj) : HasM c w0 q (w.alloc o) K ao := ⟨RL.alloc h.rl o⟩
theorem HasM.drw (h : HasM c w0 q w K ao) : HasM c w0 q w.drew K ao := ⟨h.rl.keep (fun _ _ _ => rfl)⟩
theorem HasM.setq (h : HasM c w0 q w K ao) (o : Nat) (u : Value) : HasM c w0 q (w.setCell ⟨q, o, none⟩ u) K ao := ⟨h.rl.set (a := ⟨q, o, none⟩) (fun g hg => hg.2) u⟩
theorem Lq.new (h : Mk c w0 w i q k p N s v L) (k' p' N' : Int) (s' : ByteArray) (v' : Value) : Lq c w0 q (w.alloc (.cells #[.int .i64 k', .int .i64 p', .int .i64 N', .string s', v'] 25)) w.heap.size k' p' N' s' v' := ⟨Lc.new h.st k' p' N' s' v', (Nat.ne_of_lt h.n.lt).symm⟩
theorem Lq.only (h : Lq c w0 q w b k p N s v) (hs : St c w0 w i) (ho : OnlyB c.b w w') : Lq c w0 q w' b k p N s v := ⟨h.l.only hs ho, h.ne⟩
theorem Lq.below (h : Lq c w0 q w b k p N s v) (hb : Below w.heap.size w w') : Lq c w0 q w' b k p N s v := ⟨h.l.below hb, h.ne⟩
theorem Lq.alloc (h : Lq c w0 q w b k p N s v) (o : Obj) : Lq c w0 q (w.alloc o) b k p N s v := ⟨h.l.alloc o, h.ne⟩
theorem Lq.drw (h : Lq c w0 q w b k p N s v) : Lq c w0 q w.drew b k p N s v := ⟨h.l.drw, h.ne⟩
theorem Lq.setq (h : Lq c w0 q w b k p N s v) (o : Nat) (u : Value) : Lq c w0 q (w.setCell ⟨q, o, none⟩ u) b k p N s v := ⟨⟨h.l.n.other (fun e => h.ne e.symm) u, h.l.hq⟩, h.ne⟩
end
theorem RL.three {f : Nat → Int} {P : Nat → Prop} {w : World} {g : Nat} {x y z : Tr} {ao ao' ao'' : Option Addr} {c c' c'' : Nat} (hb : w.heap[g]? = some (.cells #[.int .i64 x.kind, .int .i64 (f x.pl), .int .i64 x.N, .string ⟨x.S.toArray⟩, .slice ao x.L.length c, .int .i64 y.kind, .int .i64 (f y.pl), .int .i64 y.N, .string ⟨y.S.toArray⟩, .slice ao' y.L.length c', .int .i64 z.kind, .int .i64 (f z.pl), .int .i64 z.N, .string ⟨z.S.toArray⟩, .slice ao'' z.L.length c''] 25 (0, 0))) (hg : P g) (hx : RL f P w x.L ao) (hy : RL f P w y.L ao') (hz : RL f P w z.L ao'') : RL f P w [x, y, z] (some ⟨g, 0, none⟩) := by
 refine .mk (fun k => if k = 0 then ao else if k = 1 then ao' else ao'') (fun k => if k = 0 then c else if k = 1 then c' else c'') (fun k t h => ?_) (fun k t h => ?_)
 ·match k, h with
  | 0, h => simp at h; subst h; refine ⟨g, rfl, hg, ?_, ?_, ?_, ?_, ?_⟩ <;> simp [World.cell?, hb]
  | 1, h => simp at h; subst h; refine ⟨g, rfl, hg, ?_, ?_, ?_, ?_, ?_⟩ <;> simp [World.cell?, hb]
  | 2, h => simp at h; subst h; refine ⟨g, rfl, hg, ?_, ?_, ?_, ?_, ?_⟩ <;> simp [World.cell?, hb]
 ·match k, h with
  | 0, h => simp at h; subst h; exact hx
  | 1, h => simp at h; subst h; exact hy
  | 2, h => simp at h; subst h; exact hz
section
variable {c : PC} {w0 w : World} {i q : Nat} {k N : Int} {v : Value} {L : List ND}
/-- Its parts are three; then it is told. -/
theorem Mk.ret3 {pl : Nat} {s : List UInt8} (h : Mk c w0 w i q k (c.pl pl) N ⟨s.toArray⟩ v L) {x y z : Tr} {ao ao' ao'' : Option Addr} {cp cp' cp'' : Nat} (hx : HasM c w0 q w x.L ao) (hy : HasM c w0 q w y.L ao') (hz : RL c.pl (fun g => w0.heap.size + 1 ≤ g ∧ g ≠ q ∧ v.ownBlock ≠ some g) w z.L ao'') {R : Res} (hR : R = .ok (.mk k pl N s [x, y, z], i)) {e : Ending} (he : e = .returned (.agg #[.int .i64 k, .int .i64 (c.pl pl), .int .i64 N, .string ⟨s.toArray⟩, .slice (some ⟨w.heap.size, 0, none⟩) 3 3])) : Got8 c R w0 e ((fill5 (w.setCell ⟨q, 4, none⟩ (.slice (some ⟨w.heap.size, 0, none⟩) 3 3)) w0.heap.size k (c.pl pl) N ⟨s.toArray⟩ (.slice (some ⟨w.heap.size, 0, none⟩) 3 3)).alloc (.cells #[.int .i64 x.kind, .int .i64 (c.pl x.pl), .int .i64 x.N, .string ⟨x.S.toArray⟩, .slice ao x.L.length cp, .int .i64 y.kind, .int .i64 (c.pl y.pl), .int .i64 y.N, .string ⟨y.S.toArray⟩, .slice ao' y.L.length cp', .int .i64 z.kind, .int .i64 (c.pl z.pl), .int .i64 z.N, .string ⟨z.S.toArray⟩, .slice ao'' z.L.length cp''] 25)) := by
 have hq := h.n.lt
 have hs := h.st.size
 rw [← fill5_alloc _ _ (by rw [nblk_setCell]; exact hs)]
 refine ((h.st.set (a := ⟨q, 4, none⟩) h.hq _).alloc _).ret (x := .mk k pl N s [x, y, z]) (ao := some ⟨w.heap.size, 0, none⟩) (cp := 3) ?_ hR he
 refine RL.three (blk_new_at _ (by rw [nblk_setCell])) (by omega) ?_ ?_ ?_
 ·exact (((hx.setq 4 _).alloc _).rl).mono (fun g hg _ => hg.1)
 ·exact (((hy.setq 4 _).alloc _).rl).mono (fun g hg _ => hg.1)
 ·exact ((((HasM.of hz).setq 4 _).alloc _).rl).mono (fun g hg _ => hg.1)
end
end Go.Proofs.YthjmakjhidjbaaaGreat

/-
 Layer 8, the program's parser: rules' methods. Condition: the rules that they are made of do as the grammar says.
-/
namespace Go.Proofs.YthjmakjhidjbaaaGreat
open Go.ChangeShapes Go.WideShapes Go.ChangeAt Go.RowKit Go.Deep
set_option linter.unusedVariables false
set_option linter.unusedSimpArgs false
set_option maxHeartbeats 2000000
set_option maxRecDepth 20000
attribute [local go_sem ↓] Go.wp_at_zero Go.wp_at_succ

/-- What a record's field has caught. -/
structure FF (c : PC) (w : World) (kb pb rb k1 : Nat) (kd : Int) : Prop where
 kn : w.cell? ⟨kb, 0, none⟩ = some (.int .i64 kd)
 p : w.cell? ⟨pb, 0, none⟩ = some (.pointer (some ⟨c.b, 0, none⟩))
 pt : w.cell? ⟨rb, 0, none⟩ = some (.func (.func k1) #[.pointer (some ⟨c.b, 0, none⟩)] #[])
section
variable {c : PC} {w w' : World} {kb pb rb k1 : Nat} {kd : Int}
theorem FF.only (h : FF c w kb pb rb k1 kd) (k : OnlyB c.b w w') (h1 : c.b < kb) (h2 : c.b < pb) (h3 : c.b < rb) : FF c w' kb pb rb k1 kd := ⟨only_cell k (by omega) h.kn, only_cell k (by omega) h.p, only_cell k (by omega) h.pt⟩
end
section
variable {c : PC} {w0 w : World} {i q : Nat}
/-- A node that was laid empty is filled, without parts. -/
theorem Mk.zeroAt (h : St c w0 w i) (hz : Lc c w0 w q 0 0 0 ⟨#[]⟩ (.slice none 0 0)) (k p N : Int) (s : ByteArray) : Mk c w0 (fill5 w q k p N s (.slice none 0 0)) i q k p N s (.slice none 0 0) [] := ⟨h.fillq hz.hq _ _ _ _ _, hz.n.fill _ _ _ _ _, NWq.nil _ _ _ _, hz.hq⟩
end
section
variable {c : PC} {w : World} {i : Nat}
theorem m_field {R : Res} {kb pb rb k1 : Nat} {kd : Int} {n1 : NT} (h : PS c w i) (hi : i ≤ c.ts.length) (hf : FF c w kb pb rb k1 kd) (b1 : c.b < kb) (b2 : c.b < pb) (b3 : c.b < rb) (hh : hard n1 = true) (e1 : EntersF k1) (r1 : ∀ j, i < j → j ≤ c.ts.length → Rule c k1 n1 j) (hE : R = exec c.ts (reads c.ts) (.token 3 fun t => .must [61] (.call n1 fun x => .ret (.mk kd i 0 t.S [x]))) i) : Calls Tryz.prog 155 #[.pointer (some ⟨kb, 0, none⟩), .pointer (some ⟨pb, 0, none⟩), .pointer (some ⟨rb, 0, none⟩)] w fun e w' => Got8 c R w e w' := by
 have E0 := hidden hE
 have S0 := hidden (St.new h)
 have HF := hidden hf
 have H1 := hidden r1
 have f1 := fld1
 have f3 := fld3
 clear h hf r1 hE
 go_enter Tryz.func155, Tryz.ntmps155
 go_wp2_with fail
 obtain ⟨W0, hW⟩ : ∃ W0, w.alloc (.cells #[.int .i64 0, .int .i64 0, .int .i64 0, .string ⟨#[]⟩, .slice none 0 0] 25) = W0 := ⟨_, rfl⟩
 rw [hW] at S0 ⊢
 clear hW
 have F := HF.out.only S0.out.on b1 b2 b3
 refine region_till (S := (fun w' => w'.cell? ⟨kb, 0, none⟩ = some (.int .i64 kd) ∧ w'.cell? ⟨pb, 0, none⟩ = some (.pointer (some ⟨c.b, 0, none⟩)))) (kz := 9) (by kernel_rfl) ⟨F.kn, F.p⟩ (fun hHeld => ?_)
 refine AnyTill.tk (i := 0) (v := ?_) hHeld ?_ ?_
 rotate_left
 ·(intro w hSw; (try dsimp only at hSw); go_simp; (try with_reducible rfl))
 (try simp only [Act.put, q4, q5, q6, q1, q2, q3])
 refine AnyTill.tk (i := 1) (v := ?_) hHeld ?_ ?_
 rotate_left
 ·(intro w hSw; (try dsimp only at hSw); go_simp; (try with_reducible rfl))
 (try simp only [Act.put, q4, q5, q6, q1, q2, q3])
 refine AnyTill.tk (i := 4) (v := ?_) hHeld ?_ ?_
 rotate_left
 ·(intro w hSw; (try dsimp only at hSw); go_simp; (try with_reducible rfl))
 (try simp only [Act.put, q4, q5, q6, q1, q2, q3])
 refine AnyTill.two (i := 2) (j := 8) (by kernel_rfl) rfl rfl (fun K hK => ?_) (fun K hK => ?_)
 ·(try simp only [q1, q2, q3])
  go_simp
  refine (next_any (S0.out.drew).ps (by omega)).mono ?_
  rintro e w1 ⟨rfl, hb⟩
  have S1 := hidden ((S0.out.drew).below hb)
  clear hb
  have F := HF.out.only S1.out.on b1 b2 b3
  refine hK.out _ _ (fun _ => ⟨F.kn, F.p⟩) ?_
  clear hK K
  (try simp only [Act.put, q4, q5, q6, q1, q2, q3])
  refine AnyTill.take (i := 3) (v := ?_) rfl (by kernel_rfl) (by kernel_rfl) (by kernel_rfl) (by kernel_rfl) (fun _ _ _ h => h) (Or.inl ⟨by rfl, ?_⟩) ⟨F.kn, F.p⟩ ?_
  rotate_left
  ·(intro w hSw; (try dsimp only at hSw); go_simp; (try with_reducible rfl))
  (try simp only [Act.put, q4, q5, q6, q1, q2, q3])
  refine AnyTill.two (i := 5) (j := 8) (by kernel_rfl) rfl rfl (fun K hK => ?_) (fun K hK => ?_)
  ·(try simp only [q1, q2, q3])
   go_simp
   cases hs : isK 3 (tk c.ts (i)) with
   | false =>
    refine (mustBe_no S1.out.ps (by omega) 3 hs).mono ?_
    rintro e w' ⟨rfl, ho⟩
    exact ⟨rfl, S1.out.stop ho (ex_tokenN E0.out hs)⟩
   | true =>
    have t2 := isK_in hs (by decide)
    have E2 := hidden (ex_token E0.out hs (by decide))
    refine (mustBe_yes S1.out.ps 3 (by decide) hs).mono ?_
    rintro e w2 ⟨rfl, hp, ho⟩
    have S2 := hidden (S1.out.only ho hp)
    clear hp ho hs
    have F := HF.out.only S2.out.on b1 b2 b3
    refine hK.out _ _ (fun _ => ⟨F.kn, F.p⟩) ?_
    clear hK K
    (try simp only [Act.put, q4, q5, q6, q1, q2, q3])
    refine AnyTill.take (i := 6) (v := ?_) rfl (by kernel_rfl) (by kernel_rfl) (by kernel_rfl) (by kernel_rfl) (fun _ _ _ h => h) (Or.inl ⟨by rfl, ?_⟩) ⟨F.kn, F.p⟩ ?_
    rotate_left
    ·(intro w hSw; (try dsimp only at hSw); go_simp; (try with_reducible rfl))
    (try simp only [Act.put, q4, q5, q6, q1, q2, q3])
    refine AnyTill.take (i := 7) (v := ?_) rfl (by kernel_rfl) (by kernel_rfl) (by kernel_rfl) (by kernel_rfl) (fun _ _ _ h => h) (Or.inl ⟨by rfl, ?_⟩) ⟨F.kn, F.p⟩ ?_
    rotate_left
    ·(intro w hSw; (try dsimp only at hSw); go_simp; (try with_reducible rfl))
    (try simp only [Act.put, q4, q5, q6, q1, q2, q3])
    refine AnyTill.one (i := 8) (by kernel_rfl) rfl (fun K hK => ?_)
    (try simp only [q1, q2, q3])
    go_simp
    have S3 := hidden (S2.out.alloc (.cells #[.int .i64 0, .int .i64 0, .int .i64 0, .string ⟨#[]⟩, .slice none 0 0] 25))
    have VQ_3 := hidden (Lc.new S2.out 0 0 0 ⟨#[]⟩ (.slice none 0 0))
    obtain ⟨w3, hW⟩ : ∃ W, World.alloc w2 (.cells #[.int .i64 0, .int .i64 0, .int .i64 0, .string ⟨#[]⟩, .slice none 0 0] 25) = W := ⟨_, rfl⟩
    rw [hW] at S3 VQ_3 ⊢
    clear hW
    have F := HF.out.only S3.out.on b1 b2 b3
    refine hK.out _ _ (fun _ => ⟨F.kn, F.p⟩) ?_
    clear hK K
    (try simp only [Act.put, q4, q5, q6, q1, q2, q3])
    obtain ⟨q0, q1, q2, q3, q4, qf⟩ := VQ_3.out.n.cells
    refine AnyTill.one (i := 9) (by kernel_rfl) rfl (fun K hK => ?_)
    (try simp only [q1, q2, q3])
    go_simp
    refine hK.out _ _ (fun h => absurd rfl h) ?_
    clear hK K
    (try simp only [Act.put, q4, q5, q6, q1, q2, q3])
    refine AnyTill.done (by kernel_rfl) ?_ _
    (try simp only [Act.put, q4, q5, q6, q1, q2, q3])
    clear q0 q1 q2 q3 q4 qf
    have M4 := Mk.zeroAt S3.out VQ_3.out kd (c.pl i) 0 ⟨(tk c.ts i).S.toArray⟩
    unfold Go.Proofs.YthjmakjhidjbaaaGreat.fill5 at M4
    obtain ⟨WF, hWF⟩ : ∃ W, (((((World.setCell w3 ⟨w2.heap.size, 0, none⟩ (.int .i64 kd)).setCell ⟨w2.heap.size, 1, none⟩ (.int .i64 (c.pl i))).setCell ⟨w2.heap.size, 2, none⟩ (.int .i64 0)).setCell ⟨w2.heap.size, 3, none⟩ (.string ⟨(tk c.ts i).S.toArray⟩)).setCell ⟨w2.heap.size, 4, none⟩ (.slice none 0 0)) = W := ⟨_, rfl⟩
    rw [hWF] at M4 ⊢
    clear hWF
    replace M4 := hidden M4
    have F2 := HF.out.only M4.out.st.on b1 b2 b3
    have c2 := F2.p
    clear F2
    go_wp2_with fail
    cases hs : isS [61] (tk c.ts (i + 1)) with
    | false =>
     refine (must_no M4.out.st.ps (by omega) [61] (by decide) hs).mono ?_
     rintro e w' ⟨rfl, ho⟩
     exact ⟨rfl, M4.out.st.stop ho (ex_mustN E2.out hs)⟩
    | true =>
     have t5 := isS_in hs
     have E5 := hidden (ex_must E2.out hs)
     refine (must_yes M4.out.st.ps [61] (by decide) hs).mono ?_
     rintro e w5 ⟨rfl, hp, ho⟩
     have M5 := hidden (M4.out.only ho hp)
     clear hp ho hs
     have F3 := HF.out.only M5.out.st.on b1 b2 b3
     have c3 := F3.pt
     clear F3 c2
     go_wp2_with fail
     refine (H1.out (i + 1 + 1) (by omega) (by omega) _ M5.out.st.ps).mono ?_
     intro e w6 hg
     cases hx : reads c.ts n1 (i + 1 + 1) with
     | error m =>
      rw [hx] at hg
      obtain ⟨rfl, ho⟩ := hg
      exact ⟨rfl, M5.out.st.stop ho (ex_err E5.out hx)⟩
     | ok xj =>
      obtain ⟨x6, j6⟩ := xj
      have f6 := reads_fine (ts := c.ts) n1 (i := i + 1 + 1) (by omega)
      rw [hx] at hg f6
      obtain ⟨ao6, cp6, rfl, hl, hp, ho⟩ := hg
      have E6 := hidden (ex_ok E5.out hx)
      have b6 : j6 ≤ c.ts.length := f6.2.1
      have a6 : i + 1 + 1 < j6 := f6.2.2 _ _ rfl hh
      have X6 := hidden (M5.out.fresh hl)
      have M6 := hidden (M5.out.only ho hp)
      clear hl hp ho hx f6
      clear c3
      obtain ⟨y0, y1, y2, y3, y4, yf⟩ := M6.out.n.cells
      have yl := M6.out.n.lt
      have yn := Nat.ne_of_lt yl
      obtain ⟨z0, z1, z2, z3, z4, zf⟩ := M6.out.st.zc
      have zl := M6.out.st.size
      have zn := Nat.ne_of_lt zl
      have zq := M6.out.hq
      have zq2 := Nat.ne_of_lt zq
      have zq3 := (Nat.ne_of_lt zq).symm
      go_wp2_with fail
      refine bodyPost_ret (results_cell_row rfl _ _ w.heap.size 25 #[.int .i64 kd, .int .i64 (c.pl i), .int .i64 0, .string ⟨(tk c.ts i).S.toArray⟩, .slice (some ⟨w6.heap.size, 0, none⟩) 1 1] (0, 0) _ rfl (M6.out.row1 _ _ _ _ _ _ _) Tryz.underlying25 rfl (by kernel_rfl)) rfl ?_
      exact M6.out.ret1 (s := (tk c.ts i).S) X6.out (E6.out) rfl
  ·(try simp only [q1, q2, q3])
   go_simp
   have S7 := hidden (S1.out.alloc (.cells #[.int .i64 0, .int .i64 0, .int .i64 0, .string ⟨#[]⟩, .slice none 0 0] 25))
   have VQ_7 := hidden (Lc.new S1.out 0 0 0 ⟨#[]⟩ (.slice none 0 0))
   obtain ⟨w7, hW⟩ : ∃ W, World.alloc w1 (.cells #[.int .i64 0, .int .i64 0, .int .i64 0, .string ⟨#[]⟩, .slice none 0 0] 25) = W := ⟨_, rfl⟩
   rw [hW] at S7 VQ_7 ⊢
   clear hW
   have F := HF.out.only S7.out.on b1 b2 b3
   refine hK.out _ _ (fun _ => ⟨F.kn, F.p⟩) ?_
   clear hK K
   (try simp only [Act.put, q4, q5, q6, q1, q2, q3])
   refine AnyTill.one (i := 5) (by kernel_rfl) rfl (fun K hK => ?_)
   (try simp only [q1, q2, q3])
   go_simp
   cases hs : isK 3 (tk c.ts (i)) with
   | false =>
    refine (mustBe_no S7.out.ps (by omega) 3 hs).mono ?_
    rintro e w' ⟨rfl, ho⟩
    exact ⟨rfl, S7.out.stop ho (ex_tokenN E0.out hs)⟩
   | true =>
    have t8 := isK_in hs (by decide)
    have E8 := hidden (ex_token E0.out hs (by decide))
    refine (mustBe_yes S7.out.ps 3 (by decide) hs).mono ?_
    rintro e w8 ⟨rfl, hp, ho⟩
    have VQ_8 := hidden (VQ_7.out.only S7.out ho)
    have S8 := hidden (S7.out.only ho hp)
    clear hp ho hs
    have F := HF.out.only S8.out.on b1 b2 b3
    refine hK.out _ _ (fun _ => ⟨F.kn, F.p⟩) ?_
    clear hK K
    (try simp only [Act.put, q4, q5, q6, q1, q2, q3])
    refine AnyTill.take (i := 6) (v := ?_) rfl (by kernel_rfl) (by kernel_rfl) (by kernel_rfl) (by kernel_rfl) (fun _ _ _ h => h) (Or.inl ⟨by rfl, ?_⟩) ⟨F.kn, F.p⟩ ?_
    rotate_left
    ·(intro w hSw; (try dsimp only at hSw); go_simp; (try with_reducible rfl))
    (try simp only [Act.put, q4, q5, q6, q1, q2, q3])
    refine AnyTill.take (i := 7) (v := ?_) rfl (by kernel_rfl) (by kernel_rfl) (by kernel_rfl) (by kernel_rfl) (fun _ _ _ h => h) (Or.inl ⟨by rfl, ?_⟩) ⟨F.kn, F.p⟩ ?_
    rotate_left
    ·(intro w hSw; (try dsimp only at hSw); go_simp; (try with_reducible rfl))
    (try simp only [Act.put, q4, q5, q6, q1, q2, q3])
    obtain ⟨q0, q1, q2, q3, q4, qf⟩ := VQ_8.out.n.cells
    refine AnyTill.one (i := 9) (by kernel_rfl) rfl (fun K hK => ?_)
    (try simp only [q1, q2, q3])
    go_simp
    refine hK.out _ _ (fun h => absurd rfl h) ?_
    clear hK K
    (try simp only [Act.put, q4, q5, q6, q1, q2, q3])
    refine AnyTill.done (by kernel_rfl) ?_ _
    (try simp only [Act.put, q4, q5, q6, q1, q2, q3])
    clear q0 q1 q2 q3 q4 qf
    have M9 := Mk.zeroAt S8.out VQ_8.out kd (c.pl i) 0 ⟨(tk c.ts i).S.toArray⟩
    unfold Go.Proofs.YthjmakjhidjbaaaGreat.fill5 at M9
    obtain ⟨WF, hWF⟩ : ∃ W, (((((World.setCell w8 ⟨w1.heap.size, 0, none⟩ (.int .i64 kd)).setCell ⟨w1.heap.size, 1, none⟩ (.int .i64 (c.pl i))).setCell ⟨w1.heap.size, 2, none⟩ (.int .i64 0)).setCell ⟨w1.heap.size, 3, none⟩ (.string ⟨(tk c.ts i).S.toArray⟩)).setCell ⟨w1.heap.size, 4, none⟩ (.slice none 0 0)) = W := ⟨_, rfl⟩
    rw [hWF] at M9 ⊢
    clear hWF
    replace M9 := hidden M9
    have F2 := HF.out.only M9.out.st.on b1 b2 b3
    have c2 := F2.p
    clear F2
    go_wp2_with fail
    cases hs : isS [61] (tk c.ts (i + 1)) with
    | false =>
     refine (must_no M9.out.st.ps (by omega) [61] (by decide) hs).mono ?_
     rintro e w' ⟨rfl, ho⟩
     exact ⟨rfl, M9.out.st.stop ho (ex_mustN E8.out hs)⟩
    | true =>
     have t10 := isS_in hs
     have E10 := hidden (ex_must E8.out hs)
     refine (must_yes M9.out.st.ps [61] (by decide) hs).mono ?_
     rintro e w10 ⟨rfl, hp, ho⟩
     have M10 := hidden (M9.out.only ho hp)
     clear hp ho hs
     have F3 := HF.out.only M10.out.st.on b1 b2 b3
     have c3 := F3.pt
     clear F3 c2
     go_wp2_with fail
     refine (H1.out (i + 1 + 1) (by omega) (by omega) _ M10.out.st.ps).mono ?_
     intro e w11 hg
     cases hx : reads c.ts n1 (i + 1 + 1) with
     | error m =>
      rw [hx] at hg
      obtain ⟨rfl, ho⟩ := hg
      exact ⟨rfl, M10.out.st.stop ho (ex_err E10.out hx)⟩
     | ok xj =>
      obtain ⟨x11, j11⟩ := xj
      have f11 := reads_fine (ts := c.ts) n1 (i := i + 1 + 1) (by omega)
      rw [hx] at hg f11
      obtain ⟨ao11, cp11, rfl, hl, hp, ho⟩ := hg
      have E11 := hidden (ex_ok E10.out hx)
      have b11 : j11 ≤ c.ts.length := f11.2.1
      have a11 : i + 1 + 1 < j11 := f11.2.2 _ _ rfl hh
      have X11 := hidden (M10.out.fresh hl)
      have M11 := hidden (M10.out.only ho hp)
      clear hl hp ho hx f11
      clear c3
      obtain ⟨y0, y1, y2, y3, y4, yf⟩ := M11.out.n.cells
      have yl := M11.out.n.lt
      have yn := Nat.ne_of_lt yl
      obtain ⟨z0, z1, z2, z3, z4, zf⟩ := M11.out.st.zc
      have zl := M11.out.st.size
      have zn := Nat.ne_of_lt zl
      have zq := M11.out.hq
      have zq2 := Nat.ne_of_lt zq
      have zq3 := (Nat.ne_of_lt zq).symm
      go_wp2_with fail
      refine bodyPost_ret (results_cell_row rfl _ _ w.heap.size 25 #[.int .i64 kd, .int .i64 (c.pl i), .int .i64 0, .string ⟨(tk c.ts i).S.toArray⟩, .slice (some ⟨w11.heap.size, 0, none⟩) 1 1] (0, 0) _ rfl (M11.out.row1 _ _ _ _ _ _ _) Tryz.underlying25 rfl (by kernel_rfl)) rfl ?_
      exact M11.out.ret1 (s := (tk c.ts i).S) X11.out (E11.out) rfl
 ·(try simp only [q1, q2, q3])
  go_simp
  have S12 := hidden ((S0.out.alloc (.cells #[.int .i64 0, .int .i64 0, .int .i64 0, .string ⟨#[]⟩, .slice none 0 0] 25)).drew)
  have VQ_12 := hidden ((Lc.new S0.out 0 0 0 ⟨#[]⟩ (.slice none 0 0)).drw)
  obtain ⟨w12, hW⟩ : ∃ W, (World.alloc W0 (.cells #[.int .i64 0, .int .i64 0, .int .i64 0, .string ⟨#[]⟩, .slice none 0 0] 25)).drew = W := ⟨_, rfl⟩
  rw [hW] at S12 VQ_12 ⊢
  clear hW
  have F := HF.out.only S12.out.on b1 b2 b3
  refine hK.out _ _ (fun _ => ⟨F.kn, F.p⟩) ?_
  clear hK K
  (try simp only [Act.put, q4, q5, q6, q1, q2, q3])
  refine AnyTill.one (i := 2) (by kernel_rfl) rfl (fun K hK => ?_)
  (try simp only [q1, q2, q3])
  go_simp
  refine (next_any S12.out.ps (by omega)).mono ?_
  rintro e w13 ⟨rfl, hb⟩
  have VQ_13 := hidden (VQ_12.out.below hb)
  have S13 := hidden (S12.out.below hb)
  clear hb
  have F := HF.out.only S13.out.on b1 b2 b3
  refine hK.out _ _ (fun _ => ⟨F.kn, F.p⟩) ?_
  clear hK K
  (try simp only [Act.put, q4, q5, q6, q1, q2, q3])
  refine AnyTill.take (i := 3) (v := ?_) rfl (by kernel_rfl) (by kernel_rfl) (by kernel_rfl) (by kernel_rfl) (fun _ _ _ h => h) (Or.inl ⟨by rfl, ?_⟩) ⟨F.kn, F.p⟩ ?_
  rotate_left
  ·(intro w hSw; (try dsimp only at hSw); go_simp; (try with_reducible rfl))
  (try simp only [Act.put, q4, q5, q6, q1, q2, q3])
  refine AnyTill.one (i := 5) (by kernel_rfl) rfl (fun K hK => ?_)
  (try simp only [q1, q2, q3])
  go_simp
  cases hs : isK 3 (tk c.ts (i)) with
  | false =>
   refine (mustBe_no S13.out.ps (by omega) 3 hs).mono ?_
   rintro e w' ⟨rfl, ho⟩
   exact ⟨rfl, S13.out.stop ho (ex_tokenN E0.out hs)⟩
  | true =>
   have t14 := isK_in hs (by decide)
   have E14 := hidden (ex_token E0.out hs (by decide))
   refine (mustBe_yes S13.out.ps 3 (by decide) hs).mono ?_
   rintro e w14 ⟨rfl, hp, ho⟩
   have VQ_14 := hidden (VQ_13.out.only S13.out ho)
   have S14 := hidden (S13.out.only ho hp)
   clear hp ho hs
   have F := HF.out.only S14.out.on b1 b2 b3
   refine hK.out _ _ (fun _ => ⟨F.kn, F.p⟩) ?_
   clear hK K
   (try simp only [Act.put, q4, q5, q6, q1, q2, q3])
   refine AnyTill.take (i := 6) (v := ?_) rfl (by kernel_rfl) (by kernel_rfl) (by kernel_rfl) (by kernel_rfl) (fun _ _ _ h => h) (Or.inl ⟨by rfl, ?_⟩) ⟨F.kn, F.p⟩ ?_
   rotate_left
   ·(intro w hSw; (try dsimp only at hSw); go_simp; (try with_reducible rfl))
   (try simp only [Act.put, q4, q5, q6, q1, q2, q3])
   refine AnyTill.take (i := 7) (v := ?_) rfl (by kernel_rfl) (by kernel_rfl) (by kernel_rfl) (by kernel_rfl) (fun _ _ _ h => h) (Or.inl ⟨by rfl, ?_⟩) ⟨F.kn, F.p⟩ ?_
   rotate_left
   ·(intro w hSw; (try dsimp only at hSw); go_simp; (try with_reducible rfl))
   (try simp only [Act.put, q4, q5, q6, q1, q2, q3])
   obtain ⟨q0, q1, q2, q3, q4, qf⟩ := VQ_14.out.n.cells
   refine AnyTill.one (i := 9) (by kernel_rfl) rfl (fun K hK => ?_)
   (try simp only [q1, q2, q3])
   go_simp
   refine hK.out _ _ (fun h => absurd rfl h) ?_
   clear hK K
   (try simp only [Act.put, q4, q5, q6, q1, q2, q3])
   refine AnyTill.done (by kernel_rfl) ?_ _
   (try simp only [Act.put, q4, q5, q6, q1, q2, q3])
   clear q0 q1 q2 q3 q4 qf
   have M15 := Mk.zeroAt S14.out VQ_14.out kd (c.pl i) 0 ⟨(tk c.ts i).S.toArray⟩
   unfold Go.Proofs.YthjmakjhidjbaaaGreat.fill5 at M15
   obtain ⟨WF, hWF⟩ : ∃ W, (((((World.setCell w14 ⟨W0.heap.size, 0, none⟩ (.int .i64 kd)).setCell ⟨W0.heap.size, 1, none⟩ (.int .i64 (c.pl i))).setCell ⟨W0.heap.size, 2, none⟩ (.int .i64 0)).setCell ⟨W0.heap.size, 3, none⟩ (.string ⟨(tk c.ts i).S.toArray⟩)).setCell ⟨W0.heap.size, 4, none⟩ (.slice none 0 0)) = W := ⟨_, rfl⟩
   rw [hWF] at M15 ⊢
   clear hWF
   replace M15 := hidden M15
   have F2 := HF.out.only M15.out.st.on b1 b2 b3
   have c2 := F2.p
   clear F2
   go_wp2_with fail
   cases hs : isS [61] (tk c.ts (i + 1)) with
   | false =>
    refine (must_no M15.out.st.ps (by omega) [61] (by decide) hs).mono ?_
    rintro e w' ⟨rfl, ho⟩
    exact ⟨rfl, M15.out.st.stop ho (ex_mustN E14.out hs)⟩
   | true =>
    have t16 := isS_in hs
    have E16 := hidden (ex_must E14.out hs)
    refine (must_yes M15.out.st.ps [61] (by decide) hs).mono ?_
    rintro e w16 ⟨rfl, hp, ho⟩
    have M16 := hidden (M15.out.only ho hp)
    clear hp ho hs
    have F3 := HF.out.only M16.out.st.on b1 b2 b3
    have c3 := F3.pt
    clear F3 c2
    go_wp2_with fail
    refine (H1.out (i + 1 + 1) (by omega) (by omega) _ M16.out.st.ps).mono ?_
    intro e w17 hg
    cases hx : reads c.ts n1 (i + 1 + 1) with
    | error m =>
     rw [hx] at hg
     obtain ⟨rfl, ho⟩ := hg
     exact ⟨rfl, M16.out.st.stop ho (ex_err E16.out hx)⟩
    | ok xj =>
     obtain ⟨x17, j17⟩ := xj
     have f17 := reads_fine (ts := c.ts) n1 (i := i + 1 + 1) (by omega)
     rw [hx] at hg f17
     obtain ⟨ao17, cp17, rfl, hl, hp, ho⟩ := hg
     have E17 := hidden (ex_ok E16.out hx)
     have b17 : j17 ≤ c.ts.length := f17.2.1
     have a17 : i + 1 + 1 < j17 := f17.2.2 _ _ rfl hh
     have X17 := hidden (M16.out.fresh hl)
     have M17 := hidden (M16.out.only ho hp)
     clear hl hp ho hx f17
     clear c3
     obtain ⟨y0, y1, y2, y3, y4, yf⟩ := M17.out.n.cells
     have yl := M17.out.n.lt
     have yn := Nat.ne_of_lt yl
     obtain ⟨z0, z1, z2, z3, z4, zf⟩ := M17.out.st.zc
     have zl := M17.out.st.size
     have zn := Nat.ne_of_lt zl
     have zq := M17.out.hq
     have zq2 := Nat.ne_of_lt zq
     have zq3 := (Nat.ne_of_lt zq).symm
     go_wp2_with fail
     refine bodyPost_ret (results_cell_row rfl _ _ w.heap.size 25 #[.int .i64 kd, .int .i64 (c.pl i), .int .i64 0, .string ⟨(tk c.ts i).S.toArray⟩, .slice (some ⟨w17.heap.size, 0, none⟩) 1 1] (0, 0) _ rfl (M17.out.row1 _ _ _ _ _ _ _) Tryz.underlying25 rfl (by kernel_rfl)) rfl ?_
     exact M17.out.ret1 (s := (tk c.ts i).S) X17.out (E17.out) rfl
end
end Go.Proofs.YthjmakjhidjbaaaGreat
