/-
 Layer 8, the program's parser: how it stands within a rule's method: the parser, what it tells in the end, a node that is being made. No condition but that they lie in memory.
-/
import Derived.Test.YthjmakjhidjbaaaGreatLibAE
import Derived.Test.YthjmakjhidjbaaaGreatX8Tail
import Derived.Deep.LoopGhost
namespace Go.Proofs.YthjmakjhidjbaaaGreat
open Go.ChangeShapes Go.WideShapes Go.ChangeAt Go.RowKit Go.Deep
set_option linter.unusedVariables false
set_option linter.unusedSimpArgs false
set_option maxHeartbeats 1000000
set_option maxRecDepth 20000

/-- Within a method that began at w0: the parser is at i; what is told lies at w0's end, empty as yet. -/
structure St (c : PC) (w0 w : World) (i : Nat) : Prop where
 ps : PS c w i
 on : OnlyB c.b w0 w
 z : B5 w w0.heap.size 0 0 0 ⟨#[]⟩ (.slice none 0 0)
 b0 : c.b < w0.heap.size
 g0 : c.g < w0.heap.size
/-- A tree that a call has told, or a part of it. -/
abbrev Has (c : PC) (w0 w : World) (L : List Tr) (ao : Option Addr) : Prop := RL c.pl (fun g => w0.heap.size + 1 ≤ g) w L ao
section
variable {c : PC} {w0 w w' w'' : World} {i j : Nat} {L : List Tr} {ao : Option Addr}
theorem St.new (h : PS c w i) : St c w (w.alloc (.cells #[.int .i64 0, .int .i64 0, .int .i64 0, .string ⟨#[]⟩, .slice none 0 0] 25)) i := ⟨h.alloc _, alloc_only w c.b _, B5.new w 0 0 0 ⟨#[]⟩ (.slice none 0 0), h.lt, h.glt⟩
theorem St.only (h : St c w0 w i) (ho : OnlyB c.b w w') (hp : PS c w' j) : St c w0 w' j := ⟨hp, h.on.trans ho, h.z.only ho (by have := h.b0; omega), h.b0, h.g0⟩
theorem St.below (h : St c w0 w i) (hb : Below w.heap.size w w') : St c w0 w' i := h.only (Only.of_below hb) (h.ps.below hb)
theorem St.alloc (h : St c w0 w i) (o : Obj) : St c w0 (w.alloc o) i := h.below ((Below.refl _ _).alloc (Nat.le_refl _) _)
theorem St.drew (h : St c w0 w i) : St c w0 w.drew i := ⟨h.ps.drew, h.on.drew, h.z, h.b0, h.g0⟩
theorem St.set (h : St c w0 w i) {a : Addr} (ha : w0.heap.size < a.block) (u : Value) : St c w0 (w.setCell a u) i := ⟨h.ps.own (by have := h.b0; omega) (by have := h.g0; omega) u, h.on.setCell (Or.inl (by omega)) u, h.z.other (by omega) u, h.b0, h.g0⟩
theorem St.size (h : St c w0 w i) : w0.heap.size < w.heap.size := h.z.lt
theorem St.zc (h : St c w0 w i) : w.cell? ⟨w0.heap.size, 0, none⟩ = some (.int .i64 0) ∧ w.cell? ⟨w0.heap.size, 1, none⟩ = some (.int .i64 0) ∧ w.cell? ⟨w0.heap.size, 2, none⟩ = some (.int .i64 0) ∧ w.cell? ⟨w0.heap.size, 3, none⟩ = some (.string ⟨#[]⟩) ∧ w.cell? ⟨w0.heap.size, 4, none⟩ = some (.slice none 0 0) ∧ ∀ o, w.frozen? ⟨w0.heap.size, o, none⟩ = false := h.z.cells
theorem Has.only (h : Has c w0 w L ao) (hs : St c w0 w i) (ho : OnlyB c.b w w') : Has c w0 w' L ao := h.onlyQ ho (fun g hg => by have := hs.b0; omega)
theorem Has.below (h : Has c w0 w L ao) (hb : Below w.heap.size w w') : Has c w0 w' L ao := h.keep (fun g _ hl => hb.block g hl)
theorem Has.of (h : RL c.pl (fun g => w.heap.size ≤ g) w' L ao) (hs : St c w0 w i) : Has c w0 w' L ao := h.mono (fun g hg _ => by have := hs.size; omega)
theorem Has.set (h : Has c w0 w L ao) {a : Addr} (ha : a.block = w0.heap.size) (u : Value) : Has c w0 (w.setCell a u) L ao := RL.set h (fun g hg => by omega) u
/-- What is told in the end. -/
theorem St.ret (h : St c w0 w i) {x : Tr} {cp : Nat} (hx : Has c w0 w x.L ao) {R : Res} (hR : R = .ok (x, i)) {e : Ending} (he : e = .returned (.agg #[.int .i64 x.kind, .int .i64 (c.pl x.pl), .int .i64 x.N, .string ⟨x.S.toArray⟩, .slice ao x.L.length cp])) : Got8 c R w0 e (fill5 w w0.heap.size x.kind (c.pl x.pl) x.N ⟨x.S.toArray⟩ (.slice ao x.L.length cp)) := by
 subst hR he
 refine ⟨_, _, rfl, (hx.fill5 (fun g hg => by omega) _ _ _ _ _).mono (fun g hg _ => by omega), ?_, h.on.fill5 (Nat.le_refl _) _ _ _ _ _⟩
 have q : ∀ o, PS c w i → ∀ u, PS c (w.setCell ⟨w0.heap.size, o, none⟩ u) i := fun o hh u => hh.own (by have := h.b0; show w0.heap.size ≠ _; omega) (by have := h.g0; show w0.heap.size ≠ _; omega) u
 exact h.ps.keep (S := fun k => k = w0.heap.size) (Only.mono (S := fun k => k = w0.heap.size) ⟨rfl, rfl, rfl, by unfold fill5; simp only [nblk_setCell]; exact Nat.le_refl _, fun k _ hk => fill5_blk w hk _ _ _ _ _⟩ (fun _ _ hk => hk)) (by have := h.b0; omega) (by have := h.g0; omega)
theorem St.row (h : St c w0 w i) (a b d : Int) (x : ByteArray) (v : Value) : B5 (fill5 w w0.heap.size a b d x v) w0.heap.size a b d x v := h.z.fill a b d x v
theorem St.stop (h : St c w0 w i) {m : Nat} (ho : OnlyB c.b w w') {R : Res} (hR : R = .error m) : Got8 c R w0 (.panicked [faultQ (c.pl m)]) w' := by
 subst hR
 exact ⟨rfl, h.on.trans ho⟩
theorem Only.transB {S : Nat → Prop} {B : Nat} (h : Only S w0 w) (k : Only (fun g => B ≤ g) w w') (hB : w0.heap.size ≤ B) : Only S w0 w' := ⟨k.os.trans h.os, k.tape.trans h.tape, k.output.trans h.output, Nat.le_trans h.size k.size, fun b hb hs => (k.block b (Nat.lt_of_lt_of_le hb h.size) (by omega)).trans (h.block b hb hs)⟩
end
/-- A node at q that is being made; its parts so far lie in a row of the method's own. -/
structure Mk (c : PC) (w0 w : World) (i q : Nat) (k p N : Int) (s : ByteArray) (v : Value) (L : List ND) : Prop where
 st : St c w0 w i
 n : B5 w q k p N s v
 v : NWq c.pl w (w0.heap.size + 1) q v L
 hq : w0.heap.size < q
section
variable {c : PC} {w0 w w' : World} {i j q : Nat} {k p N : Int} {s : ByteArray} {v : Value} {L : List ND}
theorem Mk.only (h : Mk c w0 w i q k p N s v L) (ho : OnlyB c.b w w') (hp : PS c w' j) : Mk c w0 w' j q k p N s v L := ⟨h.st.only ho hp, h.n.only ho (by have := h.st.b0; have := h.hq; omega), h.v.only ho (by have := h.st.b0; omega), h.hq⟩
theorem Mk.below (h : Mk c w0 w i q k p N s v L) (hb : Below w.heap.size w w') : Mk c w0 w' i q k p N s v L := h.only (Only.of_below hb) (h.st.ps.below hb)
theorem Mk.alloc (h : Mk c w0 w i q k p N s v L) (o : Obj) : Mk c w0 (w.alloc o) i q k p N s v L := h.below ((Below.refl _ _).alloc (Nat.le_refl _) _)
theorem Mk.drew (h : Mk c w0 w i q k p N s v L) : Mk c w0 w.drew i q k p N s v L := ⟨h.st.drew, h.n, h.v.drew, h.hq⟩
theorem Mk.cell (h : Mk c w0 w i q k p N s v L) : w.cell? ⟨q, 4, none⟩ = some v := h.n.cells.2.2.2.2.1
theorem NWq.ownB {f : Nat → Int} {B g : Nat} (h : NWq f w B q v L) (e : v.ownBlock = some g) : B ≤ g := by
 rcases h.own.2 with ⟨rfl, _⟩ | ⟨g', cap, cur, rfl, hb, _⟩
 ·cases e
 ·simp only [Value.ownBlock, Option.some.injEq] at e; omega
theorem Mk.slice (h : Mk c w0 w i q k p N s v L) : ∃ ao cp, v = .slice ao L.length cp := h.v.slice
/-- It has one part more. -/
theorem Mk.grown (h : Mk c w0 w i q k p N s v L) {v' : Value} {L' : List ND} (hg : w.grownBy w' v.ownBlock) (hv : NWq c.pl w' (w0.heap.size + 1) q v' L') : Mk c w0 (w'.setCell ⟨q, 4, none⟩ v') i q k p N s v' L' := by
 have ho : Only (fun g => w0.heap.size + 1 ≤ g) w w' := grown_only hg (fun g e => h.v.ownB e)
 have hb := h.st.b0
 have hgg := h.st.g0
 have hq := h.hq
 refine ⟨⟨?_, ?_, ?_, hb, hgg⟩, (h.n.grown hg h.v.ne).set4 _, hv.set 4 _, hq⟩
 ·exact (h.st.ps.keep ho (by omega) (by omega)).own (by show q ≠ _; omega) (by show q ≠ _; omega) _
 ·exact (h.st.on.transB ho (by omega)).setCell (Or.inl (by show _ ≤ q; omega)) _
 ·have hz : B5 w' w0.heap.size 0 0 0 ⟨#[]⟩ (.slice none 0 0) := (ho.block _ h.st.z.lt (by omega)).trans h.st.z
  exact hz.other (by show q ≠ _; omega) _
/-- It is told. -/
theorem Mk.tree {pl : Nat} (h : Mk c w0 w i q k (c.pl pl) N s v L) : ∃ (ao : Option Addr) (cp : Nat), v = .slice ao L.length cp ∧ Has c w0 w (L.map ND.t) ao := by
 obtain ⟨ao, cp, rfl⟩ := h.slice
 exact ⟨ao, cp, rfl, (h.v.tree).1.mono (fun g hg _ => hg.1)⟩
theorem NWq.ownlt {f : Nat → Int} {B g : Nat} (h : NWq f w B q v L) (e : v.ownBlock = some g) : g < w.heap.size := by
 rcases h.own.2 with ⟨rfl, _⟩ | ⟨g', cap, cur, rfl, hb, hg, _⟩
 ·cases e
 ·simp only [Value.ownBlock, Option.some.injEq] at e
  subst e
  exact lt_of_some hg
/-- What a call has told lies neither in the row nor in the node. -/
theorem Mk.fresh (h : Mk c w0 w i q k p N s v L) {K : List Tr} {ao : Option Addr} (hl : RL c.pl (fun g => w.heap.size ≤ g) w' K ao) : RL c.pl (fun g => w0.heap.size + 1 ≤ g ∧ g ≠ q ∧ v.ownBlock ≠ some g) w' K ao := hl.mono (fun g hg _ => ⟨by have := h.st.size; omega, by have := h.n.lt; omega, fun e => by have := h.v.ownlt e; omega⟩)
/-- A node with its first part. -/
theorem Mk.first (h : St c w0 w i) {x : Tr} {ao : Option Addr} (cp : Nat) (hx : Has c w0 w x.L ao) (k p N : Int) (s : ByteArray) : Mk c w0 ((w.alloc (.cells #[.int .i64 x.kind, .int .i64 (c.pl x.pl), .int .i64 x.N, .string ⟨x.S.toArray⟩, .slice ao x.L.length cp] 25)).alloc (.cells #[.int .i64 k, .int .i64 p, .int .i64 N, .string s, .slice (some ⟨w.heap.size, 0, none⟩) 1 1] 25)) i (w.heap.size + 1) k p N s (.slice (some ⟨w.heap.size, 0, none⟩) 1 1) [⟨x, ao, cp⟩] := by
 have hz := h.size
 refine ⟨(h.alloc _).alloc _, B5.newAt _ _ _ _ _ (nblk_alloc _ _), NWq.alloc (NWq.one (blk_alloc_new _ _) (by omega) (by omega) ?_) _, by omega⟩
 exact (hx.mono (Q := fun g => w0.heap.size + 1 ≤ g ∧ g ≠ w.heap.size + 1 ∧ g ≠ w.heap.size) (fun g hg hl => by omega)).alloc _
/-- It is told. -/
theorem Mk.ret {pl : Nat} {s : List UInt8} (h : Mk c w0 w i q k (c.pl pl) N ⟨s.toArray⟩ v L) {R : Res} (hR : R = .ok (.mk k pl N s (L.map ND.t), i)) {e : Ending} (he : e = .returned (.agg #[.int .i64 k, .int .i64 (c.pl pl), .int .i64 N, .string ⟨s.toArray⟩, v])) : Got8 c R w0 e (fill5 w w0.heap.size k (c.pl pl) N ⟨s.toArray⟩ v) := by
 obtain ⟨ao, cp, rfl, hx⟩ := h.tree
 have e1 : L.length = (L.map ND.t).length := (List.length_map _).symm
 rw [e1] at he ⊢
 exact h.st.ret (x := .mk k pl N s (L.map ND.t)) (cp := cp) hx hR he
theorem blk_new_at {w : World} (o : Obj) {g : Nat} (hg : w.heap.size = g) : (w.alloc o).heap[g]? = some o := hg ▸ blk_alloc_new _ _
/-- A node without parts. -/
theorem Mk.zero (h : St c w0 w i) (k p N : Int) (s : ByteArray) : Mk c w0 (w.alloc (.cells #[.int .i64 k, .int .i64 p, .int .i64 N, .string s, .slice none 0 0] 25)) i w.heap.size k p N s (.slice none 0 0) [] := ⟨h.alloc _, B5.new _ _ _ _ _ _, NWq.nil _ _ _ _, h.size⟩
theorem Mk.setN (h : Mk c w0 w i q k p N s v L) (N' : Int) : Mk c w0 (w.setCell ⟨q, 2, none⟩ (.int .i64 N')) i q k p N' s v L := ⟨h.st.set (a := ⟨q, 2, none⟩) h.hq _, h.n.set2 _, h.v.set 2 _, h.hq⟩
theorem Mk.setS (h : Mk c w0 w i q k p N s v L) (s' : ByteArray) : Mk c w0 (w.setCell ⟨q, 3, none⟩ (.string s')) i q k p N s' v L := ⟨h.st.set (a := ⟨q, 3, none⟩) h.hq _, h.n.set3 _, h.v.set 3 _, h.hq⟩
/-- Its parts are one. -/
theorem Mk.setL (h : Mk c w0 w i q k p N s v L) {x : Tr} {ao : Option Addr} (cp : Nat) (hx : RL c.pl (fun g => w0.heap.size + 1 ≤ g ∧ g ≠ q ∧ v.ownBlock ≠ some g) w x.L ao) : Mk c w0 ((w.setCell ⟨q, 4, none⟩ (.slice (some ⟨w.heap.size, 0, none⟩) 1 1)).alloc (.cells #[.int .i64 x.kind, .int .i64 (c.pl x.pl), .int .i64 x.N, .string ⟨x.S.toArray⟩, .slice ao x.L.length cp] 25)) i q k p N s (.slice (some ⟨w.heap.size, 0, none⟩) 1 1) [⟨x, ao, cp⟩] := by
 have hq := h.n.lt
 have hz := h.st.size
 refine ⟨(h.st.set (a := ⟨q, 4, none⟩) h.hq _).alloc _, (h.n.set4 _).alloc _, NWq.one ?_ (by omega) (by omega) ?_, h.hq⟩
 ·exact blk_new_at _ (by rw [nblk_setCell])
 ·exact ((hx.mono (Q := fun g => w0.heap.size + 1 ≤ g ∧ g ≠ q ∧ g ≠ w.heap.size) (fun g hg hl => ⟨hg.1, hg.2.1, by omega⟩)).set (a := ⟨q, 4, none⟩) (fun g hg => hg.2.1) _).alloc _
theorem fill5_alloc (w : World) (o : Obj) {r : Nat} (hr : r < w.heap.size) (a b d : Int) (x : ByteArray) (u : Value) : fill5 (w.alloc o) r a b d x u = (fill5 w r a b d x u).alloc o := by
 unfold fill5
 rw [World.setCell_alloc_past _ _ _ _ hr, World.setCell_alloc_past _ _ _ _ (by rw [nblk_setCell]; exact hr), World.setCell_alloc_past _ _ _ _ (by simp only [nblk_setCell]; exact hr), World.setCell_alloc_past _ _ _ _ (by simp only [nblk_setCell]; exact hr), World.setCell_alloc_past _ _ _ _ (by simp only [nblk_setCell]; exact hr)]
/-- Its one part, and it is told. -/
theorem Mk.ret1 {pl : Nat} {s : List UInt8} (h : Mk c w0 w i q k (c.pl pl) N ⟨s.toArray⟩ v L) {x : Tr} {ao : Option Addr} {cp : Nat} (hx : RL c.pl (fun g => w0.heap.size + 1 ≤ g ∧ g ≠ q ∧ v.ownBlock ≠ some g) w x.L ao) {R : Res} (hR : R = .ok (.mk k pl N s [x], i)) {e : Ending} (he : e = .returned (.agg #[.int .i64 k, .int .i64 (c.pl pl), .int .i64 N, .string ⟨s.toArray⟩, .slice (some ⟨w.heap.size, 0, none⟩) 1 1])) : Got8 c R w0 e ((fill5 (w.setCell ⟨q, 4, none⟩ (.slice (some ⟨w.heap.size, 0, none⟩) 1 1)) w0.heap.size k (c.pl pl) N ⟨s.toArray⟩ (.slice (some ⟨w.heap.size, 0, none⟩) 1 1)).alloc (.cells #[.int .i64 x.kind, .int .i64 (c.pl x.pl), .int .i64 x.N, .string ⟨x.S.toArray⟩, .slice ao x.L.length cp] 25)) := by
 rw [← fill5_alloc _ _ (by rw [nblk_setCell]; exact h.st.size)]
 exact (h.setL cp hx).ret hR he
theorem Mk.row1 (h : Mk c w0 w i q k p N s v L) (o : Obj) (a b d : Int) (x : ByteArray) (u u' : Value) : B5 ((fill5 (w.setCell ⟨q, 4, none⟩ u') w0.heap.size a b d x u).alloc o) w0.heap.size a b d x u := (((h.st.set (a := ⟨q, 4, none⟩) h.hq u').z).fill a b d x u).alloc o
/-- Its parts are some that a call has told; then it is told. -/
theorem Mk.retL {pl : Nat} {s : List UInt8} (h : Mk c w0 w i q k (c.pl pl) N ⟨s.toArray⟩ v L) {K : List Tr} {ao : Option Addr} {cp : Nat} (hx : RL c.pl (fun g => w0.heap.size + 1 ≤ g ∧ g ≠ q ∧ v.ownBlock ≠ some g) w K ao) {R : Res} (hR : R = .ok (.mk k pl N s K, i)) {e : Ending} (he : e = .returned (.agg #[.int .i64 k, .int .i64 (c.pl pl), .int .i64 N, .string ⟨s.toArray⟩, .slice ao K.length cp])) : Got8 c R w0 e (fill5 (w.setCell ⟨q, 4, none⟩ (.slice ao K.length cp)) w0.heap.size k (c.pl pl) N ⟨s.toArray⟩ (.slice ao K.length cp)) :=
 (h.st.set (a := ⟨q, 4, none⟩) h.hq _).ret (x := .mk k pl N s K) (cp := cp) ((hx.mono (Q := fun g => w0.heap.size + 1 ≤ g ∧ g ≠ q) (fun g hg _ => ⟨hg.1, hg.2.1⟩)).set (a := ⟨q, 4, none⟩) (fun g hg => hg.2) _ |>.mono (fun g hg _ => hg.1)) hR he
end
/-- A node in a variable of the method's own. -/
structure Lc (c : PC) (w0 w : World) (q : Nat) (k p N : Int) (s : ByteArray) (v : Value) : Prop where
 n : B5 w q k p N s v
 hq : w0.heap.size < q
section
variable {c : PC} {w0 w w' : World} {i j q : Nat} {k p N : Int} {s : ByteArray} {v : Value}
theorem Lc.new (h : St c w0 w i) (k p N : Int) (s : ByteArray) (v : Value) : Lc c w0 (w.alloc (.cells #[.int .i64 k, .int .i64 p, .int .i64 N, .string s, v] 25)) w.heap.size k p N s v := ⟨B5.new _ _ _ _ _ _, h.size⟩
theorem Lc.only (h : Lc c w0 w q k p N s v) (hs : St c w0 w i) (ho : OnlyB c.b w w') : Lc c w0 w' q k p N s v := ⟨h.n.only ho (by have := hs.b0; have := h.hq; omega), h.hq⟩
theorem Lc.below (h : Lc c w0 w q k p N s v) (hb : Below w.heap.size w w') : Lc c w0 w' q k p N s v := ⟨h.n.below hb (Nat.le_refl _), h.hq⟩
theorem Lc.alloc (h : Lc c w0 w q k p N s v) (o : Obj) : Lc c w0 (w.alloc o) q k p N s v := ⟨h.n.alloc _, h.hq⟩
theorem leafS (h : PS c w i) (k : Int) (hi : i < c.ts.length) (hk : (tk c.ts i).kind ≠ 1) : Calls Tryz.prog 139 #[.pointer (some ⟨c.b, 0, none⟩), .int .i64 k] w fun e w' => e = .returned (.agg #[.int .i64 k, .int .i64 (c.pl i), .int .i64 0, .string ⟨(tk c.ts i).S.toArray⟩, .slice none 0 0]) ∧ PS c w' (i + 1) ∧ OnlyB c.b w w' := by
 have := leaf8 h k hi
 rw [(c.shape i hi).2 hk] at this
 exact this
theorem leafI (h : PS c w i) (k : Int) (hi : i < c.ts.length) (hk : (tk c.ts i).kind = 1) : Calls Tryz.prog 139 #[.pointer (some ⟨c.b, 0, none⟩), .int .i64 k] w fun e w' => e = .returned (.agg #[.int .i64 k, .int .i64 (c.pl i), .int .i64 (tk c.ts i).N, .string ⟨#[]⟩, .slice none 0 0]) ∧ PS c w' (i + 1) ∧ OnlyB c.b w w' := by
 have := leaf8 h k hi
 rw [(c.shape i hi).1 hk] at this
 exact this
theorem signT_is {t : Tk} {s : List UInt8} (h : isS s t = true) : signT t = s := by
 unfold isS at h
 rw [Bool.and_eq_true, beq_iff_eq (b := s)] at h
 unfold signT
 rw [h.1, h.2]
 rfl
theorem signT_no {t : Tk} {s : List UInt8} (h : isS s t = false) (hs : s ≠ []) : ((⟨(signT t).toArray⟩ : ByteArray).toList == s) = false := by
 rw [Go.ByteArray.toList_eq]
 show ((signT t).toArray.toList == s) = false
 rw [beq_eq_false_iff_ne]
 intro e
 have e' : signT t = s := e
 unfold signT at e'
 unfold isS at h
 cases hk : t.kind == 5 with
 | true => rw [hk] at e' h; simp only [if_true] at e'; rw [e'] at h; simp at h
 | false => rw [hk] at e'; exact hs e'.symm
theorem kind_no {t : Tk} {k : Int} (h : isK k t = false) : (t.kind == k) = false := h
theorem sign_kind {t : Tk} {s : List UInt8} (h : isS s t = true) : t.kind = 5 := by
 unfold isS at h
 rw [Bool.and_eq_true, beq_iff_eq] at h
 exact h.1
theorem sign_ne1 {t : Tk} {s : List UInt8} (h : isS s t = true) : t.kind ≠ 1 := by
 rw [sign_kind h]; decide
end
/-- While parts are added. -/
def InM (c : PC) (w0 : World) (lo : Nat) (R : Res) (T : NT) (C : List Tr → Pg) (q : Nat) (k p N : Int) (s : ByteArray) (gk : Nat) (wr : World) : Prop := ∃ (kk : Nat) (ao : Option Addr) (n cp : Nat) (L : List ND), kk ≤ c.ts.length ∧ lo ≤ kk ∧ L.length ≤ kk ∧ gk = c.ts.length + 1 - kk ∧ Mk c w0 wr kk q k p N s (.slice ao n cp) L ∧ R = exec c.ts (reads c.ts) (.call T fun r => C (L.map ND.t ++ r.L)) kk
/-- The method of a rule. -/
def fnOf : NT → Option Nat
 | .item => some 40
 | .lab => some 95
 | .con k => if k = 207 then some 75 else none
 | .bind => some 93
 | .seq => some 111
 | .expr => some 125
 | .arm => some 156
 | .tup => some 157
 | .join 0 => some 163
 | .join 1 => some 166
 | .join 2 => some 169
 | .join 3 => some 172
 | .join 4 => some 174
 | .join 5 => some 175
 | .join 6 => some 176
 | .join 7 => some 177
 | .un => some 177
 | .app => some 179
 | .post => some 180
 | .atom => some 182
 | .pat => some 109
 | .alt => some 122
 | .ptup => some 138
 | .pcons => some 154
 | .papp => some 161
 | .patom => some 123
 | .ty => some 96
 | .tprod => some 113
 | .tpost => some 128
 | _ => none
def Ru (c : PC) (n : NT) (i : Nat) : Prop := match fnOf n with | some k => Rule c k n i | none => True
/-- All rules' methods, from places behind. -/
abbrev Beh (c : PC) (i : Nat) : Prop := ∀ n j, i < j → j ≤ c.ts.length → Ru c n j
end Go.Proofs.YthjmakjhidjbaaaGreat
