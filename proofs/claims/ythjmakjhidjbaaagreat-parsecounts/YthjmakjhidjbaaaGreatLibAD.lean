/-
  Several small texts in one; each tells at its head what it proves, and on what condition.
-/
import Derived.Test.YthjmakjhidjbaaaGreatRows
import Derived.ProofKit
import Derived.OpenShut
import Derived.WalkKit
import Derived.Deep.Slices
import Derived.BigQuiet
import Derived.Laws.Strings2
import Derived.Test.YthjmakjhidjbaaaGreatLibAB
import Derived.Below
import Derived.Deep.Heap
import Derived.Deep.AppendLies
import Derived.Laws.IdiomStrings
import Derived.OwnWalk

/-
 Layer 7, the document's own lex: which bytes are which, whether a text stands at a place, comments. No condition but that places are within the source.
-/
namespace Go.Proofs.YthjmakjhidjbaaaGreat
open Go.ChangeShapes Go.WideShapes Go.ChangeAt Go.RowKit Go.Deep
set_option linter.unusedVariables false
set_option maxHeartbeats 1000000

theorem hidden {p : Prop} (h : p) : Hid p := h
/-- A source from a place on. -/
def suf (s : ByteArray) (i : Nat) : List UInt8 := s.data.toList.drop i
theorem suf_len (s : ByteArray) (i : Nat) : (suf s i).length = s.size - i := by unfold suf; rw [List.length_drop]; rfl
theorem suf_cons (s : ByteArray) {i : Nat} (h : i < s.size) : suf s i = s[i] :: suf s (i + 1) := by
 unfold suf
 exact List.drop_eq_getElem_cons (by rw [Array.length_toList]; exact h)
theorem u8_iff (c : UInt8) (n : Nat) (hn : n < 256) : (decide (UInt8.ofNat n ≤ c) = decide ((n : Int) ≤ (c.toNat : Int))) ∧ (decide (c ≤ UInt8.ofNat n) = decide ((c.toNat : Int) ≤ (n : Int))) ∧ ((c == UInt8.ofNat n) = ((c.toNat : Int) == (n : Int))) := by
 have e : (UInt8.ofNat n).toNat = n := by simp; omega
 refine ⟨?_, ?_, ?_⟩
 ·congr 1; rw [UInt8.le_iff_toNat_le, e]; exact propext (by omega)
 ·congr 1; rw [UInt8.le_iff_toNat_le, e]; exact propext (by omega)
 ·rw [Bool.eq_iff_iff, beq_iff_eq, beq_iff_eq, ← UInt8.toNat_inj, e]; omega
theorem small_is (c : UInt8) : smallB c = ((decide ((97 : Int) ≤ (c.toNat : Int)) && decide ((c.toNat : Int) ≤ 122)) || ((c.toNat : Int) == 95)) := by
 unfold smallB
 have h1 := (u8_iff c 97 (by decide)).1
 have h2 := (u8_iff c 122 (by decide)).2.1
 have h3 := (u8_iff c 95 (by decide)).2.2
 exact congr (congrArg _ (congr (congrArg _ h1) h2)) h3
theorem great_is (c : UInt8) : greatB c = (decide ((65 : Int) ≤ (c.toNat : Int)) && decide ((c.toNat : Int) ≤ 90)) := by
 unfold greatB
 exact congr (congrArg _ (u8_iff c 65 (by decide)).1) (u8_iff c 90 (by decide)).2.1
theorem digit_is (c : UInt8) : digitB c = (decide ((48 : Int) ≤ (c.toNat : Int)) && decide ((c.toNat : Int) ≤ 57)) := by
 unfold digitB
 exact congr (congrArg _ (u8_iff c 48 (by decide)).1) (u8_iff c 57 (by decide)).2.1
theorem ret_bool {a b : Bool} (h : a = b) : Ending.returned (.bool a) = .returned (.bool b) := by rw [h]
/-- Does a text stand at a place? -/
def atB (s : ByteArray) (i : Nat) (t : ByteArray) : Bool := t.data.toList.isPrefixOf (suf s i)
theorem at_no {s t : ByteArray} {i : Nat} (h : s.size < i + t.size) (hi : i ≤ s.size) : atB s i t = false := by
 unfold atB
 cases e : t.data.toList.isPrefixOf (suf s i) with
 | false => rfl
 | true =>
  have := (List.isPrefixOf_iff_prefix.1 e).length_le
  rw [suf_len] at this
  have e2 : t.data.toList.length = t.size := rfl
  omega
end Go.Proofs.YthjmakjhidjbaaaGreat

/-
 Layer 7, the document's own lex: forms behind a backslash. Condition: the place is within the source, or at its end.
-/
namespace Go.Proofs.YthjmakjhidjbaaaGreat
open Go.ChangeShapes Go.WideShapes Go.ChangeAt Go.RowKit Go.Deep
set_option linter.unusedVariables false
set_option maxHeartbeats 1000000

/-- What hex tells. -/
def hexR (c : UInt8) : Int := match hexB c with | some a => (a.toNat : Int) | none => -1
/-- What form tells. -/
def formR (s : ByteArray) (i : Nat) : Int × Int := match formB (suf s i) with | some (c, r) => ((c.toNat : Int), (s.size : Int) - i - r.length) | none => (0, 0)
end Go.Proofs.YthjmakjhidjbaaaGreat

/-
 Layer 7, the document's own lex: the language's words, its signs.
-/
namespace Go.Proofs.YthjmakjhidjbaaaGreat
open Go.ChangeShapes Go.WideShapes Go.ChangeAt Go.RowKit Go.Deep
set_option linter.unusedVariables false
set_option maxHeartbeats 1000000

/-- The language's words. -/
def wordsL : List (List UInt8) := [[97, 110, 100], [97, 115], [98, 101, 103, 105, 110], [100, 111], [100, 111, 110, 101], [100, 111, 119, 110, 116, 111], [101, 108, 115, 101], [101, 110, 100], [101, 120, 99, 101, 112, 116, 105, 111, 110], [102, 97, 108, 115, 101], [102, 111, 114], [102, 117, 110], [102, 117, 110, 99, 116, 105, 111, 110], [105, 102], [105, 110], [108, 101, 116], [109, 97, 116, 99, 104], [109, 111, 100], [109, 117, 116, 97, 98, 108, 101], [110, 111, 116], [111, 102], [114, 97, 105, 115, 101], [114, 101, 99], [116, 104, 101, 110], [116, 111], [116, 114, 117, 101], [116, 114, 121], [116, 121, 112, 101], [119, 104, 101, 110], [119, 104, 105, 108, 101], [119, 105, 116, 104]]
/-- Its signs, the longer ones first. -/
def signsL : List (List UInt8) := [[91, 124], [124, 93], [59, 59], [58, 58], [58, 61], [60, 45], [45, 62], [124, 124], [38, 38], [60, 62], [60, 61], [62, 61], [46, 40], [40], [41], [91], [93], [123], [125], [59], [44], [58], [124], [61], [60], [62], [43], [45], [42], [47], [94], [33], [46]]
def strV (l : List UInt8) : Value := .string ⟨l.toArray⟩
def strsO (L : List (List UInt8)) : Obj := .cells (L.map strV).toArray 9
end Go.Proofs.YthjmakjhidjbaaaGreat

/-
 Layer 7: rows of bytes that a call owns: made of a text, grown by a byte, made a text again. No condition but that they lie in memory.
-/
namespace Go.Proofs.YthjmakjhidjbaaaGreat
open Go.ChangeShapes Go.WideShapes Go.ChangeAt Go.RowKit Go.Deep
set_option linter.unusedVariables false
set_option maxHeartbeats 1000000

theorem lt_of_some {w : World} {g : Nat} {o : Obj} (h : w.heap[g]? = some o) : g < w.heap.size := (Array.getElem?_eq_some_iff.1 h).1
/-- A byte. -/
def u8v (b : UInt8) : Value := .int .u8 b.toNat
/-- A row of bytes that lies at B or above; nothing in it is frozen. -/
def BR (w : World) (B : Nat) (v : Value) (l : List UInt8) : Prop := ∃ g cap cur fz, v = .slice (some ⟨g, 0, none⟩) l.length cap ∧ B ≤ g ∧ w.heap[g]? = some (.cells cur 5 fz) ∧ (fz = (0, 0) ∨ cur.size ≤ fz.1) ∧ l.length ≤ cap ∧ cap ≤ maxLen ∧ cur.size = cap ∧ cur.toList.take l.length = l.map u8v
section
variable {w w' : World} {B : Nat} {v : Value} {l : List UInt8}
theorem BR.keep (h : BR w B v l) (hk : ∀ g, v.ownBlock = some g → w'.heap[g]? = w.heap[g]?) : BR w' B v l := by
 obtain ⟨g, cap, cur, fz, e, hb, hg, rest⟩ := h
 exact ⟨g, cap, cur, fz, e, hb, (hk g (by rw [e]; rfl)).trans hg, rest⟩
theorem BR.lt (h : BR w B v l) : ∀ g, v.ownBlock = some g → B ≤ g ∧ g < w.heap.size := by
 obtain ⟨g, cap, cur, fz, e, hb, hg, rest⟩ := h
 intro g' hg'
 rw [e] at hg'
 have : g = g' := by simpa [Value.ownBlock] using hg'
 subst this
 exact ⟨hb, lt_of_some hg⟩
theorem BR.below (h : BR w B v l) (k : Below w.heap.size w w') : BR w' B v l := h.keep (fun g hg => k.block g (h.lt g hg).2)
theorem BR.slice (h : BR w B v l) : ∃ g cap, v = .slice (some ⟨g, 0, none⟩) l.length cap ∧ (∀ i (hi : i < l.length), w.cell? ⟨g, i, none⟩ = some (u8v l[i])) ∧ (∀ i, i < l.length → w.frozen? ⟨g, i, none⟩ = false) ∧ l.length ≤ cap ∧ B ≤ g ∧ g < w.heap.size := by
 obtain ⟨g, cap, cur, fz, e, hb, hg, hf, hc, hm, hs, ht⟩ := h
 refine ⟨g, cap, e, fun i hi => ?_, fun i hi => ?_, hc, hb, lt_of_some hg⟩
 ·have h1 : (cur.toList.take l.length)[i]? = some (u8v l[i]) := by rw [ht]; simp [hi]
  rw [List.getElem?_take, if_pos hi] at h1
  have h2 : cur[i]? = some (u8v l[i]) := by simpa using h1
  simp [World.cell?, hg, h2]
 ·simp only [World.frozen?, hg]
  rcases hf with rfl | hf
  ·simp
  ·obtain ⟨lo, hi'⟩ := fz
   simp only at hf
   simp only [Bool.and_eq_false_iff, decide_eq_false_iff_not]
   left
   omega
end
theorem infoU8 : (Tryz.prog.info? 5).map (fun i => (i.zero, i.size, i.bytes)) = some (some (.int .u8 0), 1, 1) := by kernel_rfl
/-- '[]byte(s)'. -/
theorem run_bytes (s : ByteArray) (hs : s.size ≤ maxLen) (w : World) : ∃ cap C fz, Sem.run Tryz.prog (convert 9 76 (.string s)) w = .ok (.slice (some ⟨w.heap.size, 0, none⟩) s.size cap) (w.drew.alloc (.cells C 5 fz)) ∧ ∀ B, B ≤ w.heap.size → BR (w.drew.alloc (.cells C 5 fz)) B (.slice (some ⟨w.heap.size, 0, none⟩) s.size cap) s.data.toList := by
 have hl : s.data.toList.length = s.size := by rw [Array.length_toList]; rfl
 have hge := grownCap_ge w s.size 0 5
 have hle := grownCap_le_maxLen w s.size 0 5 hs
 have hsz : (bytesRow s (grownCap w s.size 0 5)).size = grownCap w s.size 0 5 := by
  unfold bytesRow
  have : s.data.size = s.size := rfl
  simp [this]
  omega
 refine ⟨_, _, _, run_bytes_of_string w 9 76 5 s Tryz.underlying9 Tryz.underlying76 Tryz.underlying5, fun B hB => ⟨w.heap.size, _, _, _, by rw [hl], hB, blk_alloc_new _ _, Or.inr (Nat.le_refl _), by rw [hl]; exact hge, hle, hsz, ?_⟩⟩
 unfold bytesRow
 rw [Array.toList_append, List.take_append_of_le_length (by simp), List.take_of_length_le (by simp)]
 simp [u8v]
/-- 'string(b)'. -/
theorem run_string {w : World} {g c : Nat} (l : List UInt8) (h : ∀ i (hi : i < l.length), w.cell? ⟨g, i, none⟩ = some (u8v l[i])) : Sem.run Tryz.prog (convert 76 9 (.slice (some ⟨g, 0, none⟩) l.length c)) w = .ok (.string ⟨l.toArray⟩) w := by
 refine run_convert_bytes_back w 76 9 5 ⟨g, 0, none⟩ c l Tryz.underlying76 Tryz.underlying5 Tryz.underlying9 (fun j hj => ?_)
 have e : (Addr.mk g 0 none).add j = ⟨g, j, none⟩ := by
  unfold Addr.add
  split
  ·rename_i h; rw [h]
  ·simp
 rw [e, h j hj]; rfl
/-- One byte more. -/
theorem run_append_byte {w : World} {B : Nat} {v : Value} {l : List UInt8} (ty : TypeId) (h : BR w B v l) (hB : B ≤ w.heap.size) (gx c : Nat) (b : UInt8) (hx : w.cell? ⟨gx, 0, none⟩ = some (u8v b)) (hl : l.length < 1000000) :
  ∃ g cap w', Sem.run Tryz.prog (Builtin.append_ #[76, 76] ty #[v, .slice (some ⟨gx, 0, none⟩) 1 c]) w = .ok (.slice (some ⟨g, 0, none⟩) (l.length + 1) cap) w' ∧ BR w' B (.slice (some ⟨g, 0, none⟩) (l.length + 1) cap) (l ++ [b]) ∧ w.grownBy w' v.ownBlock := by
 obtain ⟨i0, hi, hz0, hz1, hz2⟩ := info_parts infoU8
 have h0 := h
 obtain ⟨g, cap, cur, fz, rfl, hb, hg, hf, hc, hm, hs, ht⟩ := h
 have hnews : ∀ j u, [u8v b][j]? = some u → w.cell? ((Addr.mk gx 0 none).add j) = some u := by
  intro j u hu
  match j, hu with
  | 0, hu => simp at hu; subst hu; exact hx
 have hlen : (l ++ [b]).length = l.length + 1 := by simp
 by_cases hroom : l.length + 1 ≤ cap
 ·have hfr : w.frozen? ⟨g, l.length, none⟩ = false := by
   simp only [World.frozen?, hg]
   rcases hf with rfl | hf
   ·simp
   ·obtain ⟨lo, hi'⟩ := fz
    simp only at hf
    simp only [Bool.and_eq_false_iff, decide_eq_false_iff_not]
    left
    omega
  have hcell : w.cell? ⟨g, l.length, none⟩ = some cur[l.length] := by simp [World.cell?, hg, show l.length < cur.size by omega]
  have hff := run_firstCells_some (P := Tryz.prog) w i0.size 1 ⟨gx, 0, none⟩ 1 c [u8v b] (by rw [hz1]; rfl) hnews
  refine ⟨g, cap, w.setCell ⟨g, l.length, none⟩ (u8v b), ?_, ⟨g, cap, cur.setIfInBounds l.length (u8v b), fz, by rw [hlen], hb, by simp [World.setCell, Array.getElem?_modify, hg], by simpa using hf, by rw [hlen]; exact hroom, hm, by simpa using hs, ?_⟩, ?_⟩
  ·have hadd : (Addr.mk g l.length none).add 0 = ⟨g, l.length, none⟩ := rfl
   have hst1 : (store ((Addr.mk g l.length none).add 0) (u8v b)).run Tryz.prog w = .ok () (w.setCell ⟨g, l.length, none⟩ (u8v b)) := by
    rw [hadd, run_store Tryz.prog w _ (u8v b) _ rfl, hcell]
    simp [hfr]
   have hst : (storeCells ⟨g, l.length, none⟩ [u8v b] 0).run Tryz.prog w = .ok () (w.setCell ⟨g, l.length, none⟩ (u8v b)) := by
    simp only [storeCells, Sem.run_bind, hst1, Result.andThen_ok]
    rfl
   rw [hz1] at hff
   simp [Builtin.append_, run_underlying Tryz.underlying76, sizeOf, typeInfo, hi, hz1, Builtin.lenOf, hroom, hff, Addr.add_lit, hst]
  ·rw [hlen, Array.toList_setIfInBounds, List.take_add_one, List.take_set_of_le (Nat.le_refl _), ht, List.getElem?_set_self (show l.length < cur.toList.length by have e : cur.toList.length = cur.size := Array.length_toList; omega), List.map_append]
   rfl
  ·exact ⟨rfl, rfl, rfl, by simp [World.setCell], fun k _ hk => blk_setCell_other _ _ _ _ (fun e => hk (by simp [Value.ownBlock, e]))⟩
 ·have hcl : cap = l.length := by omega
  have holds : ∀ j u, (l.map u8v)[j]? = some u → w.cell? ((Addr.mk g 0 none).add j) = some u := by
   intro j u hu
   have hj : j < l.length := by have := (List.getElem?_eq_some_iff.1 hu).1; simpa using this
   have e : (Addr.mk g 0 none).add j = ⟨g, j, none⟩ := by
    unfold Addr.add
    split
    ·rename_i h; rw [h]
    ·simp
   obtain ⟨g', cap', e', hc', _⟩ := h0.slice
   simp only [Value.slice.injEq, Option.some.injEq, Addr.mk.injEq, and_true, true_and] at e'
   obtain ⟨rfl, rfl⟩ := e'
   rw [e, hc' j hj]
   simpa [hj] using hu
  have hge := grownCap_ge w (l.length + 1) cap 5
  have hle := grownCap_le_maxLen w (l.length + 1) cap 5 (by unfold maxLen; omega)
  have hrun := run_append_grow (P := Tryz.prog) w 76 ty 5 i0 (.int .u8 0) Tryz.underlying76 hi hz0 ⟨g, 0, none⟩ l.length cap (l.map u8v) (by rw [hz1]; simp) holds ⟨gx, 0, none⟩ 1 c [u8v b] (by rw [hz1]; rfl) hnews (by omega) (by omega) (by have := nextslicecap_le (need := l.length + 1) (old := cap) (by omega); rw [hz2]; omega)
  refine ⟨_, _, _, hrun, ⟨w.heap.size, _, _, (0, 0), by rw [hlen], hB, blk_alloc_new _ _, Or.inl rfl, by rw [hlen]; exact hge, hle, ?_, ?_⟩, ?_⟩
  ·simp only [Array.size_append, List.size_toArray, List.length_map, List.length_cons, List.length_nil, size_zeroCells]
   show l.length + (0 + 1) + (grownCap w (l.length + 1) cap 5 - (l.length + 1)) * 1 = _
   omega
  ·rw [hlen]
   simp only [Array.toList_append]
   rw [List.take_left' (by simp), List.map_append]
   rfl
  ·exact ⟨rfl, rfl, rfl, by simp, fun k hk _ => blk_alloc_lt w.drew _ k hk⟩
theorem append_byte {w : World} {ops : Array Oper} {rest : List Oper} {o : Oper} {a : Act} {Q : Exit → Act → World → Prop} (hgd : o.guard = none) (s x : Operand)
  (ho : o.op = .call { callee := .builtin .append, args := #[s, x], argTypes := #[76, 76] }) (B : Nat) (v : Value) (l : List UInt8) (hs : a.eval s = v) (hown : BR w B v l)
  (gx c : Nat) (b : UInt8) (hx : a.eval x = .slice (some ⟨gx, 0, none⟩) 1 c) (hu : w.cell? ⟨gx, 0, none⟩ = some (u8v b)) (hn : l.length < 1000000) (hB : B ≤ w.heap.size)
  (h : ∀ g cap w', BR w' B (.slice (some ⟨g, 0, none⟩) (l.length + 1) cap) (l ++ [b]) → w.grownBy w' v.ownBlock → wpList Tryz.prog ops Q rest (a.put o.dst (.slice (some ⟨g, 0, none⟩) (l.length + 1) cap)) w') : wpList Tryz.prog ops Q (o :: rest) a w := by
 refine wpList_plain hgd fun K hK => ?_
 obtain ⟨g, cap, w', hr, h2, h3⟩ := run_append_byte o.type hown hB gx c b hu hn
 unfold Oper.wp execOp
 simp only [ho, resolve, invoke, builtin, Sem.run_bind, Sem.run_pure, Result.andThen_ok, List.map_toArray, List.map_cons, List.map_nil, hs, hx, hr]
 exact hK _ _ (h g cap w' h2 h3)
theorem byte_cell {w : World} {b : Nat} {x : Value} {t : TypeId} (h : w.heap[b]? = some (.cells #[x] t (0, 0))) : w.cell? ⟨b, 0, none⟩ = some x := by
 simp [World.cell?, h]
theorem byte_new (w : World) (b : Value) (t : TypeId) : (w.alloc (.cells #[b] t)).cell? ⟨w.heap.size, 0, none⟩ = some b := byte_cell (blk_alloc_new _ _)
theorem below_more {w w' : World} {o : Obj} {B : Nat} {row : Option Nat} (gr : (w.alloc o).grownBy w' row) (hB : B ≤ w.heap.size) (hr : ∀ q, row = some q → B ≤ q) : Below B w w' :=
 Below.grown ((Below.refl B w).alloc hB o) gr (by rw [nblk_alloc]; omega) hr
theorem empty_byte {w : World} {B g : Nat} (h : w.heap[g]? = some (.cells #[] 5 (0, 0))) (hB : B ≤ g) : BR w B (.slice (some ⟨g, 0, none⟩) 0 0) [] := ⟨g, 0, #[], (0, 0), rfl, hB, h, Or.inl rfl, Nat.le_refl _, Nat.zero_le _, rfl, rfl⟩
theorem below_drewN {B : Nat} {a w : World} (h : Below B a w) (n : Nat) : Below B a (w.drewN n) := ⟨h.os, h.tape, h.output, h.size, h.block⟩
end Go.Proofs.YthjmakjhidjbaaaGreat

/-
 Layers 7 and 8: of what was there but a few blocks nothing has turned; tokens that a slice leads to. No condition.
-/
namespace Go.Proofs.YthjmakjhidjbaaaGreat
open Go.ChangeShapes Go.WideShapes Go.ChangeAt Go.RowKit Go.Deep
set_option linter.unusedVariables false
set_option maxHeartbeats 1000000

/-- All blocks that were there but those of S are as they were. -/
structure Only (S : Nat → Prop) (w w' : World) : Prop where
 os : w'.os = w.os
 tape : w'.tape = w.tape
 output : w'.output = w.output
 size : w.heap.size ≤ w'.heap.size
 block : ∀ k, k < w.heap.size → ¬ S k → w'.heap[k]? = w.heap[k]?
namespace Only
variable {S T : Nat → Prop} {w w' w'' : World}
theorem refl (S : Nat → Prop) (w : World) : Only S w w := ⟨rfl, rfl, rfl, Nat.le_refl _, fun _ _ _ => rfl⟩
theorem trans (h : Only S w w') (k : Only S w' w'') : Only S w w'' :=
 ⟨k.os.trans h.os, k.tape.trans h.tape, k.output.trans h.output, Nat.le_trans h.size k.size, fun i hi hs => (k.block i (Nat.lt_of_lt_of_le hi h.size) hs).trans (h.block i hi hs)⟩
theorem mono (h : Only S w w') (hT : ∀ k, k < w.heap.size → S k → T k) : Only T w w' := ⟨h.os, h.tape, h.output, h.size, fun i hi hs => h.block i hi (fun c => hs (hT i hi c))⟩
theorem drewN (h : Only S w w') (n : Nat) : Only S w (w'.drewN n) := ⟨h.os, h.tape, h.output, h.size, h.block⟩
theorem alloc (h : Only S w w') (o : Obj) : Only S w (w'.alloc o) :=
 h.trans ⟨rfl, rfl, rfl, by rw [nblk_alloc]; omega, fun k hk _ => blk_alloc_lt _ _ _ hk⟩
theorem setCell (h : Only S w w') {a : Addr} (ha : w.heap.size ≤ a.block ∨ S a.block) (v : Value) : Only S w (w'.setCell a v) :=
 ⟨h.os, h.tape, h.output, by rw [nblk_setCell]; exact h.size, fun k hk hs => by rw [blk_setCell_other _ _ _ _ (by rintro rfl; rcases ha with ha | ha; omega; exact hs ha)]; exact h.block k hk hs⟩
theorem below (h : Only S w w') {B : Nat} (hB : B ≤ w.heap.size) (hS : ∀ k, k < B → ¬ S k) : Below B w w' := ⟨h.os, h.tape, h.output, h.size, fun k hk => h.block k (by omega) (hS k hk)⟩
theorem of_below (h : Below w.heap.size w w') : Only S w w' := ⟨h.os, h.tape, h.output, h.size, fun k hk _ => h.block k hk⟩
end Only
abbrev OnlyB (b : Nat) (w w' : World) : Prop := Only (fun k => k = b) w w'
/-- A token with its place. -/
structure TV where
 kind : Int
 pl : Int
 N : Int
 S : List UInt8
def TV.cells (t : TV) : List Value := [.int .i64 t.kind, .int .i64 t.pl, .int .i64 t.N, .string ⟨t.S.toArray⟩]
/-- Tokens that a slice leads to. -/
structure TS (w : World) (ao : Option Addr) (L : List TV) : Prop where
 at_ : ∀ i t, L[i]? = some t → ∃ g, ao = some ⟨g, 0, none⟩ ∧ w.cell? ⟨g, i * 4, none⟩ = some (.int .i64 t.kind) ∧ w.cell? ⟨g, i * 4 + 1, none⟩ = some (.int .i64 t.pl) ∧ w.cell? ⟨g, i * 4 + 2, none⟩ = some (.int .i64 t.N) ∧ w.cell? ⟨g, i * 4 + 3, none⟩ = some (.string ⟨t.S.toArray⟩)
theorem TS.keep {w w' : World} {ao : Option Addr} {L : List TV} (h : TS w ao L) (k : ∀ g, ao = some ⟨g, 0, none⟩ → w'.heap[g]? = w.heap[g]?) : TS w' ao L := ⟨fun i t hi => by
 obtain ⟨g, e, h0, h1, h2, h3⟩ := h.at_ i t hi
 have hk := k g e
 have hc : ∀ o, w'.cell? ⟨g, o, none⟩ = w.cell? ⟨g, o, none⟩ := fun o => World.cell?_of_block (a := ⟨g, o, none⟩) hk
 exact ⟨g, e, by rw [hc]; exact h0, by rw [hc]; exact h1, by rw [hc]; exact h2, by rw [hc]; exact h3⟩⟩
theorem TS.drewN {w : World} {ao : Option Addr} {L : List TV} (h : TS w ao L) (n : Nat) : TS (w.drewN n) ao L := h.keep (fun _ _ => rfl)
theorem TS.take {w : World} {ao : Option Addr} {L : List TV} (h : TS w ao L) (n : Nat) : TS w ao (L.take n) := ⟨fun i t hi => h.at_ i t (by
 rw [List.getElem?_take] at hi
 split at hi
 ·exact hi
 ·cases hi)⟩
theorem cell_lt {w : World} {g o : Nat} {v : Value} (h : w.cell? ⟨g, o, none⟩ = some v) : g < w.heap.size := by
 rcases Nat.lt_or_ge g w.heap.size with c | c
 ·exact c
 ·simp [World.cell?, Array.getElem?_eq_none c] at h
theorem TS.below {w w' : World} {ao : Option Addr} {L : List TV} (h : TS w ao L) (b : Below w.heap.size w w') : TS w' ao L := ⟨fun i t hi => by
 obtain ⟨g, e, h0, h1, h2, h3⟩ := h.at_ i t hi
 have hc : ∀ o, w'.cell? ⟨g, o, none⟩ = w.cell? ⟨g, o, none⟩ := fun o => World.cell?_of_block (a := ⟨g, o, none⟩) (b.block g (cell_lt h0))
 exact ⟨g, e, by rw [hc]; exact h0, by rw [hc]; exact h1, by rw [hc]; exact h2, by rw [hc]; exact h3⟩⟩
end Go.Proofs.YthjmakjhidjbaaaGreat

/-
 Layer 8, the document's reader in memory: tokens, which one is next, whether one was met that can't stand there; what each small step of it does. Condition: the reader lies in memory.
-/
namespace Go.Proofs.YthjmakjhidjbaaaGreat
open Go.ChangeShapes Go.WideShapes Go.ChangeAt Go.RowKit Go.Deep
set_option linter.unusedVariables false
set_option linter.unusedSimpArgs false
set_option maxHeartbeats 1000000

/-- The reader's own block. -/
def R8 (w : World) (b : Nat) (la : Option Addr) (n lc i : Nat) (bad : Bool) : Prop := w.heap[b]? = some (.cells #[.slice la n lc, .int .i64 (i : Int), .bool bad] 49 (0, 0))
/-- The reader and its tokens lie in memory. -/
structure S8 (w : World) (b : Nat) (la : Option Addr) (lc : Nat) (M : List TV) (i : Nat) (bad : Bool) : Prop where
 rd : R8 w b la M.length lc i bad
 toks : TS w la M
 other : ∀ g, la = some ⟨g, 0, none⟩ → g ≠ b
 small : M.length ≤ 1000000
section
variable {w w' : World} {b : Nat} {la : Option Addr} {lc : Nat} {M : List TV} {i j : Nat} {bad bad' : Bool}
theorem Only.drew {S : Nat → Prop} {w w' : World} (h : Only S w w') : Only S w w'.drew := ⟨h.os, h.tape, h.output, h.size, h.block⟩
theorem TS.keep2 (h : TS w la M) (k : ∀ g, la = some ⟨g, 0, none⟩ → g < w.heap.size → w'.heap[g]? = w.heap[g]?) : TS w' la M := ⟨fun i t hi => by
 obtain ⟨g, e, h0, h1, h2, h3⟩ := h.at_ i t hi
 have hc : ∀ o, w'.cell? ⟨g, o, none⟩ = w.cell? ⟨g, o, none⟩ := fun o => World.cell?_of_block (a := ⟨g, o, none⟩) (k g e (cell_lt h0))
 exact ⟨g, e, by rw [hc]; exact h0, by rw [hc]; exact h1, by rw [hc]; exact h2, by rw [hc]; exact h3⟩⟩
end
/-- The token at a place. -/
def tv (M : List TV) (i : Nat) : TV := M.getD i ⟨0, 0, 0, []⟩
theorem tv_at {M : List TV} {i : Nat} (h : i < M.length) : M[i]? = some (tv M i) := by
 unfold tv
 rw [List.getD_eq_getElem?_getD, List.getElem?_eq_getElem h]
 rfl
section
variable {w : World} {b : Nat} {la : Option Addr} {lc : Nat} {M : List TV} {i : Nat} {bad : Bool}
end
/-- The token at a place, its own place aside. -/
def tkv (M : List TV) (i : Nat) : Tk := ⟨(tv M i).kind, (tv M i).S, (tv M i).N⟩
section
variable {w : World} {b : Nat} {la : Option Addr} {lc : Nat} {M : List TV} {i : Nat} {bad : Bool}
/-- A token's own block. -/
def B4 (w : World) (p : Nat) (a b c : Int) (x : ByteArray) : Prop := w.heap[p]? = some (.cells #[.int .i64 a, .int .i64 b, .int .i64 c, .string x] 40 (0, 0))
theorem B4.cells {w : World} {p : Nat} {a b c : Int} {x : ByteArray} (h : B4 w p a b c x) : w.cell? ⟨p, 0, none⟩ = some (.int .i64 a) ∧ w.cell? ⟨p, 1, none⟩ = some (.int .i64 b) ∧ w.cell? ⟨p, 2, none⟩ = some (.int .i64 c) ∧ w.cell? ⟨p, 3, none⟩ = some (.string x) ∧ ∀ o, w.frozen? ⟨p, o, none⟩ = false := by
 unfold B4 at h
 simp [World.cell?, World.frozen?, h]
theorem B4.new (w : World) (a b c : Int) (x : ByteArray) : B4 (w.alloc (.cells #[.int .i64 a, .int .i64 b, .int .i64 c, .string x] 40)) w.heap.size a b c x := blk_alloc_new _ _
theorem B4.alloc {w : World} {p : Nat} {a b c : Int} {x : ByteArray} (h : B4 w p a b c x) (o : Obj) : B4 (w.alloc o) p a b c x := (blk_alloc_lt _ _ _ (lt_of_some h)).trans h
theorem B4.other {w : World} {p : Nat} {a b c : Int} {x : ByteArray} (h : B4 w p a b c x) {q : Addr} (hq : q.block ≠ p) (v : Value) : B4 (w.setCell q v) p a b c x := (blk_setCell_other _ _ _ _ (Ne.symm hq)).trans h
theorem B4.only {w w' : World} {p k : Nat} {a b c : Int} {x : ByteArray} (h : B4 w p a b c x) (o : OnlyB k w w') (hk : p ≠ k) : B4 w' p a b c x := (o.block p (lt_of_some h) hk).trans h
theorem B4.fill {w : World} {p : Nat} {a b c : Int} {x : ByteArray} (h : B4 w p a b c x) (a' b' c' : Int) (x' : ByteArray) : B4 ((((w.setCell ⟨p, 0, none⟩ (.int .i64 a')).setCell ⟨p, 1, none⟩ (.int .i64 b')).setCell ⟨p, 2, none⟩ (.int .i64 c')).setCell ⟨p, 3, none⟩ (.string x')) p a' b' c' x' := by
 unfold B4 at h ⊢
 simp [World.setCell, Array.getElem?_modify, h]
def fill4 (w : World) (p : Nat) (a b c : Int) (x : ByteArray) : World := (((w.setCell ⟨p, 0, none⟩ (.int .i64 a)).setCell ⟨p, 1, none⟩ (.int .i64 b)).setCell ⟨p, 2, none⟩ (.int .i64 c)).setCell ⟨p, 3, none⟩ (.string x)
theorem Only.fill4 {S : Nat → Prop} {w w' : World} {p : Nat} (h : Only S w w') (hp : w.heap.size ≤ p) (a c d : Int) (x : ByteArray) : Only S w (fill4 w' p a c d x) := (((h.setCell (a := ⟨p, 0, none⟩) (Or.inl hp) _).setCell (a := ⟨p, 1, none⟩) (Or.inl hp) _).setCell (a := ⟨p, 2, none⟩) (Or.inl hp) _).setCell (a := ⟨p, 3, none⟩) (Or.inl hp) _
end
end Go.Proofs.YthjmakjhidjbaaaGreat

/-
 Layer 8, the document's reader: which of some signs is next; trees in memory; a node. Condition: the reader lies in memory.
-/
namespace Go.Proofs.YthjmakjhidjbaaaGreat
open Go.ChangeShapes Go.WideShapes Go.ChangeAt Go.RowKit Go.Deep
set_option linter.unusedVariables false
set_option linter.unusedSimpArgs false
set_option maxHeartbeats 1000000

/-- Which of these it is. -/
def oneOf (ss : List (List UInt8)) (t : Tk) : List UInt8 := match ss.find? (fun s => isS s t) with | some s => s | none => []
section
variable {w : World} {b : Nat} {la : Option Addr} {lc : Nat} {M : List TV} {i : Nat} {bad : Bool}
end
/-- Trees that a slice leads to: f: a token's place; P: the blocks that they lie in. -/
inductive RL (f : Nat → Int) (P : Nat → Prop) (w : World) : List Tr → Option Addr → Prop
 | mk {L : List Tr} {ao : Option Addr} (aos : Nat → Option Addr) (cps : Nat → Nat) (h : ∀ k t, L[k]? = some t → ∃ g, ao = some ⟨g, 0, none⟩ ∧ P g ∧ w.cell? ⟨g, k * 5, none⟩ = some (.int .i64 t.kind) ∧ w.cell? ⟨g, k * 5 + 1, none⟩ = some (.int .i64 (f t.pl)) ∧ w.cell? ⟨g, k * 5 + 2, none⟩ = some (.int .i64 t.N) ∧ w.cell? ⟨g, k * 5 + 3, none⟩ = some (.string ⟨t.S.toArray⟩) ∧ w.cell? ⟨g, k * 5 + 4, none⟩ = some (.slice (aos k) t.L.length (cps k))) (hr : ∀ k t, L[k]? = some t → RL f P w t.L (aos k)) : RL f P w L ao
section
variable {f : Nat → Int} {P Q : Nat → Prop} {w w' : World} {L : List Tr} {ao : Option Addr}
theorem RL.nil : RL f P w [] ao := .mk (fun _ => none) (fun _ => 0) (fun k t h => by simp at h) (fun k t h => by simp at h)
theorem RL.keep (h : RL f P w L ao) (k : ∀ g, P g → g < w.heap.size → w'.heap[g]? = w.heap[g]?) : RL f P w' L ao := by
 induction h with
 | mk aos cps h hr ih =>
  refine .mk aos cps (fun j t hj => ?_) ih
  obtain ⟨g, e, hp, h0, h1, h2, h3, h4⟩ := h j t hj
  have hc : ∀ o, w'.cell? ⟨g, o, none⟩ = w.cell? ⟨g, o, none⟩ := fun o => World.cell?_of_block (a := ⟨g, o, none⟩) (k g hp (cell_lt h0))
  exact ⟨g, e, hp, by rw [hc]; exact h0, by rw [hc]; exact h1, by rw [hc]; exact h2, by rw [hc]; exact h3, by rw [hc]; exact h4⟩
theorem RL.mono (h : RL f P w L ao) (k : ∀ g, P g → g < w.heap.size → Q g) : RL f Q w L ao := by
 induction h with
 | mk aos cps h hr ih =>
  refine .mk aos cps (fun j t hj => ?_) ih
  obtain ⟨g, e, hp, h0, r⟩ := h j t hj
  exact ⟨g, e, k g hp (cell_lt h0), h0, r⟩
end
/-- A node's own block. -/
def B5 (w : World) (p : Nat) (a b c : Int) (x : ByteArray) (v : Value) : Prop := w.heap[p]? = some (.cells #[.int .i64 a, .int .i64 b, .int .i64 c, .string x, v] 25 (0, 0))
def fill5 (w : World) (p : Nat) (a b c : Int) (x : ByteArray) (v : Value) : World := ((((w.setCell ⟨p, 0, none⟩ (.int .i64 a)).setCell ⟨p, 1, none⟩ (.int .i64 b)).setCell ⟨p, 2, none⟩ (.int .i64 c)).setCell ⟨p, 3, none⟩ (.string x)).setCell ⟨p, 4, none⟩ v
section
variable {w w' : World} {p k : Nat} {a b c : Int} {x : ByteArray} {v : Value}
theorem B5.cells (h : B5 w p a b c x v) : w.cell? ⟨p, 0, none⟩ = some (.int .i64 a) ∧ w.cell? ⟨p, 1, none⟩ = some (.int .i64 b) ∧ w.cell? ⟨p, 2, none⟩ = some (.int .i64 c) ∧ w.cell? ⟨p, 3, none⟩ = some (.string x) ∧ w.cell? ⟨p, 4, none⟩ = some v ∧ ∀ o, w.frozen? ⟨p, o, none⟩ = false := by
 unfold B5 at h
 simp [World.cell?, World.frozen?, h]
theorem B5.lt (h : B5 w p a b c x v) : p < w.heap.size := lt_of_some h
theorem B5.new (w : World) (a b c : Int) (x : ByteArray) (v : Value) : B5 (w.alloc (.cells #[.int .i64 a, .int .i64 b, .int .i64 c, .string x, v] 25)) w.heap.size a b c x v := blk_alloc_new _ _
theorem B5.alloc (h : B5 w p a b c x v) (o : Obj) : B5 (w.alloc o) p a b c x v := (blk_alloc_lt _ _ _ (lt_of_some h)).trans h
theorem B5.other (h : B5 w p a b c x v) {q : Addr} (hq : q.block ≠ p) (u : Value) : B5 (w.setCell q u) p a b c x v := (blk_setCell_other _ _ _ _ (Ne.symm hq)).trans h
theorem B5.only (h : B5 w p a b c x v) (o : OnlyB k w w') (hk : p ≠ k) : B5 w' p a b c x v := (o.block p (lt_of_some h) hk).trans h
theorem B5.fill (h : B5 w p a b c x v) (a' b' c' : Int) (x' : ByteArray) (v' : Value) : B5 (fill5 w p a' b' c' x' v') p a' b' c' x' v' := by
 unfold B5 fill5 at *
 simp [World.setCell, Array.getElem?_modify, h]
theorem Only.fill5 {S : Nat → Prop} (h : Only S w w') (hp : w.heap.size ≤ p) (a c d : Int) (x : ByteArray) (v : Value) : Only S w (fill5 w' p a c d x v) := ((((h.setCell (a := ⟨p, 0, none⟩) (Or.inl hp) _).setCell (a := ⟨p, 1, none⟩) (Or.inl hp) _).setCell (a := ⟨p, 2, none⟩) (Or.inl hp) _).setCell (a := ⟨p, 3, none⟩) (Or.inl hp) _).setCell (a := ⟨p, 4, none⟩) (Or.inl hp) _
theorem fill5_blk (w : World) {p g : Nat} (h : g ≠ p) (a c d : Int) (x : ByteArray) (v : Value) : (fill5 w p a c d x v).heap[g]? = w.heap[g]? := by
 unfold fill5
 rw [blk_setCell_other _ _ _ _ h, blk_setCell_other _ _ _ _ h, blk_setCell_other _ _ _ _ h, blk_setCell_other _ _ _ _ h, blk_setCell_other _ _ _ _ h]
end
/-- Nothing but draws. -/
def Quiet (w w' : World) : Prop := ∃ n, w' = w.drewN n
section
variable {w w' w0 : World} {f : Nat → Int} {P : Nat → Prop} {L : List Tr} {ao : Option Addr}
theorem RL.beneath {B : Nat} (h : RL f P w L ao) (k : Below B w w') (hB : w.heap.size ≤ B) : RL f P w' L ao := h.keep (fun g _ hl => k.block g (by omega))
theorem RL.alloc (h : RL f P w L ao) (o : Obj) : RL f P (w.alloc o) L ao := h.keep (fun g _ hl => blk_alloc_lt _ _ _ hl)
theorem B5.below {p B : Nat} {a b c : Int} {x : ByteArray} {v : Value} (h : B5 w p a b c x v) (k : Below B w w') (hB : w.heap.size ≤ B) : B5 w' p a b c x v := (k.block p (by have := lt_of_some h; omega)).trans h
theorem RL.fill5 {p : Nat} (h : RL f P w L ao) (hp : ∀ g, P g → g ≠ p) (a c d : Int) (x : ByteArray) (v : Value) : RL f P (fill5 w p a c d x v) L ao := h.keep (fun g hg _ => fill5_blk w (hp g hg) a c d x v)
end
theorem B5.newAt {w : World} {q : Nat} (a b c : Int) (x : ByteArray) (v : Value) (h : w.heap.size = q) : B5 (w.alloc (.cells #[.int .i64 a, .int .i64 b, .int .i64 c, .string x, v] 25)) q a b c x v := h ▸ blk_alloc_new _ _
theorem RL.onlyI {f : Nat → Int} {w w' : World} {L : List Tr} {ao : Option Addr} {b B E : Nat} (h : RL f (fun g => B ≤ g ∧ g < E) w L ao) (o : OnlyB b w w') (hb : b < B) : RL f (fun g => B ≤ g ∧ g < E) w' L ao := h.keep (fun g hg hl => o.block g hl (by intro (c : g = b); omega))
theorem drew_below (w : World) : Below w.heap.size w w.drew := ⟨rfl, rfl, rfl, Nat.le_refl _, fun _ _ => rfl⟩
theorem cell_on {w w' : World} {g o : Nat} {v : Value} (hb : Below w.drew.heap.size w.drew w') (h : w.cell? ⟨g, o, none⟩ = some v) : w'.cell? ⟨g, o, none⟩ = some v := by
 have e : w'.heap[g]? = w.heap[g]? := hb.block g (cell_lt h)
 rw [← h]
 exact World.cell?_of_block (a := ⟨g, o, none⟩) e
/-- A row of one node, of two, of three, in a block. -/
theorem RL.one {f : Nat → Int} {P : Nat → Prop} {w : World} {g : Nat} {x : Tr} {ao : Option Addr} {c : Nat} (hb : w.heap[g]? = some (.cells #[.int .i64 x.kind, .int .i64 (f x.pl), .int .i64 x.N, .string ⟨x.S.toArray⟩, .slice ao x.L.length c] 25 (0, 0))) (hg : P g) (hx : RL f P w x.L ao) : RL f P w [x] (some ⟨g, 0, none⟩) := by
 refine .mk (fun _ => ao) (fun _ => c) (fun k t h => ?_) (fun k t h => ?_)
 ·match k, h with
  | 0, h => simp at h; subst h; refine ⟨g, rfl, hg, ?_, ?_, ?_, ?_, ?_⟩ <;> simp [World.cell?, hb]
 ·match k, h with
  | 0, h => simp at h; subst h; exact hx
theorem RL.two {f : Nat → Int} {P : Nat → Prop} {w : World} {g : Nat} {x y : Tr} {ao ao' : Option Addr} {c c' : Nat} (hb : w.heap[g]? = some (.cells #[.int .i64 x.kind, .int .i64 (f x.pl), .int .i64 x.N, .string ⟨x.S.toArray⟩, .slice ao x.L.length c, .int .i64 y.kind, .int .i64 (f y.pl), .int .i64 y.N, .string ⟨y.S.toArray⟩, .slice ao' y.L.length c'] 25 (0, 0))) (hg : P g) (hx : RL f P w x.L ao) (hy : RL f P w y.L ao') : RL f P w [x, y] (some ⟨g, 0, none⟩) := by
 refine .mk (fun k => if k = 0 then ao else ao') (fun k => if k = 0 then c else c') (fun k t h => ?_) (fun k t h => ?_)
 ·match k, h with
  | 0, h => simp at h; subst h; refine ⟨g, rfl, hg, ?_, ?_, ?_, ?_, ?_⟩ <;> simp [World.cell?, hb]
  | 1, h => simp at h; subst h; refine ⟨g, rfl, hg, ?_, ?_, ?_, ?_, ?_⟩ <;> simp [World.cell?, hb]
 ·match k, h with
  | 0, h => simp at h; subst h; exact hx
  | 1, h => simp at h; subst h; exact hy
end Go.Proofs.YthjmakjhidjbaaaGreat

/-
 Layer 8: rows of nodes that a call owns: grown by a node, then part of a tree. No condition but that they lie in memory.
-/
namespace Go.Proofs.YthjmakjhidjbaaaGreat
open Go.ChangeShapes Go.WideShapes Go.ChangeAt Go.RowKit Go.Deep
set_option linter.unusedVariables false
set_option linter.unusedSimpArgs false
set_option maxHeartbeats 1000000

/-- A node in a row: the tree, where its parts lie, their room. -/
structure ND where
 t : Tr
 ao : Option Addr
 cp : Nat
def ND.cells (f : Nat → Int) (d : ND) : List Value := [.int .i64 d.t.kind, .int .i64 (f d.t.pl), .int .i64 d.t.N, .string ⟨d.t.S.toArray⟩, .slice d.ao d.t.L.length d.cp]
def flat5 (f : Nat → Int) (L : List ND) : List Value := L.flatMap (ND.cells f)
theorem flat5_len (f : Nat → Int) : ∀ L : List ND, (flat5 f L).length = L.length * 5
 | [] => rfl
 | t :: L => by
  show (t.cells f ++ flat5 f L).length = _
  rw [List.length_append, flat5_len f L, List.length_cons]
  show 5 + _ = _
  omega
theorem flat5_app (f : Nat → Int) (A B : List ND) : flat5 f (A ++ B) = flat5 f A ++ flat5 f B := List.flatMap_append
theorem flat5_at (f : Nat → Int) : ∀ (L : List ND) (i j : Nat) (t : ND), L[i]? = some t → j < 5 → (flat5 f L)[i * 5 + j]? = (t.cells f)[j]?
 | [], i, j, t, h, hj => by cases h
 | u :: L, 0, j, t, h, hj => by
  simp at h
  subst h
  show (u.cells f ++ flat5 f L)[0 * 5 + j]? = _
  rw [Nat.zero_mul, Nat.zero_add, List.getElem?_append_left (by show j < 5; exact hj)]
 | u :: L, i + 1, j, t, h, hj => by
  have ih := flat5_at f L i j t (by simpa using h) hj
  show (u.cells f ++ flat5 f L)[(i + 1) * 5 + j]? = _
  rw [List.getElem?_append_right (by show 5 ≤ _; omega)]
  rw [← ih]
  congr 1
  show (i + 1) * 5 + j - 5 = _
  omega
/-- Nodes in a row of the call's own; what they lead to lies at B or above, and not in the row itself. -/
def NW (f : Nat → Int) (w : World) (B : Nat) (v : Value) (L : List ND) : Prop := w.ownsRow B 25 5 v L.length (flat5 f L) ∧ ∀ d ∈ L, RL f (fun g => B ≤ g ∧ v.ownBlock ≠ some g) w d.t.L d.ao
section
variable {f : Nat → Int} {w w' : World} {B b : Nat} {v : Value} {L : List ND}
end
theorem infoN : (Tryz.prog.info? 25).map (fun i => (i.zero, i.size, i.bytes)) = some (some (.agg #[.int .i64 0, .int .i64 0, .int .i64 0, .string ⟨#[]⟩, .slice none 0 0]), 5, 64) := by kernel_rfl
end Go.Proofs.YthjmakjhidjbaaaGreat

/-
 Layer 8: tokens in memory and the grammar's own; a token's place. No condition.
-/
namespace Go.Proofs.YthjmakjhidjbaaaGreat
open Go.ChangeShapes Go.WideShapes Go.ChangeAt Go.RowKit Go.Deep
set_option linter.unusedVariables false
set_option maxHeartbeats 1000000

/-- The tokens in memory are these. -/
structure TM (M : List TV) (ts : List Tk) : Prop where
 len : M.length = ts.length + 1
 tok : ∀ i, i ≤ ts.length → tkv M i = tk ts i
/-- A token's place. -/
def plM (M : List TV) (i : Nat) : Int := (tv M i).pl
end Go.Proofs.YthjmakjhidjbaaaGreat
