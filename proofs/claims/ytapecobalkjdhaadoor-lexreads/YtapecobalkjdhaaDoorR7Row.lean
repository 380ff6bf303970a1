/-
  Layer 7: rows of bytes that a call owns: made of a text, grown by a byte, made a text again. No condition but that they lie in memory.
-/
import Derived.Test.YtapecobalkjdhaaDoorR7Words
import Derived.WalkKit
import Derived.Deep.AppendLies
import Derived.Laws.IdiomStrings
namespace Go.Proofs.YtapecobalkjdhaaDoor
open Go.ChangeShapes Go.WideShapes Go.ChangeAt Go.RowKit Go.Deep
set_option linter.unusedVariables false
set_option maxHeartbeats 1000000

theorem lt_of_some {w : World} {g : Nat} {o : Obj} (h : w.heap[g]? = some o) : g < w.heap.size := (Array.getElem?_eq_some_iff.1 h).1
/-- A byte. -/
def u8v (b : UInt8) : Value := .int .u8 b.toNat
/-- A row of bytes that lies at B or above; nothing in it is frozen. -/
def BR (w : World) (B : Nat) (v : Value) (l : List UInt8) : Prop := ∃ g cap cur fz, v = .slice (some ⟨g, 0, none⟩) l.length cap ∧ B ≤ g ∧ w.heap[g]? = some (.cells cur 5 fz) ∧ (fz = (0, 0) ∨ cur.size ≤ fz.1) ∧ l.length ≤ cap ∧ cap ≤ maxLen ∧ cur.size = cap ∧ cur.toList.take l.length = l.map u8v
section
variable {w w' : World} {B : Nat} {v : Value} {l : List UInt8}
theorem BR.keep (h : BR w B v l) (hk : ∀ g, v.ownBlock = some g → w'.heap[g]? = w.heap[g]?) : BR w' B v l := by
  obtain ⟨g, cap, cur, fz, e, hb, hg, rest⟩ := h
  exact ⟨g, cap, cur, fz, e, hb, (hk g (by rw [e]; rfl)).trans hg, rest⟩
theorem BR.lt (h : BR w B v l) : ∀ g, v.ownBlock = some g → B ≤ g ∧ g < w.heap.size := by
  obtain ⟨g, cap, cur, fz, e, hb, hg, rest⟩ := h
  intro g' hg'
  rw [e] at hg'
  have : g = g' := by simpa [Value.ownBlock] using hg'
  subst this
  exact ⟨hb, lt_of_some hg⟩
theorem BR.below (h : BR w B v l) (k : Below w.heap.size w w') : BR w' B v l := h.keep (fun g hg => k.block g (h.lt g hg).2)
theorem BR.slice (h : BR w B v l) : ∃ g cap, v = .slice (some ⟨g, 0, none⟩) l.length cap ∧ (∀ i (hi : i < l.length), w.cell? ⟨g, i, none⟩ = some (u8v l[i])) ∧ (∀ i, i < l.length → w.frozen? ⟨g, i, none⟩ = false) ∧ l.length ≤ cap ∧ B ≤ g ∧ g < w.heap.size := by
  obtain ⟨g, cap, cur, fz, e, hb, hg, hf, hc, hm, hs, ht⟩ := h
  refine ⟨g, cap, e, fun i hi => ?_, fun i hi => ?_, hc, hb, lt_of_some hg⟩
  · have h1 : (cur.toList.take l.length)[i]? = some (u8v l[i]) := by rw [ht]; simp [hi]
    rw [List.getElem?_take, if_pos hi] at h1
    have h2 : cur[i]? = some (u8v l[i]) := by simpa using h1
    simp [World.cell?, hg, h2]
  · simp only [World.frozen?, hg]
    rcases hf with rfl | hf
    · simp
    · obtain ⟨lo, hi'⟩ := fz
      simp only at hf
      simp only [Bool.and_eq_false_iff, decide_eq_false_iff_not]
      left
      omega
end
theorem infoU8 : (Tryd.prog.info? 5).map (fun i => (i.zero, i.size, i.bytes)) = some (some (.int .u8 0), 1, 1) := by kernel_rfl
/-- '[]byte(s)'. -/
theorem run_bytes (s : ByteArray) (hs : s.size ≤ maxLen) (w : World) : ∃ cap C fz, Sem.run Tryd.prog (convert 9 59 (.string s)) w = .ok (.slice (some ⟨w.heap.size, 0, none⟩) s.size cap) (w.drew.alloc (.cells C 5 fz)) ∧ ∀ B, B ≤ w.heap.size → BR (w.drew.alloc (.cells C 5 fz)) B (.slice (some ⟨w.heap.size, 0, none⟩) s.size cap) s.data.toList := by
  have hl : s.data.toList.length = s.size := by rw [Array.length_toList]; rfl
  have hge := grownCap_ge w s.size 0 5
  have hle := grownCap_le_maxLen w s.size 0 5 hs
  have hsz : (bytesRow s (grownCap w s.size 0 5)).size = grownCap w s.size 0 5 := by
    unfold bytesRow
    have : s.data.size = s.size := rfl
    simp [this]
    omega
  refine ⟨_, _, _, run_bytes_of_string w 9 59 5 s Tryd.underlying9 Tryd.underlying59 Tryd.underlying5, fun B hB => ⟨w.heap.size, _, _, _, by rw [hl], hB, blk_alloc_new _ _, Or.inr (Nat.le_refl _), by rw [hl]; exact hge, hle, hsz, ?_⟩⟩
  unfold bytesRow
  rw [Array.toList_append, List.take_append_of_le_length (by simp), List.take_of_length_le (by simp)]
  simp [u8v]
/-- 'string(b)'. -/
theorem run_string {w : World} {g c : Nat} (l : List UInt8) (h : ∀ i (hi : i < l.length), w.cell? ⟨g, i, none⟩ = some (u8v l[i])) : Sem.run Tryd.prog (convert 59 9 (.slice (some ⟨g, 0, none⟩) l.length c)) w = .ok (.string ⟨l.toArray⟩) w := by
  refine run_convert_bytes_back w 59 9 5 ⟨g, 0, none⟩ c l Tryd.underlying59 Tryd.underlying5 Tryd.underlying9 (fun j hj => ?_)
  have e : (Addr.mk g 0 none).add j = ⟨g, j, none⟩ := by
    unfold Addr.add
    split
    · rename_i h; rw [h]
    · simp
  rw [e, h j hj]; rfl
/-- One byte more. -/
theorem run_append_byte {w : World} {B : Nat} {v : Value} {l : List UInt8} (ty : TypeId) (h : BR w B v l) (hB : B ≤ w.heap.size) (gx c : Nat) (b : UInt8) (hx : w.cell? ⟨gx, 0, none⟩ = some (u8v b)) (hl : l.length < 1000000) :
    ∃ g cap w', Sem.run Tryd.prog (Builtin.append_ #[59, 59] ty #[v, .slice (some ⟨gx, 0, none⟩) 1 c]) w = .ok (.slice (some ⟨g, 0, none⟩) (l.length + 1) cap) w' ∧ BR w' B (.slice (some ⟨g, 0, none⟩) (l.length + 1) cap) (l ++ [b]) ∧ w.grownBy w' v.ownBlock := by
  obtain ⟨i0, hi, hz0, hz1, hz2⟩ := info_parts infoU8
  have h0 := h
  obtain ⟨g, cap, cur, fz, rfl, hb, hg, hf, hc, hm, hs, ht⟩ := h
  have hnews : ∀ j u, [u8v b][j]? = some u → w.cell? ((Addr.mk gx 0 none).add j) = some u := by
    intro j u hu
    match j, hu with
    | 0, hu => simp at hu; subst hu; exact hx
  have hlen : (l ++ [b]).length = l.length + 1 := by simp
  by_cases hroom : l.length + 1 ≤ cap
  · have hfr : w.frozen? ⟨g, l.length, none⟩ = false := by
      simp only [World.frozen?, hg]
      rcases hf with rfl | hf
      · simp
      · obtain ⟨lo, hi'⟩ := fz
        simp only at hf
        simp only [Bool.and_eq_false_iff, decide_eq_false_iff_not]
        left
        omega
    have hcell : w.cell? ⟨g, l.length, none⟩ = some cur[l.length] := by simp [World.cell?, hg, show l.length < cur.size by omega]
    have hff := run_firstCells_some (P := Tryd.prog) w i0.size 1 ⟨gx, 0, none⟩ 1 c [u8v b] (by rw [hz1]; rfl) hnews
    refine ⟨g, cap, w.setCell ⟨g, l.length, none⟩ (u8v b), ?_, ⟨g, cap, cur.setIfInBounds l.length (u8v b), fz, by rw [hlen], hb, by simp [World.setCell, Array.getElem?_modify, hg], by simpa using hf, by rw [hlen]; exact hroom, hm, by simpa using hs, ?_⟩, ?_⟩
    · have hadd : (Addr.mk g l.length none).add 0 = ⟨g, l.length, none⟩ := rfl
      have hst1 : (store ((Addr.mk g l.length none).add 0) (u8v b)).run Tryd.prog w = .ok () (w.setCell ⟨g, l.length, none⟩ (u8v b)) := by
        rw [hadd, run_store Tryd.prog w _ (u8v b) _ rfl, hcell]
        simp [hfr]
      have hst : (storeCells ⟨g, l.length, none⟩ [u8v b] 0).run Tryd.prog w = .ok () (w.setCell ⟨g, l.length, none⟩ (u8v b)) := by
        simp only [storeCells, Sem.run_bind, hst1, Result.andThen_ok]
        rfl
      rw [hz1] at hff
      simp [Builtin.append_, run_underlying Tryd.underlying59, sizeOf, typeInfo, hi, hz1, Builtin.lenOf, hroom, hff, Addr.add_lit, hst]
    · rw [hlen, Array.toList_setIfInBounds, List.take_add_one, List.take_set_of_le (Nat.le_refl _), ht, List.getElem?_set_self (show l.length < cur.toList.length by have e : cur.toList.length = cur.size := Array.length_toList; omega), List.map_append]
      rfl
    · exact ⟨rfl, rfl, rfl, by simp [World.setCell], fun k _ hk => blk_setCell_other _ _ _ _ (fun e => hk (by simp [Value.ownBlock, e]))⟩
  · have hcl : cap = l.length := by omega
    have holds : ∀ j u, (l.map u8v)[j]? = some u → w.cell? ((Addr.mk g 0 none).add j) = some u := by
      intro j u hu
      have hj : j < l.length := by have := (List.getElem?_eq_some_iff.1 hu).1; simpa using this
      have e : (Addr.mk g 0 none).add j = ⟨g, j, none⟩ := by
        unfold Addr.add
        split
        · rename_i h; rw [h]
        · simp
      obtain ⟨g', cap', e', hc', _⟩ := h0.slice
      simp only [Value.slice.injEq, Option.some.injEq, Addr.mk.injEq, and_true, true_and] at e'
      obtain ⟨rfl, rfl⟩ := e'
      rw [e, hc' j hj]
      simpa [hj] using hu
    have hge := grownCap_ge w (l.length + 1) cap 5
    have hle := grownCap_le_maxLen w (l.length + 1) cap 5 (by unfold maxLen; omega)
    have hrun := run_append_grow (P := Tryd.prog) w 59 ty 5 i0 (.int .u8 0) Tryd.underlying59 hi hz0 ⟨g, 0, none⟩ l.length cap (l.map u8v) (by rw [hz1]; simp) holds ⟨gx, 0, none⟩ 1 c [u8v b] (by rw [hz1]; rfl) hnews (by omega) (by omega) (by have := nextslicecap_le (need := l.length + 1) (old := cap) (by omega); rw [hz2]; omega)
    refine ⟨_, _, _, hrun, ⟨w.heap.size, _, _, (0, 0), by rw [hlen], hB, blk_alloc_new _ _, Or.inl rfl, by rw [hlen]; exact hge, hle, ?_, ?_⟩, ?_⟩
    · simp only [Array.size_append, List.size_toArray, List.length_map, List.length_cons, List.length_nil, size_zeroCells]
      show l.length + (0 + 1) + (grownCap w (l.length + 1) cap 5 - (l.length + 1)) * 1 = _
      omega
    · rw [hlen]
      simp only [Array.toList_append]
      rw [List.take_left' (by simp), List.map_append]
      rfl
    · exact ⟨rfl, rfl, rfl, by simp, fun k hk _ => blk_alloc_lt w.drew _ k hk⟩
theorem append_byte {w : World} {ops : Array Oper} {rest : List Oper} {o : Oper} {a : Act} {Q : Exit → Act → World → Prop} (hgd : o.guard = none) (s x : Operand)
    (ho : o.op = .call { callee := .builtin .append, args := #[s, x], argTypes := #[59, 59] }) (B : Nat) (v : Value) (l : List UInt8) (hs : a.eval s = v) (hown : BR w B v l)
    (gx c : Nat) (b : UInt8) (hx : a.eval x = .slice (some ⟨gx, 0, none⟩) 1 c) (hu : w.cell? ⟨gx, 0, none⟩ = some (u8v b)) (hn : l.length < 1000000) (hB : B ≤ w.heap.size)
    (h : ∀ g cap w', BR w' B (.slice (some ⟨g, 0, none⟩) (l.length + 1) cap) (l ++ [b]) → w.grownBy w' v.ownBlock → wpList Tryd.prog ops Q rest (a.put o.dst (.slice (some ⟨g, 0, none⟩) (l.length + 1) cap)) w') : wpList Tryd.prog ops Q (o :: rest) a w := by
  refine wpList_plain hgd fun K hK => ?_
  obtain ⟨g, cap, w', hr, h2, h3⟩ := run_append_byte o.type hown hB gx c b hu hn
  unfold Oper.wp execOp
  simp only [ho, resolve, invoke, builtin, Sem.run_bind, Sem.run_pure, Result.andThen_ok, List.map_toArray, List.map_cons, List.map_nil, hs, hx, hr]
  exact hK _ _ (h g cap w' h2 h3)
theorem byte_cell {w : World} {b : Nat} {x : Value} {t : TypeId} (h : w.heap[b]? = some (.cells #[x] t (0, 0))) : w.cell? ⟨b, 0, none⟩ = some x := by
  simp [World.cell?, h]
theorem byte_new (w : World) (b : Value) (t : TypeId) : (w.alloc (.cells #[b] t)).cell? ⟨w.heap.size, 0, none⟩ = some b := byte_cell (blk_alloc_new _ _)
theorem below_more {w w' : World} {o : Obj} {B : Nat} {row : Option Nat} (gr : (w.alloc o).grownBy w' row) (hB : B ≤ w.heap.size) (hr : ∀ q, row = some q → B ≤ q) : Below B w w' :=
  Below.grown ((Below.refl B w).alloc hB o) gr (by rw [nblk_alloc]; omega) hr
theorem empty_byte {w : World} {B g : Nat} (h : w.heap[g]? = some (.cells #[] 5 (0, 0))) (hB : B ≤ g) : BR w B (.slice (some ⟨g, 0, none⟩) 0 0) [] := ⟨g, 0, #[], (0, 0), rfl, hB, h, Or.inl rfl, Nat.le_refl _, Nat.zero_le _, rfl, rfl⟩
theorem below_drewN {B : Nat} {a w : World} (h : Below B a w) (n : Nat) : Below B a (w.drewN n) := ⟨h.os, h.tape, h.output, h.size, h.block⟩
end Go.Proofs.YtapecobalkjdhaaDoor
