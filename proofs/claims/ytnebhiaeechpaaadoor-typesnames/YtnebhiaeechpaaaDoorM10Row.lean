/-
 Layer 10: rows of types that a call owns: grown by a type, then part of one. No condition but that they lie in memory.
-/
import Derived.Test.YtnebhiaeechpaaaDoorM10May
import Derived.Deep.AppendLies
namespace Go.Proofs.YtnebhiaeechpaaaDoor
open Go.ChangeShapes Go.WideShapes Go.ChangeAt Go.RowKit Go.Deep
set_option linter.unusedVariables false
set_option linter.unusedSimpArgs false
set_option maxHeartbeats 1000000

/-- A node in a row: the tree, where its parts lie, their room. -/
structure TD where
 t : Rw
 ao : Option Addr
 cp : Nat
def TD.cells (d : TD) : List Value := [.int .i64 d.t.V, .string ⟨d.t.S.toArray⟩, .slice d.ao d.t.L.length d.cp]
def flat3 (L : List TD) : List Value := L.flatMap (TD.cells)
theorem flat3_len : ∀ L : List TD, (flat3 L).length = L.length * 3
 | [] => rfl
 | t :: L => by
  show (t.cells ++ flat3 L).length = _
  rw [List.length_append, flat3_len L, List.length_cons]
  show 3 + _ = _
  omega
theorem flat3_app (A B : List TD) : flat3 (A ++ B) = flat3 A ++ flat3 B := List.flatMap_append
theorem flat3_at : ∀ (L : List TD) (i j : Nat) (t : TD), L[i]? = some t → j < 3 → (flat3 L)[i * 3 + j]? = t.cells[j]?
 | [], i, j, t, h, hj => by cases h
 | u :: L, 0, j, t, h, hj => by
  simp at h
  subst h
  show (u.cells ++ flat3 L)[0 * 3 + j]? = _
  rw [Nat.zero_mul, Nat.zero_add, List.getElem?_append_left (by show j < 3; exact hj)]
 | u :: L, i + 1, j, t, h, hj => by
  have ih := flat3_at L i j t (by simpa using h) hj
  show (u.cells ++ flat3 L)[(i + 1) * 3 + j]? = _
  rw [List.getElem?_append_right (by show 3 ≤ _; omega)]
  rw [← ih]
  congr 1
  show (i + 1) * 3 + j - 3 = _
  omega
/-- Nodes in a row of the call's own; what they lead to lies at B or above, and not in the row itself. -/
def TW10 (w : World) (B : Nat) (v : Value) (L : List TD) : Prop := w.ownsRow B 24 3 v L.length (flat3 L) ∧ (∀ d ∈ L, RT (fun g => B ≤ g ∧ v.ownBlock ≠ some g) w d.t.L d.ao) ∧ ∀ d ∈ L, -9223372036854775808 ≤ d.t.V ∧ d.t.V ≤ 9223372036854775807 ∧ d.t.S.length ≤ maxLen
section
variable {w w' : World} {B b : Nat} {v : Value} {L : List TD}
theorem TW10.slice (h : TW10 w B v L) : ∃ ao c, v = .slice ao L.length c := by
 rcases h.1.2 with ⟨rfl, e⟩ | ⟨g, cap, cur, rfl, _⟩
 ·rw [e]; exact ⟨none, 0, rfl⟩
 ·exact ⟨_, cap, rfl⟩
theorem TW10.keep (h : TW10 w B v L) (k : ∀ g, B ≤ g → g < w.heap.size → w'.heap[g]? = w.heap[g]?) : TW10 w' B v L := by
 refine ⟨⟨h.1.1, ?_⟩, fun d hd => (h.2.1 d hd).keep (fun g hg hl => k g hg.1 hl), h.2.2⟩
 rcases h.1.2 with c | ⟨g, cap, cur, e, hb, hg, rest⟩
 ·exact Or.inl c
 ·exact Or.inr ⟨g, cap, cur, e, hb, (k g hb (Array.getElem?_eq_some_iff.1 hg).1).trans hg, rest⟩
theorem TW10.alloc (h : TW10 w B v L) (o : Obj) : TW10 (w.alloc o) B v L := h.keep (fun g _ hl => blk_alloc_lt _ _ _ hl)
theorem TW10.nil (w : World) (B : Nat) : TW10 w B (.slice none 0 0) [] := ⟨⟨rfl, Or.inl ⟨rfl, rfl⟩⟩, (fun d hd => by cases hd), (fun d hd => by cases hd)⟩
/-- A row of its own is a tree's. -/
theorem TW10.rt {ao : Option Addr} {n c : Nat} (h : TW10 w B (.slice ao n c) L) : RT (fun g => B ≤ g) w (L.map TD.t) ao ∧ n = L.length := by
 have hn : n = L.length := by
  rcases h.1.2 with ⟨e, e2⟩ | ⟨g, cap, cur, e, _⟩
  ·simp only [Value.slice.injEq] at e; omega
  ·simp only [Value.slice.injEq] at e; exact e.2.1
 refine ⟨?_, hn⟩
 refine .mk (fun k => (L[k]?.map TD.ao).getD none) (fun k => (L[k]?.map TD.cp).getD 0) (fun k t hk => ?_) (fun k t hk => ?_) (fun k t hk => ?_)
 ·rw [List.getElem?_map] at hk
  cases hd : L[k]? with
  | none => rw [hd] at hk; cases hk
  | some d =>
   rw [hd] at hk
   simp only [Option.map_some, Option.some.injEq] at hk
   subst hk
   have hkl : k < L.length := (List.getElem?_eq_some_iff.1 hd).1
   rcases h.1.2 with ⟨e, e2⟩ | ⟨g, cap, cur, e, hb, hg, hc, hm, hs, ht⟩
   ·omega
   ·simp only [Value.slice.injEq] at e
    obtain ⟨rfl, _, rfl⟩ := e
    have hcell : ∀ j, j < 3 → w.cell? ⟨g, k * 3 + j, none⟩ = d.cells[j]? := fun j hj => by
     have h1 := flat3_at L k j d hd hj
     rw [← ht, List.getElem?_take, if_pos (by omega)] at h1
     have h2 : cur[k * 3 + j]? = d.cells[j]? := by rw [← h1]; simp
     simp only [World.cell?, hg]
     rw [← h2]
     simp
    have eA : (⟨g, 0, none⟩ : Addr).add (k * 3) = ⟨g, k * 3, none⟩ := by
     unfold Addr.add
     split
     ·rename_i e0; rw [e0]
     ·simp
    refine ⟨⟨g, 0, none⟩, rfl, by rw [eA]; exact hb, by rw [eA]; exact hcell 0 (by omega), by rw [eA]; exact hcell 1 (by omega), ?_⟩
    rw [eA]
    simp only [hd, Option.map_some, Option.getD_some]
    exact hcell 2 (by omega)
 ·rw [List.getElem?_map] at hk
  cases hd : L[k]? with
  | none => rw [hd] at hk; cases hk
  | some d =>
   rw [hd] at hk
   simp only [Option.map_some, Option.some.injEq] at hk
   subst hk
   exact h.2.2 d (List.mem_of_getElem? hd)
 ·rw [List.getElem?_map] at hk
  cases hd : L[k]? with
  | none => rw [hd] at hk; cases hk
  | some d =>
   rw [hd] at hk
   simp only [Option.map_some, Option.some.injEq] at hk
   subst hk
   simp only [hd, Option.map_some, Option.getD_some]
   exact (h.2.1 d (List.mem_of_getElem? hd)).mono (fun g hg _ => hg.1)
end
theorem infoT10 : (Tryd.prog.info? 24).map (fun i => (i.zero, i.size, i.bytes)) = some (some (.agg #[.int .i64 0, .string ⟨#[]⟩, .slice none 0 0]), 3, 48) := by kernel_rfl
theorem append_type {w : World} {ops : Array Oper} {rest : List Oper} {o : Oper} {a : Act} {Q : Exit → Act → World → Prop} (hgd : o.guard = none) (s x : Operand)
  (ho : o.op = .call { callee := .builtin .append, args := #[s, x], argTypes := #[22, 22] }) (B : Nat) (v : Value) (L : List TD) (hs : a.eval s = v) (hown : TW10 w B v L)
  (gx c : Nat) (d : TD) (fr : Nat × Nat) (hx : a.eval x = .slice (some ⟨gx, 0, none⟩) 1 c) (hu : w.heap[gx]? = some (.cells #[.int .i64 d.t.V, .string ⟨d.t.S.toArray⟩, .slice d.ao d.t.L.length d.cp] 24 fr)) (hd : RT (fun g => B ≤ g ∧ v.ownBlock ≠ some g) w d.t.L d.ao) (hdv : -9223372036854775808 ≤ d.t.V ∧ d.t.V ≤ 9223372036854775807 ∧ d.t.S.length ≤ maxLen) (hn : L.length < 1000000) (hB : B ≤ w.heap.size)
  (h : ∀ g cap w', TW10 w' B (.slice (some ⟨g, 0, none⟩) (L.length + 1) cap) (L ++ [d]) → w.grownBy w' v.ownBlock → wpList Tryd.prog ops Q rest (a.put o.dst (.slice (some ⟨g, 0, none⟩) (L.length + 1) cap)) w') : wpList Tryd.prog ops Q (o :: rest) a w := by
 obtain ⟨i0, hi, hz0, hz1, hz2⟩ := info_parts infoT10
 refine wpList_append_lies w hgd s x 22 ho B 24 i0 _ 3 48 Tryd.underlying22 hi hz0 hz1 hz2 rfl (by decide) v L.length (flat3 L) hs hown.1 ⟨gx, 0, none⟩ 1 c d.cells hx rfl ?_ ?_ (by omega) (by unfold maxLen; omega) (by omega) hB _ rfl ?_
 ·intro j y hy
  exact World.news_of_block hu j y hy
 ·intro y hy
  simp [TD.cells] at hy
  rcases hy with rfl | rfl | rfl <;> rfl
 ·intro g cap w' q1 q2 q3 q4
  refine h g cap w' ⟨?_, ?_, ?_⟩ q2
  ·rw [flat3_app, List.length_append]
   have : flat3 [d] = d.cells := by simp [flat3]
   rw [this]
   exact q1
  ·have key : ∀ (t : Rw) (ao : Option Addr), RT (fun g => B ≤ g ∧ v.ownBlock ≠ some g) w t.L ao → RT (fun g' => B ≤ g' ∧ (Value.slice (some ⟨g, 0, none⟩) (L.length + 1) cap).ownBlock ≠ some g') w' t.L ao := fun t ao hr => by
    have h1 : RT (fun g' => B ≤ g' ∧ v.ownBlock ≠ some g' ∧ g' < w.heap.size) w t.L ao := hr.mono (fun g' hg hl => ⟨hg.1, hg.2, hl⟩)
    refine (h1.keep (w' := w') (fun g' hg hl => q2.block g' hl (fun e => hg.2.1 e.symm))).mono (fun g' hg _ => ⟨hg.1, fun e => ?_⟩)
    have e2 : g = g' := by simpa [Value.ownBlock] using e
    rcases q3 with q3 | q3
    ·exact hg.2.1 (by rw [q3, e2])
    ·omega
   intro d' hd'
   rcases List.mem_append.1 hd' with hm | hm
   ·exact key d'.t d'.ao (hown.2.1 d' hm)
   ·rw [List.mem_singleton.1 hm]
    exact key d.t d.ao hd
  ·intro d' hd'
   rcases List.mem_append.1 hd' with hm | hm
   ·exact hown.2.2 d' hm
   ·rw [List.mem_singleton.1 hm]
    exact hdv
/-- The same, at an operation of a region that draws. -/
theorem step_type {w : World} {ops : Array Oper} {o : Oper} {a : Act} {K : Act → World → Prop} {Q : Exit → Act → World → Prop} {E : Prop} (hgd : o.guard = none) (s x : Operand)
  (ho : o.op = .call { callee := .builtin .append, args := #[s, x], argTypes := #[22, 22] }) (B : Nat) (v : Value) (L : List TD) (hs : a.eval s = v) (hown : TW10 w B v L)
  (gx c : Nat) (d : TD) (fr : Nat × Nat) (hx : a.eval x = .slice (some ⟨gx, 0, none⟩) 1 c) (hu : w.heap[gx]? = some (.cells #[.int .i64 d.t.V, .string ⟨d.t.S.toArray⟩, .slice d.ao d.t.L.length d.cp] 24 fr)) (hd : RT (fun g => B ≤ g ∧ v.ownBlock ≠ some g) w d.t.L d.ao) (hdv : -9223372036854775808 ≤ d.t.V ∧ d.t.V ≤ 9223372036854775807 ∧ d.t.S.length ≤ maxLen) (hn : L.length < 1000000) (hB : B ≤ w.heap.size)
  (h : ∀ g cap w', TW10 w' B (.slice (some ⟨g, 0, none⟩) (L.length + 1) cap) (L ++ [d]) → w.grownBy w' v.ownBlock → (v.ownBlock = some g ∨ g = w.heap.size) → K (a.put o.dst (.slice (some ⟨g, 0, none⟩) (L.length + 1) cap)) w') : if Region.wanted o (yielded ops a.tmps) = true then o.wp Tryd.prog a w K Q else E := by
 obtain ⟨i0, hi, hz0, hz1, hz2⟩ := info_parts infoT10
 refine step_append_lies (w := w) (E := E) hgd s x 22 ho B 24 i0 _ 3 48 Tryd.underlying22 hi hz0 hz1 hz2 rfl (by decide) v L.length (flat3 L) hs hown.1 ⟨gx, 0, none⟩ 1 c d.cells hx rfl ?_ ?_ (by omega) (by unfold maxLen; omega) (by omega) hB _ rfl ?_
 ·intro j y hy
  exact World.news_of_block hu j y hy
 ·intro y hy
  simp [TD.cells] at hy
  rcases hy with rfl | rfl | rfl <;> rfl
 ·intro g cap w' q1 q2 q3 q4
  refine h g cap w' ⟨?_, ?_, ?_⟩ q2 q3
  ·rw [flat3_app, List.length_append]
   have : flat3 [d] = d.cells := by simp [flat3]
   rw [this]
   exact q1
  ·have key : ∀ (t : Rw) (ao : Option Addr), RT (fun g => B ≤ g ∧ v.ownBlock ≠ some g) w t.L ao → RT (fun g' => B ≤ g' ∧ (Value.slice (some ⟨g, 0, none⟩) (L.length + 1) cap).ownBlock ≠ some g') w' t.L ao := fun t ao hr => by
    have h1 : RT (fun g' => B ≤ g' ∧ v.ownBlock ≠ some g' ∧ g' < w.heap.size) w t.L ao := hr.mono (fun g' hg hl => ⟨hg.1, hg.2, hl⟩)
    refine (h1.keep (w' := w') (fun g' hg hl => q2.block g' hl (fun e => hg.2.1 e.symm))).mono (fun g' hg _ => ⟨hg.1, fun e => ?_⟩)
    have e2 : g = g' := by simpa [Value.ownBlock] using e
    rcases q3 with q3 | q3
    ·exact hg.2.1 (by rw [q3, e2])
    ·omega
   intro d' hd'
   rcases List.mem_append.1 hd' with hm | hm
   ·exact key d'.t d'.ao (hown.2.1 d' hm)
   ·rw [List.mem_singleton.1 hm]
    exact key d.t d.ao hd
  ·intro d' hd'
   rcases List.mem_append.1 hd' with hm | hm
   ·exact hown.2.2 d' hm
   ·rw [List.mem_singleton.1 hm]
    exact hdv
end Go.Proofs.YtnebhiaeechpaaaDoor
