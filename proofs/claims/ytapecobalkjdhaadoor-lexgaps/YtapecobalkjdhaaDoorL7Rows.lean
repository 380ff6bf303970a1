/-
  Layer 7, the statements: lists of tokens that grow.
-/
import Derived.Test.YtapecobalkjdhaaDoorL7Cells
namespace Go.Proofs.YtapecobalkjdhaaDoor
open Go.ChangeShapes Go.WideShapes Go.ChangeAt Go.RowKit Go.Deep
set_option linter.unusedVariables false
set_option maxHeartbeats 1000000

theorem toks_pl {s : ByteArray} {ts : List (Tk × Nat)} {i : Nat} {t : TV} (h : (toks s ts)[i]? = some t) : 0 ≤ t.pl ∧ t.pl ≤ s.size := by
  have hm := List.mem_of_getElem? h
  unfold toks at hm
  rcases List.mem_append.1 hm with hm | hm
  · unfold tvs at hm
    obtain ⟨p, _, rfl⟩ := List.mem_map.1 hm
    exact ⟨by simp, by simp⟩
  · simp at hm
    subst hm
    exact ⟨by simp [endV], by simp [endV]⟩
theorem take_more {L : List TV} {k : Nat} {t : TV} (h : L[k]? = some t) : L.take (k + 1) = L.take k ++ [t] := by
  rw [List.take_add_one, h]
  rfl
theorem TS.news {w : World} {g : Nat} {M : List TV} (h : TS w (some ⟨g, 0, none⟩) M) : ∀ j u, (flatT M)[j]? = some u → w.cell? ((⟨g, 0, none⟩ : Addr).add j) = some u := by
  intro j u hu
  have hj : j < M.length * 4 := by have := (List.getElem?_eq_some_iff.1 hu).1; rw [flatT_len] at this; exact this
  have hi : j / 4 < M.length := by omega
  obtain ⟨t, hM⟩ : ∃ t, M[j / 4]? = some t := ⟨_, List.getElem?_eq_getElem hi⟩
  have e1 := flatT_at M (j / 4) (j % 4) _ hM (by omega)
  rw [show j / 4 * 4 + j % 4 = j by omega, hu] at e1
  obtain ⟨g', e, h0, h1, h2, h3⟩ := h.at_ _ _ hM
  simp only [Option.some.injEq, Addr.mk.injEq, and_true] at e
  subst e
  have ea : (Addr.mk g 0 none).add j = ⟨g, j, none⟩ := by
    unfold Addr.add
    split
    · rename_i h; rw [h]
    · simp
  rw [ea, e1]
  have hr : j % 4 = 0 ∨ j % 4 = 1 ∨ j % 4 = 2 ∨ j % 4 = 3 := by omega
  rcases hr with hr | hr | hr | hr <;> rw [hr]
  · rw [show j / 4 * 4 = j by omega] at h0; simpa [TV.cells] using h0
  · rw [show j / 4 * 4 + 1 = j by omega] at h1; simpa [TV.cells] using h1
  · rw [show j / 4 * 4 + 2 = j by omega] at h2; simpa [TV.cells] using h2
  · rw [show j / 4 * 4 + 3 = j by omega] at h3; simpa [TV.cells] using h3
theorem flat_one {M : List TV} : ∀ u ∈ flatT M, u.oneCell' = true := by
  intro u hu
  unfold flatT at hu
  obtain ⟨t, _, ht⟩ := List.mem_flatMap.1 hu
  simp [TV.cells] at ht
  rcases ht with rfl | rfl | rfl | rfl <;> rfl
theorem append_toks {w : World} {ops : Array Oper} {rest : List Oper} {o : Oper} {a : Act} {Q : Exit → Act → World → Prop} (hgd : o.guard = none) (s x : Operand)
    (ho : o.op = .call { callee := .builtin .append, args := #[s, x], argTypes := #[23, 23] }) (B : Nat) (v : Value) (L : List TV) (hs : a.eval s = v) (hown : TR w B v L)
    (gx c m : Nat) (M : List TV) (hm : M.length = m) (h0 : 0 < m) (hx : a.eval x = .slice (some ⟨gx, 0, none⟩) m c) (hu : TS w (some ⟨gx, 0, none⟩) M) (hn : L.length + m < 1000000) (hB : B ≤ w.heap.size)
    (h : ∀ g cap w', TR w' B (.slice (some ⟨g, 0, none⟩) (L.length + m) cap) (L ++ M) → w.grownBy w' v.ownBlock → wpList Tryd.prog ops Q rest (a.put o.dst (.slice (some ⟨g, 0, none⟩) (L.length + m) cap)) w') : wpList Tryd.prog ops Q (o :: rest) a w := by
  obtain ⟨i0, hi, hz0, hz1, hz2⟩ := info_parts infoT
  refine wpList_append_lies w hgd s x 23 ho B 31 i0 _ 4 40 Tryd.underlying23 hi hz0 hz1 hz2 rfl (by decide) v L.length (flatT L) hs hown ⟨gx, 0, none⟩ m c (flatT M) hx (by rw [flatT_len, hm]) hu.news flat_one h0 (by unfold maxLen; omega) (by omega) hB _ rfl ?_
  intro g cap w' q1 q2 _ _
  refine h g cap w' ?_ q2
  unfold TR
  rw [flatT_app, List.length_append, hm]
  exact q1
theorem TR.empty (w : World) (B : Nat) (hB : B ≤ w.heap.size) : TR (w.alloc (.cells #[] 31)) B (.slice (some ⟨w.heap.size, 0, none⟩) 0 0) [] := ⟨rfl, Or.inr ⟨w.heap.size, 0, #[], rfl, hB, blk_alloc_new _ _, Nat.le_refl _, Nat.zero_le _, rfl, rfl⟩⟩
/-- Nothing is appended. -/
theorem append_none {w : World} {ops : Array Oper} {rest : List Oper} {o : Oper} {a : Act} {Q : Exit → Act → World → Prop} (hgd : o.guard = none) (s x : Operand)
    (ho : o.op = .call { callee := .builtin .append, args := #[s, x], argTypes := #[23, 23] }) (g n cap gx c : Nat) (hs : a.eval s = .slice (some ⟨g, 0, none⟩) n cap) (hn : n ≤ cap) (hx : a.eval x = .slice (some ⟨gx, 0, none⟩) 0 c)
    (h : wpList Tryd.prog ops Q rest (a.put o.dst (.slice (some ⟨g, 0, none⟩) n cap)) w) : wpList Tryd.prog ops Q (o :: rest) a w := by
  obtain ⟨i0, hi, hz0, hz1, hz2⟩ := info_parts infoT
  refine wpList_plain hgd fun K hK => ?_
  have hr := run_append_nothing w 23 23 o.type 31 i0 Tryd.underlying23 hi (some ⟨g, 0, none⟩) n cap hn (.slice (some ⟨gx, 0, none⟩) 0 c) (Src.ofSlice w Tryd.underlying23 ⟨gx, 0, none⟩ 0 c [] (by simp) (fun j u hu => by cases hu) (fun u hu => by cases hu))
  unfold Oper.wp execOp
  simp only [ho, resolve, invoke, builtin, Sem.run_bind, Sem.run_pure, Result.andThen_ok, List.map_toArray, List.map_cons, List.map_nil, hs, hx, hr]
  exact hK _ _ h
/-- Tokens are appended, or nothing is. -/
theorem append_toks0 {w : World} {ops : Array Oper} {rest : List Oper} {o : Oper} {a : Act} {Q : Exit → Act → World → Prop} (hgd : o.guard = none) (s x : Operand)
    (ho : o.op = .call { callee := .builtin .append, args := #[s, x], argTypes := #[23, 23] }) (B g0 cap0 : Nat) (L : List TV) (hs : a.eval s = .slice (some ⟨g0, 0, none⟩) L.length cap0) (hown : TR w B (.slice (some ⟨g0, 0, none⟩) L.length cap0) L) (hcap : L.length ≤ cap0)
    (gx c m : Nat) (M : List TV) (hm : M.length = m) (hx : a.eval x = .slice (some ⟨gx, 0, none⟩) m c) (hu : TS w (some ⟨gx, 0, none⟩) M) (hn : L.length + m < 1000000) (hB : B ≤ w.heap.size)
    (h : ∀ g cap w', TR w' B (.slice (some ⟨g, 0, none⟩) (L.length + m) cap) (L ++ M) → w.grownBy w' (some g0) → wpList Tryd.prog ops Q rest (a.put o.dst (.slice (some ⟨g, 0, none⟩) (L.length + m) cap)) w') : wpList Tryd.prog ops Q (o :: rest) a w := by
  by_cases h0 : 0 < m
  · exact append_toks hgd s x ho B _ L hs hown gx c m M hm h0 hx hu hn hB h
  · have hm0 : m = 0 := by omega
    subst hm0
    have hM : M = [] := List.length_eq_zero_iff.1 hm
    subst hM
    refine append_none hgd s x ho g0 L.length cap0 gx c hs hcap hx ?_
    exact h g0 cap0 w (by rw [List.append_nil]; exact hown) ⟨rfl, rfl, rfl, Nat.le_refl _, fun _ _ _ => rfl⟩
end Go.Proofs.YtapecobalkjdhaaDoor
