/-
  A row of words that the call itself has made, and the law of append for a copy of words into an empty row of the call's own. Condition: what is copied lies in memory.
-/
import Derived.Test.YtjnlfnecmiklhaaLibA
import Derived.Laws.AppendOwnNone
namespace Go.Proofs.Ytjnlfnecmiklhaa
open Go.RowKit Go.Deep
set_option linter.unusedVariables false
set_option maxHeartbeats 400000

/-- Block g begins with the m words X. -/
def Own (w : World) (g m : Nat) (X : Nat → Int) : Prop := ∃ cur : Array Value, w.heap[g]? = some (.cells cur 54 (0, 0)) ∧ ∀ i, i < m → cur[i]? = some (.int .u64 (X i))
namespace Own
variable {w w' : World} {g m : Nat} {X Y : Nat → Int}
theorem lt (h : Own w g m X) : g < w.heap.size := by obtain ⟨c, e, _⟩ := h; exact lt_of_some e
theorem cell (h : Own w g m X) {i : Nat} (hi : i < m) : w.cell? ⟨g, i, none⟩ = some (.int .u64 (X i)) := by
  obtain ⟨c, e, f⟩ := h; simp [World.cell?, e, f i hi]
theorem frozen (h : Own w g m X) (i : Nat) : w.frozen? ⟨g, i, none⟩ = false := by
  obtain ⟨c, e, f⟩ := h; simp [World.frozen?, e]
theorem of_block (h : Own w g m X) (e : w'.heap[g]? = w.heap[g]?) : Own w' g m X := by
  obtain ⟨c, e1, f⟩ := h; exact ⟨c, e.trans e1, f⟩
theorem frame {S : Nat → Prop} (h : Own w g m X) (k : Only S w w') (hs : ¬ S g) : Own w' g m X := h.of_block (k.block g h.lt hs)
theorem congr (h : Own w g m X) (e : ∀ i, i < m → X i = Y i) : Own w g m Y := by
  obtain ⟨c, e1, f⟩ := h; exact ⟨c, e1, fun i hi => by rw [f i hi, e i hi]⟩
theorem drewN (h : Own w g m X) (n : Nat) : Own (w.drewN n) g m X := h
theorem set (h : Own w g m X) (i : Nat) (v : Int) : Own (w.setCell ⟨g, i, none⟩ (.int .u64 v)) g m (fun j => if j = i then v else X j) := by
  obtain ⟨c, hb, hc⟩ := h
  refine ⟨c.setIfInBounds i (.int .u64 v), ?_, fun j hj => ?_⟩
  · simp [World.setCell, Array.getElem?_modify, hb]
  · rw [Array.getElem?_setIfInBounds]
    have hl : j < c.size := (Array.getElem?_eq_some_iff.1 (hc j hj)).1
    by_cases e : j = i
    · subst e
      simp [hl]
    · rw [if_neg (fun h => e h.symm)]
      show c[j]? = some (.int .u64 (if j = i then v else X j))
      rw [if_neg e]
      exact hc j hj
end Own
theorem own_of_row {w : World} {base g n cap : Nat} {X : Nat → Int} (h : w.ownsRow base 54 1 (.slice (some ⟨g, 0, none⟩) n cap) n ((List.range n).map fun j => .int .u64 (X j))) : Own w g n X ∧ base ≤ g := by
  rcases h.2 with ⟨h', _⟩ | ⟨g', cap', cur, h', hb, hg, hnc, _, hcs, htake⟩
  · simp at h'
  · simp only [Value.slice.injEq, Option.some.injEq, Addr.mk.injEq, and_true, true_and] at h'
    obtain ⟨rfl, rfl⟩ := h'
    refine ⟨⟨cur, hg, fun i hi => ?_⟩, hb⟩
    have : (cur.toList.take (n * 1))[i]? = some (.int .u64 (X i)) := by rw [htake]; simp [hi]
    rw [List.getElem?_take, if_pos (by omega)] at this
    simpa using this
theorem wpList_append_words {w : World} {ops : Array Oper} {rest : List Oper} {o : Oper} {a : Act} {Q : Exit → Act → World → Prop} (hgd : o.guard = none) (s x : Operand)
    (ho : o.op = .call { callee := .builtin .append, args := #[s, x], argTypes := #[28, 28] }) (g0 : Nat) (hs : a.eval s = .slice (some ⟨g0, 0, none⟩) 0 0) (hg0 : w.heap[g0]? = some (.cells #[] 54 (0, 0)))
    (ao : Option Addr) (m c : Nat) (hx : a.eval x = .slice ao m c) (X : Nat → Int) (hn : ao = none → m = 0 ∧ c = 0) (hcell : ∀ j, j < m → ∃ ad, ao = some ad ∧ w.cell? (ad.add j) = some (.int .u64 (X j))) (hm : m ≤ 1000000)
    (h : ∀ g cap w', Own w' g m X → w.grownBy w' (some g0) → g0 ≤ g → wpList Try.prog ops Q rest (a.put o.dst (.slice (some ⟨g, 0, none⟩) m cap)) w') : wpList Try.prog ops Q (o :: rest) a w := by
  obtain ⟨i0, hi, hz0, hz1, hz2⟩ := info_parts Try.info54
  have hg : g0 < w.heap.size := lt_of_some hg0
  have hown : w.ownsRow g0 54 1 (.slice (some ⟨g0, 0, none⟩) 0 0) 0 [] := ⟨rfl, .inr ⟨g0, 0, #[], rfl, Nat.le_refl _, hg0, Nat.le_refl _, Nat.zero_le _, rfl, rfl⟩⟩
  cases ao with
  | none =>
    obtain ⟨rfl, rfl⟩ := hn rfl
    refine wpList_append_own_none hgd s x 28 ho g0 54 i0 1 Try.underlying28 hi _ 0 [] hs hown hx ?_
    exact h g0 0 w ⟨#[], hg0, fun i hi => by omega⟩ ⟨rfl, rfl, rfl, Nat.le_refl _, fun _ _ _ => rfl⟩ (Nat.le_refl _)
  | some ad =>
    refine wpList_append_own w hgd s x 28 ho g0 54 i0 (.int .u64 0) 1 8 Try.underlying28 hi hz0 hz1 hz2 rfl (by decide) _ 0 [] hs hown ad m c ((List.range m).map fun j => .int .u64 (X j)) hx (by simp) ?_ ?_ (by unfold maxLen; omega) (by omega) (by omega) ?_
    · intro j u hu
      have hj : j < m := by
        have := (List.getElem?_eq_some_iff.1 hu).1
        simpa using this
      obtain ⟨ad', e, hc⟩ := hcell j hj
      cases e
      rw [hc]
      simp [hj] at hu
      rw [hu]
    · intro u hu
      simp at hu
      obtain ⟨j, _, rfl⟩ := hu
      rfl
    · intro v' w' h1 h2 h3
      rw [Nat.zero_add, List.nil_append] at h1
      have hne : v' ≠ .slice none 0 0 := by
        intro e
        have := (h3.1 e).1
        simp at this
      rcases h1.2 with ⟨e, _⟩ | ⟨g, cap, cur, rfl, r⟩
      · exact absurd e hne
      · obtain ⟨q1, q2⟩ := own_of_row h1
        exact h g cap w' q1 h2 q2
end Go.Proofs.Ytjnlfnecmiklhaa
