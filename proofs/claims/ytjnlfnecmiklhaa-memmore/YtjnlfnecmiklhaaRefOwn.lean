/-
  Laws of append for the document's own arena: one word more in a row of the call's own; one block of three cells more in a row of blocks. And how the row of blocks is told by its cells. Conditions: sizes.
-/
import Derived.Test.YtjnlfnecmiklhaaRefGets
import Derived.Deep.RegionLaw
import Derived.Deep.AppendLies
namespace Go.Proofs.Ytjnlfnecmiklhaa
open Go.RowKit Go.Deep
set_option linter.unusedVariables false
set_option maxHeartbeats 400000

theorem Try.info57 : (Try.prog.info? 57).map (fun i => (i.zero, i.size, i.bytes)) = some (some (.agg #[.int .i64 0, .int .i64 0, .slice none 0 0]), 3, 40) := by kernel_rfl
theorem own_shape {w : World} {B : Nat} {e : TypeId} {size : Nat} {v : Value} {n : Nat} {xs : List Value} (h : w.ownsRow B e size v (n + 1) xs) : ∃ g cap, v = .slice (some ⟨g, 0, none⟩) (n + 1) cap ∧ B ≤ g := by
  rcases h.2 with ⟨_, e⟩ | ⟨g, cap, cur, hv, hg, _⟩
  · omega
  · exact ⟨g, cap, hv, hg⟩
theorem to_own {w : World} {B : Nat} {a : Option Addr} {cap : Nat} {L : List Blk} {V : Nat → Value} (h : BlocksOf w B a cap L V) : ∃ xs, w.ownsRow B 57 3 (.slice a L.length cap) L.length xs ∧
    ∀ i b, L[i]? = some b → xs[i * 3]? = some (.int .i64 b.ad) ∧ xs[i * 3 + 1]? = some (.int .i64 b.tag) ∧ xs[i * 3 + 2]? = some (V i) ∧ FieldOf w B (V i) b.F := by
  obtain ⟨h1, h2, h3, h4⟩ := h
  cases a with
  | none =>
    obtain ⟨e1, e2⟩ := h1 rfl
    refine ⟨[], ⟨by rw [e1]; rfl, .inl ⟨by rw [e1, e2], e1⟩⟩, ?_⟩
    intro i b hb
    have := (List.getElem?_eq_some_iff.1 hb).1
    omega
  | some ad =>
    obtain ⟨g, cur, rfl, hb, hg, hc, hcell⟩ := h4 ad rfl
    refine ⟨cur.toList.take (L.length * 3), ⟨by simp [hc]; omega, .inr ⟨g, cap, cur, rfl, hb, hg, h2, h3, hc, rfl⟩⟩, ?_⟩
    intro i b hib
    have hi := (List.getElem?_eq_some_iff.1 hib).1
    obtain ⟨c1, c2, c3, c4⟩ := hcell i b hib
    refine ⟨?_, ?_, ?_, c4⟩
    · rw [List.getElem?_take, if_pos (by omega)]; simpa using c1
    · rw [List.getElem?_take, if_pos (by omega)]; simpa using c2
    · rw [List.getElem?_take, if_pos (by omega)]; simpa using c3
theorem of_own {w : World} {B : Nat} {a : Option Addr} {cap : Nat} {L : List Blk} {V : Nat → Value} {xs : List Value} (h : w.ownsRow B 57 3 (.slice a L.length cap) L.length xs)
    (hx : ∀ i b, L[i]? = some b → xs[i * 3]? = some (.int .i64 b.ad) ∧ xs[i * 3 + 1]? = some (.int .i64 b.tag) ∧ xs[i * 3 + 2]? = some (V i) ∧ FieldOf w B (V i) b.F) : BlocksOf w B a cap L V := by
  rcases h.2 with ⟨e, e0⟩ | ⟨g, cap', cur, e, hb, hg, hnc, hcm, hcs, htake⟩
  · simp only [Value.slice.injEq] at e
    obtain ⟨rfl, _, rfl⟩ := e
    exact ⟨fun _ => ⟨e0, rfl⟩, by omega, Nat.zero_le _, fun ad h => by cases h⟩
  · simp only [Value.slice.injEq] at e
    obtain ⟨rfl, _, rfl⟩ := e
    refine ⟨fun h => (by cases h), hnc, hcm, fun ad had => ?_⟩
    cases had
    refine ⟨g, cur, rfl, hb, hg, hcs, fun i b hib => ?_⟩
    have hi := (List.getElem?_eq_some_iff.1 hib).1
    obtain ⟨c1, c2, c3, c4⟩ := hx i b hib
    rw [← htake] at c1 c2 c3
    rw [List.getElem?_take, if_pos (by omega)] at c1 c2 c3
    exact ⟨by simpa using c1, by simpa using c2, by simpa using c3, c4⟩
theorem wpList_append_one {w : World} {ops : Array Oper} {rest : List Oper} {o : Oper} {a : Act} {Q : Exit → Act → World → Prop} (hgd : o.guard = none) (s x : Operand)
    (ho : o.op = .call { callee := .builtin .append, args := #[s, x], argTypes := #[28, 28] }) (B : Nat) (v : Value) (n : Nat) (xs : List Value) (hs : a.eval s = v) (hown : w.ownsRow B 54 1 v n xs)
    (ad : Addr) (c : Nat) (u : Int) (hx : a.eval x = .slice (some ad) 1 c) (hu : w.cell? (ad.add 0) = some (.int .u64 u)) (hn : n ≤ 1000000) (hB : B ≤ w.heap.size)
    (h : ∀ g cap w', w'.ownsRow B 54 1 (.slice (some ⟨g, 0, none⟩) (n + 1) cap) (n + 1) (xs ++ [.int .u64 u]) → w.grownBy w' v.ownBlock → B ≤ g → wpList Try.prog ops Q rest (a.put o.dst (.slice (some ⟨g, 0, none⟩) (n + 1) cap)) w') : wpList Try.prog ops Q (o :: rest) a w := by
  obtain ⟨i0, hi, hz0, hz1, hz2⟩ := info_parts Try.info54
  refine wpList_append_own w hgd s x 28 ho B 54 i0 (.int .u64 0) 1 8 Try.underlying28 hi hz0 hz1 hz2 rfl (by decide) v n xs hs hown ad 1 c [.int .u64 u] hx rfl ?_ ?_ (by unfold maxLen; omega) (by omega) hB ?_
  · intro j y hy
    match j, hy with
    | 0, hy => simp at hy; subst hy; exact hu
  · intro y hy; simp at hy; subst hy; rfl
  · intro v' w' h1 h2 _
    obtain ⟨g, cap, rfl, hg⟩ := own_shape h1
    exact h g cap w' h1 h2 hg
theorem step_append_block {ops : Array Oper} {o : Oper} {a : Act} {w : World} {K : Act → World → Prop} {Q : Exit → Act → World → Prop} {E : Prop} (hg : o.guard = none) (s x : Operand)
    (hop : o.op = Op.call { callee := Callee.builtin Builtin.append, args := #[s, x], argTypes := #[50, 50] }) (B : Nat) (ao : Option Addr) (n cap : Nat) (xs : List Value) (hs : a.eval s = .slice ao n cap) (hown : w.ownsRow B 57 3 (.slice ao n cap) n xs)
    (ad : Addr) (c : Nat) (u0 u1 : Int) (u2 : Value) (hx : a.eval x = .slice (some ad) 1 c) (h0 : w.cell? (ad.add 0) = some (.int .i64 u0)) (h1 : w.cell? (ad.add 1) = some (.int .i64 u1)) (h2 : w.cell? (ad.add 2) = some u2) (h2c : u2.oneCell' = true) (hn : n ≤ 1000000) (hB : B ≤ w.heap.size)
    (hK : ∀ g' cap' w', w'.ownsRow B 57 3 (.slice (some ⟨g', 0, none⟩) (n + 1) cap') (n + 1) (xs ++ [.int .i64 u0, .int .i64 u1, u2]) → w.grownBy w' (Value.slice ao n cap).ownBlock → B ≤ g' → K (a.put o.dst (.slice (some ⟨g', 0, none⟩) (n + 1) cap')) w') :
    if Region.wanted o (yielded ops a.tmps) = true then Oper.wp Try.prog o a w K Q else E := by
  have hw : Region.wanted o (yielded ops a.tmps) = true := by simp [Region.wanted, hg]
  rw [if_pos hw]
  obtain ⟨i0, hi, hz0, hz1, hz2⟩ := info_parts Try.info57
  refine wp_append_own w s x 50 hop B 57 i0 _ 3 40 Try.underlying50 hi hz0 hz1 hz2 rfl (by decide) _ n xs hs hown ad 1 c [.int .i64 u0, .int .i64 u1, u2] hx rfl ?_ ?_ (by unfold maxLen; omega) (by omega) hB ?_
  · intro j y hy
    match j, hy with
    | 0, hy => simp at hy; subst hy; exact h0
    | 1, hy => simp at hy; subst hy; exact h1
    | 2, hy => simp at hy; subst hy; exact h2
  · intro y hy
    simp at hy
    rcases hy with rfl | rfl | rfl
    · rfl
    · rfl
    · exact h2c
  · intro v' w' q1 q2 _
    obtain ⟨g, cap', rfl, hg'⟩ := own_shape q1
    exact hK g cap' w' q1 q2 hg'
theorem step_append_block2 {ops : Array Oper} {o : Oper} {a : Act} {w : World} {K : Act → World → Prop} {Q : Exit → Act → World → Prop} {E : Prop} (hg : o.guard = none) (s x : Operand)
    (hop : o.op = Op.call { callee := Callee.builtin Builtin.append, args := #[s, x], argTypes := #[50, 50] }) (B : Nat) (ao : Option Addr) (n cap : Nat) (xs : List Value) (hs : a.eval s = .slice ao n cap) (hown : w.ownsRow B 57 3 (.slice ao n cap) n xs)
    (ad : Addr) (c : Nat) (u0 u1 : Int) (u2 : Value) (hx : a.eval x = .slice (some ad) 1 c) (h0 : w.cell? (ad.add 0) = some (.int .i64 u0)) (h1 : w.cell? (ad.add 1) = some (.int .i64 u1)) (h2 : w.cell? (ad.add 2) = some u2) (h2c : u2.oneCell' = true) (hn : n ≤ 1000000) (hB : B ≤ w.heap.size)
    (hK : ∀ g' cap' w', w'.ownsRow B 57 3 (.slice (some ⟨g', 0, none⟩) (n + 1) cap') (n + 1) (xs ++ [.int .i64 u0, .int .i64 u1, u2]) → w.grownBy w' (Value.slice ao n cap).ownBlock → ((Value.slice ao n cap).ownBlock = some g' ∨ g' = w.heap.size) → K (a.put o.dst (.slice (some ⟨g', 0, none⟩) (n + 1) cap')) w') :
    if Region.wanted o (yielded ops a.tmps) = true then Oper.wp Try.prog o a w K Q else E := by
  have hw : Region.wanted o (yielded ops a.tmps) = true := by simp [Region.wanted, hg]
  rw [if_pos hw]
  obtain ⟨i0, hi, hz0, hz1, hz2⟩ := info_parts Try.info57
  refine wp_append_lies w s x 50 hop B 57 i0 _ 3 40 Try.underlying50 hi hz0 hz1 hz2 rfl (by decide) _ n xs hs hown ad 1 c [.int .i64 u0, .int .i64 u1, u2] hx rfl ?_ ?_ (by omega) (by unfold maxLen; omega) (by omega) hB _ rfl ?_
  · intro j y hy
    match j, hy with
    | 0, hy => simp at hy; subst hy; exact h0
    | 1, hy => simp at hy; subst hy; exact h1
    | 2, hy => simp at hy; subst hy; exact h2
  · intro y hy
    simp at hy
    rcases hy with rfl | rfl | rfl
    · rfl
    · rfl
    · exact h2c
  · intro g cap' w' q1 q2 hat _
    exact hK g cap' w' q1 q2 hat
end Go.Proofs.Ytjnlfnecmiklhaa
