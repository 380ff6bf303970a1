/-
  Layer 7, the statements: two lists of tokens that are the same. Condition: both lie in memory.
-/
import Derived.Test.YtapecobalkjdhaaDoorP7Lex
import Derived.Test.YtapecobalkjdhaaDoorP7Quo
import Derived.Laws.StructEq
namespace Go.Proofs.YtapecobalkjdhaaDoor
open Go.ChangeShapes Go.WideShapes Go.ChangeAt Go.RowKit Go.Deep
set_option linter.unusedVariables false
set_option maxHeartbeats 1000000

/-- Tokens that a slice leads to. -/
structure TS (w : World) (ao : Option Addr) (L : List TV) : Prop where
  at_ : ∀ i t, L[i]? = some t → ∃ g, ao = some ⟨g, 0, none⟩ ∧ w.cell? ⟨g, i * 4, none⟩ = some (.int .i64 t.kind) ∧ w.cell? ⟨g, i * 4 + 1, none⟩ = some (.int .i64 t.pl) ∧ w.cell? ⟨g, i * 4 + 2, none⟩ = some (.int .i64 t.N) ∧ w.cell? ⟨g, i * 4 + 3, none⟩ = some (.string ⟨t.S.toArray⟩)
theorem flatT_at : ∀ (L : List TV) (i j : Nat) (t : TV), L[i]? = some t → j < 4 → (flatT L)[i * 4 + j]? = t.cells[j]?
  | [], i, j, t, h, hj => by cases h
  | u :: L, 0, j, t, h, hj => by
    simp at h
    subst h
    show (u.cells ++ flatT L)[0 * 4 + j]? = _
    rw [Nat.zero_mul, Nat.zero_add, List.getElem?_append_left (by show j < 4; exact hj)]
  | u :: L, i + 1, j, t, h, hj => by
    have ih := flatT_at L i j t (by simpa using h) hj
    show (u.cells ++ flatT L)[(i + 1) * 4 + j]? = _
    rw [List.getElem?_append_right (by show 4 ≤ _; omega)]
    rw [← ih]
    congr 1
    show (i + 1) * 4 + j - 4 = _
    omega
theorem TR.ts {w : World} {B : Nat} {ao : Option Addr} {n c : Nat} {L : List TV} (h : TR w B (.slice ao n c) L) : n = L.length ∧ TS w ao L := by
  have h0 := h
  obtain ⟨h1, h2⟩ := h
  rcases h2 with ⟨e, hn⟩ | ⟨g, cap, cur, e, _, hg, hn, hm, hs, ht⟩
  · simp only [Value.slice.injEq] at e
    refine ⟨by omega, ⟨fun i t hi => ?_⟩⟩
    have : L = [] := List.length_eq_zero_iff.1 hn
    subst this
    cases hi
  · simp only [Value.slice.injEq] at e
    obtain ⟨rfl, rfl, rfl⟩ := e
    refine ⟨rfl, ⟨fun i t hi => ⟨g, rfl, ?_⟩⟩⟩
    have hlt : i < L.length := (List.getElem?_eq_some_iff.1 hi).1
    have hc : ∀ j, j < 4 → w.cell? ⟨g, i * 4 + j, none⟩ = t.cells[j]? := by
      intro j hj
      rw [World.ownsRow.cellAt h0 (i * 4 + j) (by omega)]
      exact flatT_at L i j t hi hj
    exact ⟨hc 0 (by omega), hc 1 (by omega), hc 2 (by omega), hc 3 (by omega)⟩
theorem TS.keep {w w' : World} {ao : Option Addr} {L : List TV} (h : TS w ao L) (k : ∀ g, ao = some ⟨g, 0, none⟩ → w'.heap[g]? = w.heap[g]?) : TS w' ao L := ⟨fun i t hi => by
  obtain ⟨g, e, h0, h1, h2, h3⟩ := h.at_ i t hi
  have hk := k g e
  have hc : ∀ o, w'.cell? ⟨g, o, none⟩ = w.cell? ⟨g, o, none⟩ := fun o => World.cell?_of_block (a := ⟨g, o, none⟩) hk
  exact ⟨g, e, by rw [hc]; exact h0, by rw [hc]; exact h1, by rw [hc]; exact h2, by rw [hc]; exact h3⟩⟩
theorem TS.drewN {w : World} {ao : Option Addr} {L : List TV} (h : TS w ao L) (n : Nat) : TS (w.drewN n) ao L := h.keep (fun _ _ => rfl)
theorem TS.take {w : World} {ao : Option Addr} {L : List TV} (h : TS w ao L) (n : Nat) : TS w ao (L.take n) := ⟨fun i t hi => h.at_ i t (by
  rw [List.getElem?_take] at hi
  split at hi
  · exact hi
  · cases hi)⟩
theorem cell_lt {w : World} {g o : Nat} {v : Value} (h : w.cell? ⟨g, o, none⟩ = some v) : g < w.heap.size := by
  rcases Nat.lt_or_ge g w.heap.size with c | c
  · exact c
  · simp [World.cell?, Array.getElem?_eq_none c] at h
theorem TS.below {w w' : World} {ao : Option Addr} {L : List TV} (h : TS w ao L) (b : Below w.heap.size w w') : TS w' ao L := ⟨fun i t hi => by
  obtain ⟨g, e, h0, h1, h2, h3⟩ := h.at_ i t hi
  have hc : ∀ o, w'.cell? ⟨g, o, none⟩ = w.cell? ⟨g, o, none⟩ := fun o => World.cell?_of_block (a := ⟨g, o, none⟩) (b.block g (cell_lt h0))
  exact ⟨g, e, by rw [hc]; exact h0, by rw [hc]; exact h1, by rw [hc]; exact h2, by rw [hc]; exact h3⟩⟩
theorem neq_same (a b c : Int) (s : ByteArray) (w : World) : Sem.run Tryd.prog (binOp .neq 31 (.agg #[.int .i64 a, .int .i64 b, .int .i64 c, .string s]) (.agg #[.int .i64 a, .int .i64 b, .int .i64 c, .string s])) w = .ok (.bool false) w := by
  rw [run_neq_struct, run_equalIn_struct w 9999 31 _ _ (by kernel_rfl) (by kernel_rfl)]
  simp [Program.fieldsOf, Tryd.underlying31, Op.eqFields, go_sem]
set_option maxRecDepth 20000 in
theorem same_yes (ao ao' : Option Addr) (c c' : Nat) (L : List TV) (w : World) (h : TS w ao L) (h' : TS w ao' L) (hl : L.length ≤ 100000) :
    Calls Tryd.prog 11 #[.slice ao L.length c, .slice ao' L.length c'] w fun e w' => e = .returned (.bool true) ∧ ∃ n, w' = w.drewN n := by
  have H := hidden h
  have H' := hidden h'
  clear h h'
  obtain ⟨m, hm⟩ : ∃ m, L.length = m := ⟨_, rfl⟩
  rw [hm] at hl ⊢
  have HM := hidden hm
  clear hm
  have z0 : ((m : Int) != (m : Int)) = false := by simp
  go_enter Tryd.func11, Tryd.ntmps11
  go_wp2_with fail
  go_loopw [13] (fun iv wr => ∃ k : Nat, k ≤ m ∧ iv = .int .i64 (k : Int) ∧ ∃ n, wr = w.drewN n) (fun iv wr => (m - intOf iv).toNat)
  case atStart => exact ⟨0, by omega, rfl, 0, rfl⟩
  case round =>
    obtain ⟨k, k1, rfl, n, hn⟩ := hrel
    have HR : Hid (TS wr ao L) := by rw [hn]; exact H.out.drewN n
    have HR' : Hid (TS wr ao' L) := by rw [hn]; exact H'.out.drewN n
    have HN := hidden hn
    clear hn
    by_cases hlt : k < m
    · have z1 : (k : Int) < (m : Int) := by omega
      have hk : L[k]? = some (L[k]'(by rw [HM.out]; exact hlt)) := List.getElem?_eq_getElem _
      generalize L[k]'(by rw [HM.out]; exact hlt) = t at hk
      obtain ⟨g, e1, a0, a1, a2, a3⟩ := HR.out.at_ k t hk
      obtain ⟨g', e2, b0, b1, b2, b3⟩ := HR'.out.at_ k t hk
      subst e1
      subst e2
      have hq := neq_same t.kind t.pl t.N ⟨t.S.toArray⟩
      clear hk
      go_wp2_with fail
      go_quiet (fail)
      clear hq
      go_wp2_with fail
      go_roundw
      case rel => exact ⟨k + 1, by omega, by go_num, n + nq, by rw [HN.out, World.drewN_drewN]⟩
      case measure => simp [intOf]; omega
    · have z1 : ¬ (k : Int) < (m : Int) := by omega
      go_wp2_with fail
      go_ret
      exact ⟨rfl, n, HN.out⟩
end Go.Proofs.YtapecobalkjdhaaDoor
