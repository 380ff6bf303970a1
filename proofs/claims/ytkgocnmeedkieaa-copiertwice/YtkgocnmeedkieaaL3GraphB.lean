/-
  Layer 3's statements: rows of nodes: what their helpers alike and stray tell. Condition: the rows lie in memory.
  Layer 3's statements: rows of nodes, of tags and of slices that their graph builds: what an append makes of them, and what it leaves as it is. No condition but that they lie in memory.
  Layer 3's statements: what their graph has built at each point of its way. Plain, and how it lies in memory.
-/
import Derived.Test.YtkgocnmeedkieaaL3See
import Derived.Deep.AppendLies
namespace Go.Proofs.Ytkgocnmeedkieaa
open Go.ChangeShapes Go.WideShapes Go.ChangeAt Go.RowKit Go.Deep
set_option linter.unusedVariables false
set_option maxHeartbeats 1000000

/-- Block g begins with the m nodes N. -/
def NS (w : World) (g m : Nat) (N : Nat → Int × Int × Int) : Prop := ∃ cur : Array Value, w.heap[g]? = some (.cells cur 86 (0, 0)) ∧ ∀ i, i < m → cur[i * 3]? = some (.int .i64 (N i).1) ∧ cur[i * 3 + 1]? = some (.int .i64 (N i).2.1) ∧ cur[i * 3 + 2]? = some (.int .u64 (N i).2.2)
variable {w w' : World} {g m : Nat} {N : Nat → Int × Int × Int}
theorem NS.cells (h : NS w g m N) {i : Nat} (hi : i < m) : w.cell? ⟨g, i * 3, none⟩ = some (.int .i64 (N i).1) ∧ w.cell? ⟨g, i * 3 + 1, none⟩ = some (.int .i64 (N i).2.1) ∧ w.cell? ⟨g, i * 3 + 2, none⟩ = some (.int .u64 (N i).2.2) := by
  obtain ⟨cur, hc, hn⟩ := h
  obtain ⟨h1, h2, h3⟩ := hn i hi
  simp [World.cell?, hc, h1, h2, h3]
theorem NS.of_block (h : NS w g m N) (e : w'.heap[g]? = w.heap[g]?) : NS w' g m N := by
  obtain ⟨cur, hc, hn⟩ := h; exact ⟨cur, e.trans hc, hn⟩
theorem NS.lt (h : NS w g m N) : g < w.heap.size := by obtain ⟨cur, hc, _⟩ := h; exact lt_of_some hc
theorem NS.drewN (h : NS w g m N) (n : Nat) : NS (w.drewN n) g m N := h
theorem alike_yes {g2 c1 c2 : Nat} {N2 : Nat → Int × Int × Int} (w : World) (h1 : NS w g m N) (h2 : NS w g2 m N2) (hm : m ≤ maxLen) (he : ∀ i, i < m → N i = N2 i) :
    Calls Try.prog 20 #[.slice (some ⟨g, 0, none⟩) m c1, .slice (some ⟨g2, 0, none⟩) m c2] w fun e w' => e = .returned (.bool true) ∧ ∃ k, w' = w.drewN k := by
  unfold maxLen at hm
  have HE : Hid _ := he
  clear he
  go_enter Try.func20, Try.ntmps20
  go_wp2
  go_loopw [13] (fun i wr => ∃ j k : Nat, j ≤ m ∧ i = .int .i64 j ∧ wr = w.drewN k) (fun i _ => m - (intOf i).toNat)
  case atStart => exact ⟨0, 0, Nat.zero_le _, rfl, rfl⟩
  case round =>
    obtain ⟨j, k, hj, rfl, hw⟩ := hrel
    have HW : Hid _ := hw
    by_cases hlt : j < m
    · have k1 : NS wr g m N := by rw [hw]; exact h1
      have k2 : NS wr g2 m N2 := by rw [hw]; exact h2
      obtain ⟨a1, a2, a3⟩ := k1.cells hlt
      obtain ⟨b1, b2, b3⟩ := k2.cells hlt
      rw [← HE.out j hlt] at b1 b2 b3
      have x1 : (0 : Int) ≤ (j : Int) := by omega
      have x2 : (j : Int) < (m : Int) := by omega
      generalize N j = n at *
      obtain ⟨n1, n2, n3⟩ := n
      simp only at a1 a2 a3 b1 b2 b3
      clear hw k1 k2 h1 h2
      go_wp2
      go_quiet (fail)
      go_wp2
      go_roundw
      case rel => exact ⟨j + 1, _, by omega, by go_num, by rw [HW.out]; exact World.drewN_drewN _ _ _⟩
      case measure => simp [intOf]; omega
    · clear hw
      go_wp2
      go_ret
      exact ⟨rfl, k, HW.out⟩
theorem risInt_is (x : Int) (b : Bool) (w : World) (h : 0 ≤ x) (h' : x ≤ 18446744073709551615) (hb : isIntW x = b) :
    Calls Try.prog 45 #[.int .u64 x] w fun e w' => e = .returned (.bool b) ∧ w' = w := by
  subst hb; exact risInt_any x w h h'
/-- A node that is a word that may lead to something in the other half. -/
def Stray (n : Int × Int × Int) : Prop := n.1 < 0 ∧ isIntW n.2.2 = false ∧ n.2.2 ≠ 0
theorem stray_any {c : Nat} {pa : Value} (w : World) (h : NS w g m N) (hm : m ≤ maxLen) (hr : ∀ i, i < m → -1 ≤ (N i).1 ∧ (N i).1 ≤ 1000000 ∧ 0 ≤ (N i).2.2 ∧ (N i).2.2 ≤ 18446744073709551615) :
    Calls Try.prog 19 #[pa, .slice (some ⟨g, 0, none⟩) m c] w fun e w' => ∃ b, e = .returned (.bool b) ∧ (b = false → ∀ i, i < m → ¬ Stray (N i)) ∧ w' = w := by
  unfold maxLen at hm
  have HR : Hid _ := hr
  clear hr
  go_enter Try.func19, Try.ntmps19
  go_wp2
  go_loop [8] (fun i => ∃ j : Nat, j ≤ m ∧ i = .int .i64 j ∧ Hid (∀ i, i < j → ¬ Stray (N i))) (fun i => m - (intOf i).toNat)
  case atStart => exact ⟨0, Nat.zero_le _, rfl, fun i hi => absurd hi (Nat.not_lt_zero _)⟩
  case round =>
    obtain ⟨j, hj, rfl, HS⟩ := hrel
    by_cases hlt : j < m
    · obtain ⟨a1, a2, a3⟩ := h.cells hlt
      obtain ⟨r1, r2, r3, r4⟩ := HR.out j hlt
      have HSN : Hid (¬ Stray (N j) → ∀ i, i < j + 1 → ¬ Stray (N i)) := by
        intro h1 i hi
        by_cases e : i < j
        · exact HS.out i e
        · have : i = j := by omega
          subst this; exact h1
      have x1 : (0 : Int) ≤ (j : Int) := by omega
      have x2 : (j : Int) < (m : Int) := by omega
      unfold Stray at HSN
      generalize N j = n at *
      obtain ⟨n1, n2, n3⟩ := n
      simp only at a1 a2 a3 r1 r2 r3 r4 HSN
      by_cases c1 : n1 < 0
      · cases c2 : isIntW n3
        · by_cases c3 : n3 = 0
          · have C3 : (n3 != 0) = false := by rw [c3]; rfl
            have HN : Hid (∀ i, i < j + 1 → ¬ Stray (N i)) := HSN.out (fun h => h.2.2 c3)
            have HC : Hid _ := c2
            clear c3 c2 HSN
            go_wp2_with (go_at_call 45; refine (risInt_is _ false _ (by omega) (by omega) HC.out).mono ?_; rintro e w' ⟨rfl, hw'⟩; rw [hw']; clear hw' w')
            all_goals go_round
            all_goals first | exact ⟨j + 1, by omega, by go_num, HN⟩ | (simp [intOf]; omega)
          · have C3 : (n3 != 0) = true := by rw [bne_iff_ne]; exact c3
            have HC : Hid _ := c2
            clear c3 c2 HSN
            go_wp2_with (go_at_call 45; refine (risInt_is _ false _ (by omega) (by omega) HC.out).mono ?_; rintro e w' ⟨rfl, hw'⟩; rw [hw']; clear hw' w')
            all_goals go_ret
            all_goals first | exact ⟨true, rfl, fun h => (by cases h), rfl⟩ | exact Or.inr ⟨rfl, rfl⟩
        · have HN : Hid (∀ i, i < j + 1 → ¬ Stray (N i)) := HSN.out (fun h => by have := h.2.1; rw [c2] at this; cases this)
          have HC : Hid _ := c2
          clear c2 HSN
          go_wp2_with (go_at_call 45; refine (risInt_is _ true _ (by omega) (by omega) HC.out).mono ?_; rintro e w' ⟨rfl, hw'⟩; rw [hw']; clear hw' w')
          all_goals go_round
          all_goals first | exact ⟨j + 1, by omega, by go_num, HN⟩ | (simp [intOf]; omega)
      · have HN : Hid (∀ i, i < j + 1 → ¬ Stray (N i)) := HSN.out (fun h => c1 h.1)
        clear HSN
        go_wp2_with fail
        all_goals go_round
        all_goals first | exact ⟨j + 1, by omega, by go_num, HN⟩ | (simp [intOf]; omega)
    · have HE : Hid (j = m) := by show _ = _; omega
      go_wp2
      go_ret
      have HF : ∀ i, i < m → ¬ Stray (N i) := by rw [← HE.out]; exact HS.out
      first
        | exact ⟨false, rfl, fun _ => HF, rfl⟩
        | exact Or.inl ⟨rfl, HF, rfl⟩
end Go.Proofs.Ytkgocnmeedkieaa

namespace Go.Proofs.Ytkgocnmeedkieaa
open Go.ChangeShapes Go.WideShapes Go.ChangeAt Go.RowKit Go.Deep
set_option linter.unusedVariables false
set_option maxHeartbeats 1000000

/-- What a look at a word may turn: the captured row's variable, and rows of words that were made since. -/
def SG (w : World) (B bm k : Nat) : Prop := k = bm ∨ (B ≤ k ∧ ∃ cur, w.heap[k]? = some (.cells cur 49 (0, 0)))
theorem sg_trans {w w1 w2 : World} {B bm : Nat} (h : Only (SG w B bm) w w1) (k : Only (SG w1 B bm) w1 w2) : Only (SG w B bm) w w2 := by
  refine ⟨k.os.trans h.os, k.tape.trans h.tape, k.output.trans h.output, Nat.le_trans h.size k.size, fun q hq hs => ?_⟩
  have e := h.block q hq hs
  refine (k.block q (Nat.lt_of_lt_of_le hq h.size) (fun hc => hs ?_)).trans e
  rcases hc with hc | ⟨hB, cur, hc⟩
  · exact Or.inl hc
  · exact Or.inr ⟨hB, cur, e ▸ hc⟩
variable {w w' : World} {B ba bm : Nat} {p : Pl} {s : St} {r : RS} {G : List Nat} {v : Value}
theorem sg_see (h : Met w B ba bm p s r G v) (k : Only (fun q => q = bm ∨ v.ownBlock = some q) w w') : Only (SG w B bm) w w' := by
  refine k.mono (fun q _ hq => ?_)
  rcases hq with e | e
  · exact Or.inl e
  · obtain ⟨cur, hc⟩ := own_row h.hv q e
    exact Or.inr ⟨own_ge h.hv q e, cur, hc⟩
theorem sg_not {w : World} {B bm g : Nat} {cur : Array Value} {t : TypeId} (hm : ∃ c, w.heap[bm]? = some (.cells c 23 (0, 0))) (hg : w.heap[g]? = some (.cells cur t (0, 0))) (h1 : t ≠ 49) (h2 : t ≠ 23) : ¬ SG w B bm g := by
  intro hs
  rcases hs with e | ⟨_, c, hc⟩
  · subst e
    obtain ⟨c, hc⟩ := hm
    rw [hg] at hc
    simp at hc
    exact h2 hc.2
  · rw [hg] at hc
    simp at hc
    exact h1 hc.2
/-- An append to a row of another type leaves what was met as it is. -/
theorem met_grown {w2 w3 : World} {o : Obj} {g : Nat} {cur : Array Value} {t : TypeId} (h : Met w2 B ba bm p s r G v) (hg : w2.heap[g]? = some (.cells cur t (0, 0))) (hB : B ≤ g) (h1 : t ≠ 49) (h2 : t ≠ 23) (h3 : t ≠ 25) (gr : (w2.alloc o).grownBy w3 (some g)) : Met w3 B ba bm p s r G v := by
  have k := only_grown gr
  obtain ⟨b1, b2, b3, b4⟩ := h.below
  refine ⟨(k.block _ (lt_of_some h.ha) ?_).trans h.ha, (k.block _ (lt_of_some h.hm) ?_).trans h.hm, owns_keep3 h.hv (fun q hq => ?_), h.ar.frame k (by omega) (by omega) (by omega) (by omega), h.below⟩
  · rintro rfl; have h4 := h.ha; rw [hg] at h4; simp at h4; exact h3 h4.2
  · rintro rfl; have h4 := h.hm; rw [hg] at h4; simp at h4; exact h2 h4.2
  · obtain ⟨c, hc⟩ := own_row h.hv q hq
    refine k.block q (lt_of_some hc) ?_
    rintro rfl
    rw [hg] at hc; simp at hc; exact h1 hc.2
/-- The cells of k nodes. -/
def flat3 (N : Nat → Int × Int × Int) : Nat → List Value
  | 0 => []
  | k + 1 => flat3 N k ++ [.int .i64 (N k).1, .int .i64 (N k).2.1, .int .u64 (N k).2.2]
theorem flat3_len (N : Nat → Int × Int × Int) : ∀ k, (flat3 N k).length = k * 3
  | 0 => rfl
  | k + 1 => by rw [flat3, List.length_append, flat3_len N k]; simp; omega
theorem flat3_at (N : Nat → Int × Int × Int) : ∀ k i, i < k → (flat3 N k)[i * 3]? = some (.int .i64 (N i).1) ∧ (flat3 N k)[i * 3 + 1]? = some (.int .i64 (N i).2.1) ∧ (flat3 N k)[i * 3 + 2]? = some (.int .u64 (N i).2.2)
  | 0, i, h => absurd h (Nat.not_lt_zero _)
  | k + 1, i, h => by
    rw [flat3]
    have hl := flat3_len N k
    by_cases e : i < k
    · obtain ⟨h1, h2, h3⟩ := flat3_at N k i e
      rw [List.getElem?_append_left (by omega), List.getElem?_append_left (by omega), List.getElem?_append_left (by omega)]
      exact ⟨h1, h2, h3⟩
    · have : i = k := by omega
      subst this
      rw [List.getElem?_append_right (by omega), List.getElem?_append_right (by omega), List.getElem?_append_right (by omega), hl]
      refine ⟨?_, ?_, ?_⟩
      · rw [Nat.sub_self]; rfl
      · rw [show i * 3 + 1 - i * 3 = 1 from by omega]; rfl
      · rw [show i * 3 + 2 - i * 3 = 2 from by omega]; rfl
theorem ns_of {w : World} {g n c B : Nat} {N : Nat → Int × Int × Int} (h : w.ownsRow B 86 3 (.slice (some ⟨g, 0, none⟩) n c) n (flat3 N n)) : NS w g n N ∧ B ≤ g := by
  rcases h.2 with ⟨e, _⟩ | ⟨g', cap, cur, e, hb, hg, hnc, _, hcs, htake⟩
  · cases e
  · simp only [Value.slice.injEq, Option.some.injEq, Addr.mk.injEq, and_true, true_and] at e
    obtain ⟨rfl, rfl⟩ := e
    refine ⟨⟨cur, hg, fun i hi => ?_⟩, hb⟩
    obtain ⟨h1, h2, h3⟩ := flat3_at N n i hi
    rw [← htake] at h1 h2 h3
    rw [List.getElem?_take, if_pos (by omega)] at h1 h2 h3
    exact ⟨by simpa using h1, by simpa using h2, by simpa using h3⟩
theorem row_is {w : World} {B g n c : Nat} {e : TypeId} {sz : Nat} {xs : List Value} (h : w.ownsRow B e sz (.slice (some ⟨g, 0, none⟩) n c) n xs) : ∃ cur, w.heap[g]? = some (.cells cur e (0, 0)) := own_row h g rfl
theorem Try.info86 : (Try.prog.info? 86).map (fun i => (i.zero, i.size, i.bytes)) = some (some (.agg #[.int .i64 0, .int .i64 0, .int .u64 0]), 3, 24) := by kernel_rfl
theorem infoI : (Try.prog.info? 3).map (fun i => (i.zero, i.size, i.bytes)) = some (some (.int .i64 0), 1, 8) := by kernel_rfl
theorem infoNs : (Try.prog.info? 39).map (fun i => (i.zero, i.size, i.bytes)) = some (some (.slice none 0 0), 1, 24) := by kernel_rfl
theorem append_node {w : World} {ops : Array Oper} {rest : List Oper} {o : Oper} {a : Act} {Q : Exit → Act → World → Prop} (hgd : o.guard = none) (s x : Operand)
    (ho : o.op = .call { callee := .builtin .append, args := #[s, x], argTypes := #[39, 39] }) (B g0 n c0 : Nat) (N : Nat → Int × Int × Int) (hs : a.eval s = .slice (some ⟨g0, 0, none⟩) n c0) (hown : w.ownsRow B 86 3 (.slice (some ⟨g0, 0, none⟩) n c0) n (flat3 N n))
    (gx c : Nat) (hx : a.eval x = .slice (some ⟨gx, 0, none⟩) 1 c) (hu : w.cell? ⟨gx, 0, none⟩ = some (.int .i64 (N n).1) ∧ w.cell? ⟨gx, 1, none⟩ = some (.int .i64 (N n).2.1) ∧ w.cell? ⟨gx, 2, none⟩ = some (.int .u64 (N n).2.2)) (hn : n ≤ 1000000) (hB : B ≤ w.heap.size)
    (h : ∀ g cap w', w'.ownsRow B 86 3 (.slice (some ⟨g, 0, none⟩) (n + 1) cap) (n + 1) (flat3 N (n + 1)) → w.grownBy w' (some g0) → (g0 = g ∨ g = w.heap.size) → wpList Try.prog ops Q rest (a.put o.dst (.slice (some ⟨g, 0, none⟩) (n + 1) cap)) w') : wpList Try.prog ops Q (o :: rest) a w := by
  obtain ⟨i0, hi, hz0, hz1, hz2⟩ := info_parts Try.info86
  refine wpList_append_lies w hgd s x 39 ho B 86 i0 _ 3 24 Try.underlying39 hi hz0 hz1 hz2 rfl (by decide) _ n _ hs hown ⟨gx, 0, none⟩ 1 c [.int .i64 (N n).1, .int .i64 (N n).2.1, .int .u64 (N n).2.2] hx rfl ?_ ?_ (by omega) (by unfold maxLen; omega) (by omega) hB _ rfl ?_
  · intro j y hy
    match j, hy with
    | 0, hy => simp at hy; subst hy; exact hu.1
    | 1, hy => simp at hy; subst hy; exact hu.2.1
    | 2, hy => simp at hy; subst hy; exact hu.2.2
  · intro y hy; simp at hy; rcases hy with rfl | rfl | rfl <;> rfl
  · intro g cap w' h1 h2 h3 _
    exact h g cap w' h1 h2 (h3.imp (fun e => by simpa [Value.ownBlock] using e) id)
/-- A row of k slices of nodes. -/
def rowV (V : Nat → Value) (k : Nat) : List Value := (List.range k).map V
theorem rowV_succ (V : Nat → Value) (k : Nat) : rowV V (k + 1) = rowV V k ++ [V k] := by unfold rowV; rw [List.range_succ, List.map_append]; rfl
theorem append_slice {w : World} {ops : Array Oper} {rest : List Oper} {o : Oper} {a : Act} {Q : Exit → Act → World → Prop} (hgd : o.guard = none) (s x : Operand)
    (ho : o.op = .call { callee := .builtin .append, args := #[s, x], argTypes := #[41, 41] }) (B g0 n c0 : Nat) (V : Nat → Value) (hs : a.eval s = .slice (some ⟨g0, 0, none⟩) n c0) (hown : w.ownsRow B 39 1 (.slice (some ⟨g0, 0, none⟩) n c0) n (rowV V n))
    (gx c : Nat) (hx : a.eval x = .slice (some ⟨gx, 0, none⟩) 1 c) (hu : w.cell? ⟨gx, 0, none⟩ = some (V n)) (hV : (V n).oneCell' = true) (hn : n ≤ 1000000) (hB : B ≤ w.heap.size)
    (h : ∀ g cap w', w'.ownsRow B 39 1 (.slice (some ⟨g, 0, none⟩) (n + 1) cap) (n + 1) (rowV V (n + 1)) → w.grownBy w' (some g0) → (g0 = g ∨ g = w.heap.size) → wpList Try.prog ops Q rest (a.put o.dst (.slice (some ⟨g, 0, none⟩) (n + 1) cap)) w') : wpList Try.prog ops Q (o :: rest) a w := by
  obtain ⟨i0, hi, hz0, hz1, hz2⟩ := info_parts infoNs
  refine wpList_append_lies w hgd s x 41 ho B 39 i0 _ 1 24 Try.underlying41 hi hz0 hz1 hz2 rfl (by decide) _ n _ hs hown ⟨gx, 0, none⟩ 1 c [V n] hx rfl ?_ ?_ (by omega) (by unfold maxLen; omega) (by omega) hB _ rfl ?_
  · intro j y hy
    match j, hy with
    | 0, hy => simp at hy; subst hy; exact hu
  · intro y hy; simp at hy; subst hy; exact hV
  · intro g cap w' h1 h2 h3 _
    exact h g cap w' (by rw [rowV_succ]; exact h1) h2 (h3.imp (fun e => by simpa [Value.ownBlock] using e) id)
theorem step_tag {w : World} {ops : Array Oper} {o : Oper} {a : Act} {K : Act → World → Prop} {Q : Exit → Act → World → Prop} {E : Prop} (hgd : o.guard = none) (s x : Operand)
    (ho : o.op = .call { callee := .builtin .append, args := #[s, x], argTypes := #[40, 40] }) (B g0 n c0 : Nat) (V : Nat → Value) (hs : a.eval s = .slice (some ⟨g0, 0, none⟩) n c0) (hown : w.ownsRow B 3 1 (.slice (some ⟨g0, 0, none⟩) n c0) n (rowV V n))
    (gx c : Nat) (hx : a.eval x = .slice (some ⟨gx, 0, none⟩) 1 c) (hu : w.cell? ⟨gx, 0, none⟩ = some (V n)) (hV : (V n).oneCell' = true) (hn : n ≤ 1000000) (hB : B ≤ w.heap.size)
    (h : ∀ g cap w', w'.ownsRow B 3 1 (.slice (some ⟨g, 0, none⟩) (n + 1) cap) (n + 1) (rowV V (n + 1)) → w.grownBy w' (some g0) → (g0 = g ∨ g = w.heap.size) → K (a.put o.dst (.slice (some ⟨g, 0, none⟩) (n + 1) cap)) w') : if Region.wanted o (yielded ops a.tmps) = true then o.wp Try.prog a w K Q else E := by
  obtain ⟨i0, hi, hz0, hz1, hz2⟩ := info_parts infoI
  refine step_append_lies (w := w) (E := E) hgd s x 40 ho B 3 i0 _ 1 8 Try.underlying40 hi hz0 hz1 hz2 rfl (by decide) _ n _ hs hown ⟨gx, 0, none⟩ 1 c [V n] hx rfl ?_ ?_ (by omega) (by unfold maxLen; omega) (by omega) hB _ rfl ?_
  · intro j y hy
    match j, hy with
    | 0, hy => simp at hy; subst hy; exact hu
  · intro y hy; simp at hy; subst hy; exact hV
  · intro g cap w' h1 h2 h3 _
    exact h g cap w' (by rw [rowV_succ]; exact h1) h2 (h3.imp (fun e => by simpa [Value.ownBlock] using e) id)
end Go.Proofs.Ytkgocnmeedkieaa

namespace Go.Proofs.Ytkgocnmeedkieaa
open Go.ChangeShapes Go.WideShapes Go.ChangeAt Go.RowKit Go.Deep
set_option linter.unusedVariables false
set_option maxHeartbeats 1000000
variable {s : St} {r : RS}

theorem gNode_ext {G T : List Nat} {x : Int} (h : ∀ i, leadI s r x = some i → i ∈ G) : gNode s r (G ++ T) x = gNode s r G x := by
  cases e : leadI s r x with
  | none => rw [gNode_none e, gNode_none e]
  | some i => rw [gNode_some e, gNode_some e, List.idxOf_append, if_pos (h i e)]
theorem gNode_see {G T RG : List Nat} {x : Int} (h : RG = visit s r G x ++ T) : gNode s r (visit s r G x) x = gNode s r RG x := by
  rw [h]; exact (gNode_ext (fun i e => visit_has e)).symm
/-- What is told of field k of a block. -/
def nodeF (s : St) (r : RS) (RG : List Nat) (b : Blk) (k : Nat) : Int × Int × Int := if b.tag = 202 then (-1, 0, b.F.getD k 0) else gNode s r RG (b.F.getD k 0)
/-- What was met behind k fields of a block. -/
def inG (s : St) (r : RS) (G0 : List Nat) (b : Blk) (k : Nat) : List Nat := if b.tag = 202 then G0 else visits s r G0 (b.F.take k)
theorem inG_zero (G0 : List Nat) (b : Blk) : inG s r G0 b 0 = G0 := by unfold inG; split <;> rfl
theorem inG_text {G0 : List Nat} {b : Blk} (ht : b.tag = 202) (k : Nat) : inG s r G0 b (k + 1) = inG s r G0 b k := by unfold inG; rw [if_pos ht, if_pos ht]
theorem inG_words {G0 : List Nat} {b : Blk} (ht : ¬ b.tag = 202) {k : Nat} (hk : k < b.F.length) : inG s r G0 b (k + 1) = visit s r (inG s r G0 b k) (b.F.getD k 0) := by
  unfold inG
  rw [if_neg ht, if_neg ht, List.take_add_one, visits_append, List.getElem?_eq_getElem hk, List.getD_eq_getElem?_getD, List.getElem?_eq_getElem hk]
  rfl
theorem inG_ext (G0 : List Nat) (b : Blk) (k : Nat) : ∃ T, inG s r G0 b k = G0 ++ T := by
  unfold inG
  split
  · exact ⟨[], by simp⟩
  · exact visits_ext _ _
theorem inG_good (hr : Rep s r) {G0 : List Nat} (hG : GoodG r G0) (b : Blk) (k : Nat) : GoodG r (inG s r G0 b k) := by
  unfold inG
  split
  · exact hG
  · exact visits_good hr _ hG
theorem inG_end {xs : List Int} {i g : Nat} (hg : (scans s r xs i)[i]? = some g) : inG s r (scans s r xs i) (blkAt r g) (blkAt r g).F.length = scans s r xs (i + 1) := by
  rw [scans_succ]
  unfold scan1 inG
  rw [hg]
  show _ = visits s r _ (wordsOf (blkAt r g))
  unfold wordsOf
  by_cases ht : (blkAt r g).tag = 202
  · rw [if_pos ht, if_pos ht]; rfl
  · rw [if_neg ht, if_neg ht, List.take_length]
theorem inG_pre (hr : Rep s r) {xs : List Int} {i g : Nat} (hg : (scans s r xs i)[i]? = some g) (k : Nat) : ∃ T, reachG s r xs = inG s r (scans s r xs i) (blkAt r g) k ++ T := by
  have hi := (List.getElem?_eq_some_iff.1 hg).1
  have hl := (goodG_len (scans_good hr xs i)).2
  obtain ⟨T1, h1⟩ := scans_ext (s := s) (r := r) xs (show i + 1 ≤ r.L.length by omega)
  have h2 : ∃ T2, inG s r (scans s r xs i) (blkAt r g) (blkAt r g).F.length = inG s r (scans s r xs i) (blkAt r g) k ++ T2 := by
    unfold inG
    by_cases ht : (blkAt r g).tag = 202
    · rw [if_pos ht, if_pos ht]; exact ⟨[], by simp⟩
    · rw [if_neg ht, if_neg ht, List.take_length]
      have e : (blkAt r g).F = (blkAt r g).F.take k ++ (blkAt r g).F.drop k := (List.take_append_drop k _).symm
      obtain ⟨T2, h3⟩ := visits_ext (s := s) (r := r) ((blkAt r g).F.drop k) (visits s r (scans s r xs i) ((blkAt r g).F.take k))
      exact ⟨T2, by rw [← h3, ← visits_append, ← e]⟩
  obtain ⟨T2, h2⟩ := h2
  rw [inG_end hg] at h2
  exact ⟨T2 ++ T1, by show scans s r xs r.L.length = _; rw [h1, h2, List.append_assoc]⟩
theorem first_pre (X : Nat → Int) {j m : Nat} (h : j ≤ m) : ∃ T, reachG s r (listX X m) = visits s r [] (listX X j) ++ T := by
  have h1 : ∃ T, visits s r [] (listX X m) = visits s r [] (listX X j) ++ T := by
    have e : listX X m = listX X j ++ (listX X m).drop j := by
      have : (listX X m).take j = listX X j := by unfold listX; rw [← List.map_take, List.take_range, Nat.min_eq_left h]
      rw [← this, List.take_append_drop]
    rw [e, visits_append]
    exact visits_ext _ _
  obtain ⟨T, hT⟩ := h1
  obtain ⟨T2, hT2⟩ := scans_ext (s := s) (r := r) (listX X m) (Nat.zero_le r.L.length)
  exact ⟨T ++ T2, by show scans s r (listX X m) r.L.length = _; rw [hT2, scans_zero, hT, List.append_assoc]⟩
theorem pre_at {G T RG : List Nat} (h : RG = G ++ T) {i g : Nat} (hg : G[i]? = some g) : RG.getD i 0 = g := by
  rw [h, List.getD_eq_getElem?_getD, List.getElem?_append_left (List.getElem?_eq_some_iff.1 hg).1, hg]; rfl
def tagV (r : RS) (RG : List Nat) (k : Nat) : Value := .int .i64 (blkAt r (RG.getD k 0)).tag
def fldV (r : RS) (RG : List Nat) (hs cs : Nat → Nat) (k : Nat) : Value := .slice (some ⟨hs k, 0, none⟩) (blkAt r (RG.getD k 0)).F.length (cs k)
/-- What the graph has built: the roots' nodes, and of the first n blocks their tags and what their fields are. -/
structure Gr (w : World) (B : Nat) (s : St) (r : RS) (RG : List Nat) (X : Nat → Int) (m nt n gf gt ct gl cl : Nat) (hs cs : Nat → Nat) : Prop where
  first : NS w gf m (fun i => gNode s r RG (X i))
  tags : w.ownsRow B 3 1 (.slice (some ⟨gt, 0, none⟩) nt ct) nt (rowV (tagV r RG) nt)
  flds : w.ownsRow B 39 1 (.slice (some ⟨gl, 0, none⟩) n cl) n (rowV (fldV r RG hs cs) n)
  nodes : ∀ k, k < n → NS w (hs k) (blkAt r (RG.getD k 0)).F.length (nodeF s r RG (blkAt r (RG.getD k 0)))
  lo : B ≤ gf ∧ ∀ k, k < n → B ≤ hs k
theorem NS.ty {w : World} {g m : Nat} {N : Nat → Int × Int × Int} (h : NS w g m N) : ∃ cur, w.heap[g]? = some (.cells cur 86 (0, 0)) := by obtain ⟨cur, hc, _⟩ := h; exact ⟨cur, hc⟩
theorem Gr.frame {w w' : World} {B m nt n gf gt ct gl cl : Nat} {RG : List Nat} {X : Nat → Int} {hs cs : Nat → Nat} {S : Nat → Prop} (h : Gr w B s r RG X m nt n gf gt ct gl cl hs cs) (k : Only S w w') (hS : ∀ q cur t, B ≤ q → w.heap[q]? = some (.cells cur t (0, 0)) → (t = 86 ∨ t = 3 ∨ t = 39) → ¬ S q) : Gr w' B s r RG X m nt n gf gt ct gl cl hs cs := by
  obtain ⟨c1, e1⟩ := h.first.ty
  obtain ⟨c2, e2⟩ := row_is h.tags
  obtain ⟨c3, e3⟩ := row_is h.flds
  have g2 := own_ge h.tags gt rfl
  have g3 := own_ge h.flds gl rfl
  refine ⟨h.first.of_block (k.block _ (lt_of_some e1) (hS _ _ _ h.lo.1 e1 (Or.inl rfl))), owns_keep3 h.tags (fun q hq => ?_), owns_keep3 h.flds (fun q hq => ?_), fun i hi => ?_, h.lo⟩
  · have : gt = q := by simpa [Value.ownBlock] using hq
    subst this
    exact k.block _ (lt_of_some e2) (hS _ _ _ g2 e2 (Or.inr (Or.inl rfl)))
  · have : gl = q := by simpa [Value.ownBlock] using hq
    subst this
    exact k.block _ (lt_of_some e3) (hS _ _ _ g3 e3 (Or.inr (Or.inr rfl)))
  · obtain ⟨c4, e4⟩ := (h.nodes i hi).ty
    exact (h.nodes i hi).of_block (k.block _ (lt_of_some e4) (hS _ _ _ (h.lo.2 i hi) e4 (Or.inl rfl)))
theorem Gr.sg {w w' : World} {B bm m nt n gf gt ct gl cl : Nat} {RG : List Nat} {X : Nat → Int} {hs cs : Nat → Nat} (h : Gr w B s r RG X m nt n gf gt ct gl cl hs cs) (hm : ∃ c, w.heap[bm]? = some (.cells c 23 (0, 0))) (k : Only (SG w B bm) w w') : Gr w' B s r RG X m nt n gf gt ct gl cl hs cs :=
  h.frame k (fun q cur t _ hq ht => sg_not hm hq (by rcases ht with rfl | rfl | rfl <;> decide) (by rcases ht with rfl | rfl | rfl <;> decide))
theorem Gr.below {w w' : World} {B m nt n gf gt ct gl cl : Nat} {RG : List Nat} {X : Nat → Int} {hs cs : Nat → Nat} (h : Gr w B s r RG X m nt n gf gt ct gl cl hs cs) (k : Below w.heap.size w w') : Gr w' B s r RG X m nt n gf gt ct gl cl hs cs :=
  h.frame (S := fun _ => False) (Only.of_below k) (fun _ _ _ _ _ _ => id)
/-- The next tag. -/
theorem Gr.tagged {w w' : World} {o : Obj} {B m nt n gf gt ct gl cl g' c' : Nat} {RG : List Nat} {X : Nat → Int} {hs cs : Nat → Nat} (h : Gr w B s r RG X m nt n gf gt ct gl cl hs cs) (gr : (w.alloc o).grownBy w' (some gt)) (hr' : w'.ownsRow B 3 1 (.slice (some ⟨g', 0, none⟩) (nt + 1) c') (nt + 1) (rowV (tagV r RG) (nt + 1))) : Gr w' B s r RG X m (nt + 1) n gf g' c' gl cl hs cs := by
  have k := only_grown gr
  obtain ⟨c1, e1⟩ := h.first.ty
  obtain ⟨c2, e2⟩ := row_is h.tags
  obtain ⟨c3, e3⟩ := row_is h.flds
  have ne : ∀ q cur t, w.heap[q]? = some (.cells cur t (0, 0)) → t ≠ 3 → ¬ q = gt := by
    rintro q cur t hq ht rfl
    rw [e2] at hq; simp at hq; exact ht hq.2.symm
  refine ⟨h.first.of_block (k.block _ (lt_of_some e1) (ne _ _ _ e1 (by decide))), hr', owns_keep3 h.flds (fun q hq => ?_), fun i hi => ?_, h.lo⟩
  · have : gl = q := by simpa [Value.ownBlock] using hq
    subst this
    exact k.block _ (lt_of_some e3) (ne _ _ _ e3 (by decide))
  · obtain ⟨c4, e4⟩ := (h.nodes i hi).ty
    exact (h.nodes i hi).of_block (k.block _ (lt_of_some e4) (ne _ _ _ e4 (by decide)))
theorem rowV_congr {V V' : Nat → Value} {n : Nat} (h : ∀ k, k < n → V k = V' k) : rowV V n = rowV V' n := by
  unfold rowV
  exact List.map_congr_left (fun k hk => h k (List.mem_range.1 hk))
def updG (gs : Nat → Nat) (j gn k : Nat) : Nat := if k = j then gn else gs k
theorem updG_same (gs : Nat → Nat) (j gn : Nat) : updG gs j gn j = gn := if_pos rfl
theorem updG_ne (gs : Nat → Nat) {j gn k : Nat} (h : k ≠ j) : updG gs j gn k = gs k := if_neg h
theorem fldV_upd (r : RS) (RG : List Nat) (hs cs : Nat → Nat) (n gL cL : Nat) : rowV (fldV r RG (updG hs n gL) (updG cs n cL)) n = rowV (fldV r RG hs cs) n :=
  rowV_congr (fun k hk => by unfold fldV; rw [updG_ne hs (by omega), updG_ne cs (by omega)])
theorem fldV_new (r : RS) (RG : List Nat) (hs cs : Nat → Nat) (n gL cL : Nat) : fldV r RG (updG hs n gL) (updG cs n cL) n = .slice (some ⟨gL, 0, none⟩) (blkAt r (RG.getD n 0)).F.length cL := by
  unfold fldV; rw [updG_same, updG_same]
/-- The next block's fields. -/
theorem Gr.fielded {w w' : World} {o : Obj} {B m nt n gf gt ct gl cl g' c' gL cL : Nat} {RG : List Nat} {X : Nat → Int} {hs cs : Nat → Nat} (h : Gr w B s r RG X m nt n gf gt ct gl cl hs cs) (gr : (w.alloc o).grownBy w' (some gl)) (hr' : w'.ownsRow B 39 1 (.slice (some ⟨g', 0, none⟩) (n + 1) c') (n + 1) (rowV (fldV r RG (updG hs n gL) (updG cs n cL)) (n + 1)))
    (hN : NS w gL (blkAt r (RG.getD n 0)).F.length (nodeF s r RG (blkAt r (RG.getD n 0)))) (hB : B ≤ gL) : Gr w' B s r RG X m nt (n + 1) gf gt ct g' c' (updG hs n gL) (updG cs n cL) := by
  have k := only_grown gr
  obtain ⟨c1, e1⟩ := h.first.ty
  obtain ⟨c2, e2⟩ := row_is h.tags
  obtain ⟨c3, e3⟩ := row_is h.flds
  have ne : ∀ q cur t, w.heap[q]? = some (.cells cur t (0, 0)) → t ≠ 39 → ¬ q = gl := by
    rintro q cur t hq ht rfl
    rw [e3] at hq; simp at hq; exact ht hq.2.symm
  refine ⟨h.first.of_block (k.block _ (lt_of_some e1) (ne _ _ _ e1 (by decide))), owns_keep3 h.tags (fun q hq => ?_), hr', fun i hi => ?_, h.lo.1, fun i hi => ?_⟩
  · have : gt = q := by simpa [Value.ownBlock] using hq
    subst this
    exact k.block _ (lt_of_some e2) (ne _ _ _ e2 (by decide))
  · by_cases e : i = n
    · subst e
      rw [updG_same]
      obtain ⟨c4, e4⟩ := hN.ty
      exact hN.of_block (k.block _ (lt_of_some e4) (ne _ _ _ e4 (by decide)))
    · rw [updG_ne hs e]
      have hi' : i < n := by omega
      obtain ⟨c4, e4⟩ := (h.nodes i hi').ty
      exact (h.nodes i hi').of_block (k.block _ (lt_of_some e4) (ne _ _ _ e4 (by decide)))
  · by_cases e : i = n
    · subst e; rw [updG_same]; exact hB
    · rw [updG_ne hs e]; exact h.lo.2 i (by omega)
theorem row_sg {w w' : World} {B bm Bx : Nat} {e : TypeId} {sz n : Nat} {v : Value} {xs : List Value} (h : w.ownsRow Bx e sz v n xs) (hm : ∃ c, w.heap[bm]? = some (.cells c 23 (0, 0))) (k : Only (SG w B bm) w w') (h1 : e ≠ 49) (h2 : e ≠ 23) : w'.ownsRow Bx e sz v n xs :=
  owns_keep3 h (fun q hq => by
    obtain ⟨c, hc⟩ := own_row h q hq
    exact k.block _ (lt_of_some hc) (sg_not hm hc h1 h2))
theorem below_app {w w3 w4 : World} {B g : Nat} {o : Obj} (h : Below B w w3) (hB : B ≤ w.heap.size) (gr : (w3.alloc o).grownBy w4 (some g)) (hg : B ≤ g) : Below B w w4 :=
  h.trans ((only_grown gr).below (Nat.le_trans hB h.size) (fun k hk e => by omega))
theorem sg_app {w1 w3 w4 : World} {B bm g : Nat} {o : Obj} (h : Only (SG w1 B bm) w1 w3) (gr : (w3.alloc o).grownBy w4 (some g)) (hg : w1.heap.size ≤ g) : Only (SG w1 B bm) w1 w4 :=
  ⟨gr.os.trans h.os, gr.tape.trans h.tape, gr.output.trans h.output, Nat.le_trans h.size ((only_grown gr).size), fun k hk hs => ((only_grown gr).block k (Nat.lt_of_lt_of_le hk h.size) (by omega)).trans (h.block k hk hs)⟩
theorem sg_below {w w1 : World} {B bm : Nat} (h : Only (SG w B bm) w w1) (hB : B ≤ w.heap.size) (hm : B ≤ bm) : Below B w w1 :=
  h.below hB (fun k hk hs => by rcases hs with e | ⟨e, _⟩ <;> omega)
theorem three_new (w : World) (a b c : Value) (t : TypeId) : (w.alloc (.cells #[a, b, c] t)).cell? ⟨w.heap.size, 0, none⟩ = some a ∧ (w.alloc (.cells #[a, b, c] t)).cell? ⟨w.heap.size, 1, none⟩ = some b ∧ (w.alloc (.cells #[a, b, c] t)).cell? ⟨w.heap.size, 2, none⟩ = some c := (three_cells (blk_alloc_new w _)).1
theorem one_new (w : World) (a : Value) (t : TypeId) : (w.alloc (.cells #[a] t)).cell? ⟨w.heap.size, 0, none⟩ = some a := (one_cell (blk_alloc_new w _)).1
theorem cell_keep {w w' : World} {g k : Nat} {v : Value} (h : w.cell? ⟨g, k, none⟩ = some v) (e : w'.heap[g]? = w.heap[g]?) : w'.cell? ⟨g, k, none⟩ = some v := (World.cell?_of_block (w := w) e).trans h
theorem rowV_cell {w : World} {B g n c k : Nat} {e : TypeId} {V : Nat → Value} (h : w.ownsRow B e 1 (.slice (some ⟨g, 0, none⟩) n c) n (rowV V n)) (hk : k < n) : w.cell? ⟨g, k, none⟩ = some (V k) := by
  rcases h.2 with ⟨e', _⟩ | ⟨g', cap, cur, e', hb, hg, hnc, _, hcs, htake⟩
  · cases e'
  · simp only [Value.slice.injEq, Option.some.injEq, Addr.mk.injEq, and_true, true_and] at e'
    obtain ⟨rfl, rfl⟩ := e'
    have : (cur.toList.take (n * 1))[k]? = some (V k) := by rw [htake]; unfold rowV; simp [hk]
    rw [List.getElem?_take, if_pos (by omega)] at this
    simp [World.cell?, hg]
    simpa using this
theorem met_at {w : World} {B ba bm g c k i : Nat} {p : Pl} {G : List Nat} (h : Met w B ba bm p s r G (.slice (some ⟨g, 0, none⟩) G.length c)) (hk : G[k]? = some i) : w.cell? ⟨g, k, none⟩ = some (.int .u64 (2 * ((blkAt r i).ad : Int))) := by
  obtain ⟨al, c', e, hc⟩ := met_cell h.hv
  simp only [Value.slice.injEq] at e
  obtain ⟨rfl, _, rfl⟩ := e
  obtain ⟨g', e2, hc'⟩ := hc k i hk
  have : g = g' := by simpa using e2
  subst this
  exact hc'
end Go.Proofs.Ytkgocnmeedkieaa
