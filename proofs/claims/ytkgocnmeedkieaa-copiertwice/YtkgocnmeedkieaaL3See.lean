/-
  Layer 3's statements: what their graph's closure tells of a word, and what it notes. Condition: the arena, and what was met, lie in memory.
-/
import Derived.Test.YtkgocnmeedkieaaL3Lay
import Derived.Test.YtkgocnmeedkieaaPlainTwice
import Derived.Laws.Rows
namespace Go.Proofs.Ytkgocnmeedkieaa
open Go.ChangeShapes Go.WideShapes Go.ChangeAt Go.RowKit Go.Deep
set_option linter.unusedVariables false
set_option maxHeartbeats 2000000

/-- What was met lies in memory, beside the arena. -/
structure Met (w : World) (B ba bm : Nat) (p : Pl) (s : St) (r : RS) (G : List Nat) (v : Value) : Prop where
  ha : w.heap[ba]? = some (.cells #[.pointer (some ⟨p.a, 0, none⟩)] 25 (0, 0))
  hm : w.heap[bm]? = some (.cells #[v] 23 (0, 0))
  hv : w.ownsRow B 49 1 v G.length (G.map fun i : Nat => Value.int .u64 (2 * ((blkAt r i).ad : Int)))
  ar : Ar w p s
  below : p.a < B ∧ p.h < B ∧ p.c < B ∧ p.b < B
variable {w : World} {B ba bm : Nat} {p : Pl} {s : St} {r : RS} {G : List Nat} {v : Value}
theorem one_cell {w : World} {b : Nat} {x : Value} {t : TypeId} (h : w.heap[b]? = some (.cells #[x] t (0, 0))) : w.cell? ⟨b, 0, none⟩ = some x ∧ w.frozen? ⟨b, 0, none⟩ = false := by
  simp [World.cell?, World.frozen?, h]
theorem owns_keep3 {w w' : World} {B : Nat} {e : TypeId} {sz : Nat} {v : Value} {n : Nat} {xs : List Value} (h : w.ownsRow B e sz v n xs) (hk : ∀ g, v.ownBlock = some g → w'.heap[g]? = w.heap[g]?) : w'.ownsRow B e sz v n xs := by
  refine ⟨h.1, ?_⟩
  rcases h.2 with h2 | ⟨g, c, cur, hv, hge, hh, rest⟩
  · exact .inl h2
  · exact .inr ⟨g, c, cur, hv, hge, (hk g (by rw [hv]; rfl)).trans hh, rest⟩
theorem Met.below' {w' : World} (h : Met w B ba bm p s r G v) (hb : Below w.heap.size w w') : Met w' B ba bm p s r G v := by
  refine ⟨(hb.block _ (lt_of_some h.ha)).trans h.ha, (hb.block _ (lt_of_some h.hm)).trans h.hm, owns_keep3 h.hv (fun g hg => ?_), h.ar.frame (S := fun _ => False) (Only.of_below hb) id id id id, h.below⟩
  obtain ⟨cur, hc⟩ := own_row h.hv g hg
  exact hb.block _ (lt_of_some hc)
theorem Met.drewN (h : Met w B ba bm p s r G v) (n : Nat) : Met (w.drewN n) B ba bm p s r G v := ⟨h.ha, h.hm, h.hv, h.ar.drewN n, h.below⟩
theorem see_start (h : Met w B ba bm p s r G v) (m : Nat) {w1 : World} (e : w1 = (w.alloc (.cells #[.int .i64 0, .int .i64 0, .int .u64 0] 86)).drewN m) :
    Met w1 B ba bm p s r G v ∧ Below w.heap.size w w1 ∧ w1.heap[w.heap.size]? = some (.cells #[.int .i64 0, .int .i64 0, .int .u64 0] 86 (0, 0)) := by
  have hb : Below w.heap.size w (w.alloc (.cells #[.int .i64 0, .int .i64 0, .int .u64 0] 86)) := (Below.refl _ _).alloc (Nat.le_refl _) _
  rw [e]
  exact ⟨(h.below' hb).drewN m, below_drewN hb m, blk_alloc_new _ _⟩
theorem alloc_cell {w : World} {b : Nat} {x : Value} (hl : b < w.heap.size) (h : w.cell? ⟨b, 0, none⟩ = some x) : ∀ o, (w.alloc o).cell? ⟨b, 0, none⟩ = some x := fun o => (World.cell?_of_block (w := w) (blk_alloc_lt _ _ _ hl)).trans h
theorem three_store {w : World} {q : Nat} {x0 x1 x2 : Value} {t : TypeId} (h : w.heap[q]? = some (.cells #[x0, x1, x2] t (0, 0))) (a b c : Value) : (((w.setCell ⟨q, 0, none⟩ a).setCell ⟨q, 1, none⟩ b).setCell ⟨q, 2, none⟩ c).heap[q]? = some (.cells #[a, b, c] t (0, 0)) := by
  simp [World.setCell, Array.getElem?_modify, h]
theorem below_store {w w1 : World} {q : Nat} (h : Below w.heap.size w w1) (hq : w.heap.size ≤ q) (a b c : Value) : Below w.heap.size w (((w1.setCell ⟨q, 0, none⟩ a).setCell ⟨q, 1, none⟩ b).setCell ⟨q, 2, none⟩ c) :=
  ((h.setCell (p := ⟨q, 0, none⟩) hq a).setCell (p := ⟨q, 1, none⟩) hq b).setCell (p := ⟨q, 2, none⟩) hq c
set_option maxRecDepth 100000 in
theorem see_none (x : Int) (w : World) (h : Met w B ba bm p s r G v) (h0 : 0 ≤ x) (h1 : x ≤ 18446744073709551615) (g : (s.find x).1 = 0) :
    Calls Try.prog 44 #[.int .u64 x, .pointer (some ⟨ba, 0, none⟩), .pointer (some ⟨bm, 0, none⟩)] w fun e w' => e = .returned (.agg #[.int .i64 (-1), .int .i64 0, .int .u64 x]) ∧ Below w.heap.size w w' := by
  obtain ⟨c0, c1⟩ := one_cell h.ha
  have c0a := alloc_cell (lt_of_some h.ha) c0
  have HG : Hid (2 * (s.find x).1 = 0) := by show _ = _; omega
  have HA : Hid (Ar (w.alloc (.cells #[.int .i64 0, .int .i64 0, .int .u64 0] 86)) p s) := h.ar.alloc _
  clear g
  go_enter Try.func44, Try.ntmps44
  go_wp2_with (go_at_call 26; refine (leads_at x 0 _ _ HA.out h0 h1 HG.out rfl).mono ?_; rintro e w1 ⟨rfl, m, hw1⟩; obtain ⟨h2, b2, n2⟩ := see_start h m hw1; obtain ⟨⟨q0, q1, q2⟩, q3⟩ := three_cells n2; clear hw1)
  (try simp only [Exit.inBlock, Exit.then])
  refine bodyPost_ret (results_cell_row rfl _ _ w.heap.size 86 #[.int .i64 (-1), .int .i64 0, .int .u64 x] (0, 0) _ rfl (three_store n2 _ _ _) Try.underlying86 rfl (by kernel_rfl)) rfl ?_
  exact ⟨rfl, below_store b2 (Nat.le_refl _) _ _ _⟩
theorem met_cell {w : World} {B : Nat} {v : Value} {G : List Nat} {f : Nat → Int} (h : w.ownsRow B 49 1 v G.length (G.map fun i : Nat => Value.int .u64 (f i))) : ∃ (al : Option Addr) (c : Nat), v = .slice al G.length c ∧ ∀ (k i : Nat), G[k]? = some i → ∃ g, al = some ⟨g, 0, none⟩ ∧ w.cell? ⟨g, k, none⟩ = some (.int .u64 (f i)) := by
  rcases h.2 with ⟨e, e0⟩ | ⟨g, cap, cur, hv, hb, hg, hnc, _, hcs, htake⟩
  · refine ⟨none, 0, by rw [e, e0], fun k i hk => ?_⟩
    have := (List.getElem?_eq_some_iff.1 hk).1
    omega
  · refine ⟨some ⟨g, 0, none⟩, cap, hv, fun k i hk => ⟨g, rfl, ?_⟩⟩
    have hl := (List.getElem?_eq_some_iff.1 hk).1
    have : (cur.toList.take (G.length * 1))[k]? = some (.int .u64 (f i)) := by rw [htake]; simp [hk]
    rw [List.getElem?_take, if_pos (by omega)] at this
    have e2 : cur[k]? = some (.int .u64 (f i)) := by simpa using this
    simp [World.cell?, hg, e2]
theorem idx_spec3 : ∀ (G : List Nat) (i : Nat), i ∈ G → G[G.idxOf i]? = some i ∧ ∀ j, j < G.idxOf i → G[j]? ≠ some i := by
  intro G
  induction G with
  | nil => intro i h; cases h
  | cons x l ih =>
    intro i h
    by_cases e : x = i
    · subst e
      rw [List.idxOf_cons_self]
      exact ⟨rfl, fun j hj => absurd hj (Nat.not_lt_zero _)⟩
    · have hi : i ∈ l := by
        rcases List.mem_cons.1 h with h | h
        · exact absurd h.symm e
        · exact h
      obtain ⟨h1, h2⟩ := ih i hi
      have ei : (x :: l).idxOf i = l.idxOf i + 1 := by rw [List.idxOf_cons, beq_eq_false_iff_ne.2 e]; rfl
      rw [ei]
      refine ⟨by simpa using h1, fun j hj => ?_⟩
      cases j with
      | zero => simp; exact e
      | succ j => simp; exact h2 j (by omega)
set_option maxRecDepth 100000 in
theorem see_old (x : Int) (i k A : Nat) (w : World) (h : Met w B ba bm p s r G v) (h0 : 0 ≤ x) (h1 : x ≤ 18446744073709551615) (hA : (blkAt r i).ad = A) (hA1 : 1 ≤ A) (hA2 : A ≤ 100000) (g : (s.find x).1 = A) (hk : G[k]? = some i) (hj : ∀ j u, j < k → G[j]? = some u → (blkAt r u).ad ≠ A) (hgl : G.length ≤ 100000) :
    Calls Try.prog 44 #[.int .u64 x, .pointer (some ⟨ba, 0, none⟩), .pointer (some ⟨bm, 0, none⟩)] w fun e w' => e = .returned (.agg #[.int .i64 k, .int .i64 (s.find x).2, .int .u64 0]) ∧ Below w.heap.size w w' := by
  obtain ⟨c0, c1⟩ := one_cell h.ha
  have c0a := alloc_cell (lt_of_some h.ha) c0
  have HG : Hid (2 * (s.find x).1 = 2 * (A : Int)) := by show _ = _; omega
  have HA : Hid (Ar (w.alloc (.cells #[.int .i64 0, .int .i64 0, .int .u64 0] 86)) p s) := h.ar.alloc _
  have HK : Hid _ := hk
  have HJ : Hid _ := hj
  have HAA : Hid _ := hA
  have hkl := (List.getElem?_eq_some_iff.1 hk).1
  have hz : ((2 * (A : Int)) == 0) = false := by rw [beq_eq_false_iff_ne]; omega
  clear g hk hj hA
  go_enter Try.func44, Try.ntmps44
  go_wp2_with (go_at_call 26; refine (leads_at x (2 * (A : Int)) _ _ HA.out h0 h1 HG.out rfl).mono ?_; rintro e w1 ⟨rfl, m, hw1⟩; obtain ⟨h2, b2, n2⟩ := see_start h m hw1; obtain ⟨⟨q0, q1, q2⟩, q3⟩ := three_cells n2; obtain ⟨d0, d1⟩ := one_cell h2.hm; obtain ⟨al, cg, hvv, hcell⟩ := met_cell h2.hv; have HV := hidden hvv; rw [hvv] at d0; have HC := hidden hcell; clear hw1 hvv hcell)
  generalize hD : (s.find x).2 = D at *
  have HD : Hid _ := hD
  clear hD
  go_loop [20] (fun v => ∃ j : Nat, j ≤ k ∧ v = .int .i64 j) (fun v => k - (intOf v).toNat)
  case atStart => exact ⟨0, Nat.zero_le _, rfl⟩
  case round =>
    obtain ⟨j, hj, rfl⟩ := hrel
    by_cases hlt : j < k
    · obtain ⟨gg, rfl, hcg⟩ := HC.out j _ (List.getElem?_eq_getElem (by omega))
      have hne : ((2 * ((blkAt r (G[j]'(by omega))).ad : Int)) == 2 * (A : Int)) = false := by
        rw [beq_eq_false_iff_ne]
        intro e
        exact HJ.out j _ hlt (List.getElem?_eq_getElem (by omega)) (by omega)
      generalize (blkAt r (G[j]'(by omega))).ad = u at *
      go_wp2
      go_round
      case rel => exact ⟨j + 1, by omega, by go_num⟩
      case measure => simp [intOf]; omega
    · have e : j = k := by omega
      subst e
      obtain ⟨gg, rfl, hcg⟩ := HC.out j i HK.out
      rw [HAA.out] at hcg
      have heq : ((2 * (A : Int)) == 2 * (A : Int)) = true := by rw [beq_iff_eq]
      go_wp2
      (try simp only [Exit.inBlock, Exit.then])
      refine bodyPost_ret (results_cell_row rfl _ _ w.heap.size 86 #[.int .i64 j, .int .i64 D, .int .u64 0] (0, 0) _ rfl (three_store n2 _ _ _) Try.underlying86 rfl (by kernel_rfl)) rfl ?_
      exact ⟨by rw [HD.out], below_store b2 (Nat.le_refl _) _ _ _⟩
/-- One more that was met. -/
theorem met_end {w5 w6 : World} {g6 cap6 i : Nat} {o : Obj} (h : Met w5 B ba bm p s r G v) (ho6 : w6.ownsRow B 49 1 (.slice (some ⟨g6, 0, none⟩) (G.length + 1) cap6) (G.length + 1) ((G.map fun i : Nat => Value.int .u64 (2 * ((blkAt r i).ad : Int))) ++ [.int .u64 (2 * ((blkAt r i).ad : Int))])) (gr : (w5.alloc o).grownBy w6 v.ownBlock) :
    Met (w6.setCell ⟨bm, 0, none⟩ (.slice (some ⟨g6, 0, none⟩) (G.length + 1) cap6)) B ba bm p s r (G ++ [i]) (.slice (some ⟨g6, 0, none⟩) (G.length + 1) cap6) ∧ Only (fun q => q = bm ∨ v.ownBlock = some q) w5 (w6.setCell ⟨bm, 0, none⟩ (.slice (some ⟨g6, 0, none⟩) (G.length + 1) cap6)) ∧ w6.heap[bm]? = some (.cells #[v] 23 (0, 0)) ∧
    ∀ (q : Nat) (cur : Array Value) (t : TypeId), w5.heap[q]? = some (.cells cur t (0, 0)) → t ≠ 49 → t ≠ 23 → ∀ u, (w6.setCell ⟨bm, 0, none⟩ u).heap[q]? = w5.heap[q]? := by
  have hrow := own_row h.hv
  have hge := own_ge h.hv
  have keep : ∀ q : Nat, q < w5.heap.size → v.ownBlock ≠ some q → w6.heap[q]? = w5.heap[q]? := fun q hq hne => (gr.block q (by rw [nblk_alloc]; omega) (fun e => hne e.symm)).trans (blk_alloc_lt _ _ _ hq)
  have tne : ∀ (q : Nat) (cur : Array Value) (t : TypeId), w5.heap[q]? = some (.cells cur t (0, 0)) → t ≠ 49 → v.ownBlock ≠ some q := by
    intro q cur t hq ht e
    obtain ⟨cur', hc'⟩ := hrow q e
    rw [hq] at hc'
    simp at hc'
    exact ht hc'.2
  have keepS : ∀ (q : Nat) (u : Value), q ≠ bm → (w6.setCell ⟨bm, 0, none⟩ u).heap[q]? = w6.heap[q]? := fun q u hne => blk_setCell_other _ _ _ _ hne
  have e1 := (keep bm (lt_of_some h.hm) (tne bm _ _ h.hm (by decide))).trans h.hm
  have hab : ba ≠ bm := by
    rintro rfl
    have h3 := h.ha
    rw [h.hm] at h3
    simp at h3
  obtain ⟨b1, b2, b3, b4⟩ := h.below
  have hO : Only (fun q => q = bm ∨ v.ownBlock = some q) w5 (w6.setCell ⟨bm, 0, none⟩ (.slice (some ⟨g6, 0, none⟩) (G.length + 1) cap6)) := by
    refine Only.setCell (w := w5) (w' := w6) (S := fun q => q = bm ∨ v.ownBlock = some q) ⟨gr.os, gr.tape, gr.output, Nat.le_trans (by rw [nblk_alloc]; omega) gr.size, fun q hq hs => keep q hq (fun e => hs (Or.inr e))⟩ (Or.inr (Or.inl rfl)) _
  have hpne : ∀ q, q < B → ∀ cur t, w5.heap[q]? = some (.cells cur t (0, 0)) → t ≠ 23 → ¬ (q = bm ∨ v.ownBlock = some q) := by
    intro q hq cur t hqc ht hs
    rcases hs with rfl | hs
    · have h3 := h.hm
      rw [hqc] at h3
      simp at h3
      exact ht h3.2
    · have := hge q hs; omega
  obtain ⟨cc, hcc, _, _⟩ := h.ar.hc
  obtain ⟨cb, hcb, _, _⟩ := h.ar.hb
  refine ⟨⟨?_, ?_, ?_, h.ar.frame hO (hpne _ b1 _ _ h.ar.ha (by decide)) (hpne _ b2 _ _ h.ar.hh (by decide)) (hpne _ b3 _ _ hcc (by decide)) (hpne _ b4 _ _ hcb (by decide)), h.below⟩, hO, e1, fun q cur t hq ht ht2 u => ?_⟩
  · rw [keepS ba _ hab]
    exact (keep ba (lt_of_some h.ha) (tne ba _ _ h.ha (by decide))).trans h.ha
  · simp [World.setCell, Array.getElem?_modify, e1]
  · rw [List.length_append, List.map_append]
    refine owns_keep3 ho6 (fun g hg => keepS g _ ?_)
    obtain ⟨cur, hc⟩ := own_row ho6 g hg
    rintro rfl
    rw [e1] at hc
    simp at hc
  · rw [keepS q u (by
      rintro rfl
      rw [h.hm] at hq
      simp at hq
      exact ht2 hq.2.symm)]
    exact keep q (lt_of_some hq) (tne q cur t hq ht)
theorem met_node {w : World} {q : Nat} {cur : Array Value} (h : Met w B ba bm p s r G v) (hq : w.heap[q]? = some (.cells cur 86 (0, 0))) (hB : B ≤ q) (a b c : Value) : Met (((w.setCell ⟨q, 0, none⟩ a).setCell ⟨q, 1, none⟩ b).setCell ⟨q, 2, none⟩ c) B ba bm p s r G v := by
  have hk : ∀ k : Nat, k ≠ q → (((w.setCell ⟨q, 0, none⟩ a).setCell ⟨q, 1, none⟩ b).setCell ⟨q, 2, none⟩ c).heap[k]? = w.heap[k]? := fun k hk => by
    rw [blk_setCell_other _ _ _ _ hk, blk_setCell_other _ _ _ _ hk, blk_setCell_other _ _ _ _ hk]
  have hO : Only (fun k => k = q) w (((w.setCell ⟨q, 0, none⟩ a).setCell ⟨q, 1, none⟩ b).setCell ⟨q, 2, none⟩ c) := (((Only.refl (fun k => k = q) w).setCell (Or.inr rfl) _).setCell (Or.inr rfl) _).setCell (Or.inr rfl) _
  obtain ⟨b1, b2, b3, b4⟩ := h.below
  refine ⟨?_, ?_, owns_keep3 h.hv (fun g hg => hk g ?_), h.ar.frame hO (by omega) (by omega) (by omega) (by omega), h.below⟩
  · rw [hk ba (by rintro rfl; have h3 := h.ha; rw [hq] at h3; simp at h3)]; exact h.ha
  · rw [hk bm (by rintro rfl; have h3 := h.hm; rw [hq] at h3; simp at h3)]; exact h.hm
  · obtain ⟨cur', hc⟩ := own_row h.hv g hg
    rintro rfl
    rw [hq] at hc
    simp at hc
set_option maxRecDepth 100000 in
theorem see_new (x : Int) (i A : Nat) (w : World) (h : Met w B ba bm p s r G v) (h0 : 0 ≤ x) (h1 : x ≤ 18446744073709551615) (hA : (blkAt r i).ad = A) (hA1 : 1 ≤ A) (hA2 : A ≤ 100000) (g : (s.find x).1 = A) (hj : ∀ (j u : Nat), G[j]? = some u → (blkAt r u).ad ≠ A) (hgl : G.length ≤ 100000) (hB : B ≤ w.heap.size) :
    Calls Try.prog 44 #[.int .u64 x, .pointer (some ⟨ba, 0, none⟩), .pointer (some ⟨bm, 0, none⟩)] w fun e w' => e = .returned (.agg #[.int .i64 G.length, .int .i64 (s.find x).2, .int .u64 0]) ∧ ∃ v', Met w' B ba bm p s r (G ++ [i]) v' ∧ Only (fun q => q = bm ∨ v.ownBlock = some q) w w' := by
  obtain ⟨al, cg, rfl, hdel⟩ := met_cell h.hv
  clear hdel
  obtain ⟨c0, c1⟩ := one_cell h.ha
  have c0a := alloc_cell (lt_of_some h.ha) c0
  have HG : Hid (2 * (s.find x).1 = 2 * (A : Int)) := by show _ = _; omega
  have HA : Hid (Ar (w.alloc (.cells #[.int .i64 0, .int .i64 0, .int .u64 0] 86)) p s) := h.ar.alloc _
  have HJ : Hid _ := hj
  have HAA : Hid _ := hA
  have hz : ((2 * (A : Int)) == 0) = false := by rw [beq_eq_false_iff_ne]; omega
  clear g hj hA
  go_enter Try.func44, Try.ntmps44
  go_wp2_with (go_at_call 26; refine (leads_at x (2 * (A : Int)) _ _ HA.out h0 h1 HG.out rfl).mono ?_; rintro e w1 ⟨rfl, m, hw1⟩; obtain ⟨h2, b2, n2⟩ := see_start h m hw1; obtain ⟨⟨q0, q1, q2⟩, q3⟩ := three_cells n2; obtain ⟨d0, d1⟩ := one_cell h2.hm; clear hw1)
  obtain ⟨al', cg', hvv, hcell⟩ := met_cell h2.hv
  have ev : al' = al := by simp at hvv; exact hvv.1.symm
  subst ev
  have HC : Hid _ := hcell
  clear hcell hvv
  generalize hD : (s.find x).2 = D at *
  have HD : Hid _ := hD
  clear hD
  go_loop [20] (fun v => ∃ j : Nat, j ≤ G.length ∧ v = .int .i64 j) (fun v => G.length - (intOf v).toNat)
  case atStart => exact ⟨0, Nat.zero_le _, rfl⟩
  case round =>
    obtain ⟨j, hj, rfl⟩ := hrel
    by_cases hlt : j < G.length
    · obtain ⟨gg, rfl, hcg⟩ := HC.out j _ (List.getElem?_eq_getElem (by omega))
      have hne : ((2 * ((blkAt r (G[j]'(by omega))).ad : Int)) == 2 * (A : Int)) = false := by
        rw [beq_eq_false_iff_ne]
        intro e
        exact HJ.out j _ (List.getElem?_eq_getElem (by omega)) (by omega)
      generalize (blkAt r (G[j]'(by omega))).ad = u at *
      go_wp2
      go_round
      case rel => exact ⟨j + 1, by omega, by go_num⟩
      case measure => simp [intOf]; omega
    · have hB1 : B ≤ w1.heap.size := Nat.le_trans hB b2.size
      have hbm := lt_of_some h2.hm
      have d0a := alloc_cell hbm d0
      clear c0 c1 c0a
      go_wp2_with (at_builtin; refine wpList_append_one rfl (.tmp 33) (.tmp 35) rfl B _ G.length _ rfl (h2.hv.alloc _) ⟨w1.heap.size, 0, none⟩ 1 (2 * (A : Int)) rfl (by simp [Addr.add]) (by omega) (by rw [nblk_alloc]; omega) ?_; intro g6 cap6 w6 ho6 gr6 hg6; obtain ⟨n7, o7, e7, k7⟩ := met_end (i := i) h2 (by rw [HAA.out]; exact ho6) gr6; obtain ⟨m0, m1⟩ := one_cell e7; have n8 := (k7 _ _ _ n2 (by decide) (by decide) (.slice (some ⟨g6, 0, none⟩) (G.length + 1) cap6)).trans n2; obtain ⟨⟨s0, s1, s2⟩, s3⟩ := three_cells n8; clear k7; have N7 := hidden n7; have O7 := hidden o7; clear n7 o7 e7 ho6 gr6)
      (try simp only [Exit.inBlock, Exit.then])
      refine bodyPost_ret (results_cell_row rfl _ _ w.heap.size 86 #[.int .i64 G.length, .int .i64 D, .int .u64 0] (0, 0) _ rfl ?_ Try.underlying86 rfl (by kernel_rfl)) rfl ?_
      · exact three_store n8 _ _ _
      · have o8 : Only (fun q => q = bm ∨ (Value.slice al' G.length cg).ownBlock = some q) w (w6.setCell ⟨bm, 0, none⟩ (.slice (some ⟨g6, 0, none⟩) (G.length + 1) cap6)) := (Only.of_below b2).trans O7.out
        first
          | exact ⟨by rw [HD.out], _, met_node N7.out n8 hB _ _ _, ((o8.setCell (a := ⟨w.heap.size, 0, none⟩) (Or.inl (Nat.le_refl _)) _).setCell (a := ⟨w.heap.size, 1, none⟩) (Or.inl (Nat.le_refl _)) _).setCell (a := ⟨w.heap.size, 2, none⟩) (Or.inl (Nat.le_refl _)) _⟩
          | exact ⟨by rw [HD.out], ⟨_, met_node N7.out n8 hB _ _ _⟩, ((o8.setCell (a := ⟨w.heap.size, 0, none⟩) (Or.inl (Nat.le_refl _)) _).setCell (a := ⟨w.heap.size, 1, none⟩) (Or.inl (Nat.le_refl _)) _).setCell (a := ⟨w.heap.size, 2, none⟩) (Or.inl (Nat.le_refl _)) _⟩
/-- What the closure tells of any word, and what it notes. -/
theorem see_any (x : Int) (w : World) (hr : Rep s r) (hG : GoodG r G) (h : Met w B ba bm p s r G v) (h0 : 0 ≤ x) (h1 : x ≤ 18446744073709551615) (hB : B ≤ w.heap.size) :
    Calls Try.prog 44 #[.int .u64 x, .pointer (some ⟨ba, 0, none⟩), .pointer (some ⟨bm, 0, none⟩)] w fun e w' => e = .returned (.agg #[.int .i64 (gNode s r (visit s r G x) x).1, .int .i64 (gNode s r (visit s r G x) x).2.1, .int .u64 (gNode s r (visit s r G x) x).2.2]) ∧ ∃ v', Met w' B ba bm p s r (visit s r G x) v' ∧ Only (fun q => q = bm ∨ v.ownBlock = some q) w w' := by
  have t2 := h.ar.t2; have n2 := h.ar.n2; have bb := h.ar.b1
  have hgl : G.length ≤ 100000 := by
    have := (goodG_len hG).2
    have := lenB_length' r.L
    have := hr.top
    omega
  rcases lead_cases hr x with ⟨hf, e⟩ | ⟨i, b, hb, hf, e⟩
  · refine (see_none x w h h0 h1 hf).mono ?_
    rintro e' w' ⟨rfl, hb⟩
    rw [visit_none e, gNode_none e]
    exact ⟨rfl, v, h.below' hb, Only.of_below hb⟩
  · have hin := hr.inside hb
    have hbk := blkAt_of hb
    by_cases hi : i ∈ G
    · obtain ⟨k1, k2⟩ := idx_spec3 G i hi
      refine (see_old x i (G.idxOf i) b.ad w h h0 h1 (by rw [hbk]) (by omega) (by omega) hf k1 ?_ hgl).mono ?_
      · intro j u hj hu e2
        have hul := hG.2 u (List.mem_of_getElem? hu)
        have := hr.inj (blkAt_some hul) hb e2
        subst this
        exact k2 j hj hu
      · rintro e' w' ⟨rfl, hb'⟩
        rw [visit_old e hi, gNode_some e]
        exact ⟨rfl, v, h.below' hb', Only.of_below hb'⟩
    · refine (see_new x i b.ad w h h0 h1 (by rw [hbk]) (by omega) (by omega) hf ?_ hgl hB).mono ?_
      · intro j u hu e2
        have hul := hG.2 u (List.mem_of_getElem? hu)
        have := hr.inj (blkAt_some hul) hb e2
        subst this
        exact hi (List.mem_of_getElem? hu)
      · rintro e' w' ⟨rfl, v', h', o'⟩
        rw [visit_new e hi, gNode_some e]
        have hx : (G ++ [i]).idxOf i = G.length := by rw [List.idxOf_append, if_neg hi, List.idxOf_cons_self]; omega
        rw [hx]
        exact ⟨rfl, v', h', o'⟩
end Go.Proofs.Ytkgocnmeedkieaa
