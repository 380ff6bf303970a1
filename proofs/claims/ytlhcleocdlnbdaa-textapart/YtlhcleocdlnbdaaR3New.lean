/-
  What the document's own move of one word tells and makes: a word that leads to nothing; one whose block has gone. Condition: the arena that was and what has moved lie in memory.
  What the document's own move of one word tells and makes where its block has not gone yet. Condition: the arena that was and what has moved lie in memory.
-/
import Derived.Test.YtlhcleocdlnbdaaLibD
namespace Go.Proofs.Ytlhcleocdlnbdaa
open Go.ChangeShapes Go.WideShapes Go.ChangeAt Go.RowKit Go.Deep
set_option linter.unusedVariables false
set_option maxHeartbeats 2000000
variable {w : World} {p : Pl} {s : St} {rb : Nat} {r : RS} {a : Option Addr} {cap : Nat} {V : Nat → Value} {B0 mb nb : Nat} {G : List Nat} {L : List Blk} {aN : Option Addr} {capN : Nat} {VN : Nat → Value} {vg : Value}

theorem Now.cells (h : Now w B0 mb nb rb r G L aN capN VN vg) : w.cell? ⟨mb, 0, none⟩ = some (.pointer (some ⟨rb, 0, none⟩)) ∧ w.cell? ⟨mb, 1, none⟩ = some (.pointer (some ⟨nb, 0, none⟩)) ∧ w.cell? ⟨mb, 2, none⟩ = some vg ∧ ∀ o, w.frozen? ⟨mb, o, none⟩ = false := by
  simp [World.cell?, World.frozen?, h.hm]
theorem mword_no (x : Int) (w : World) (h : Both w p s rb r a cap V) (hn : Now w B0 mb nb rb r G L aN capN VN vg) (h0 : 0 ≤ x) (h1 : x ≤ 18446744073709551615) (g : (s.find x).1 = 0) :
    Calls Try.prog 89 #[.pointer (some ⟨mb, 0, none⟩), .int .u64 x] w fun e w' => e = .returned (.int .u64 x) ∧ ∃ m, w' = w.drewN m := by
  obtain ⟨c0, c1, c2, c3⟩ := hn.cells
  have HG : Hid _ := g
  clear g
  go_enter Try.func89, Try.ntmps89
  go_wp2_with (go_at_call 42; refine (rfind_no x _ h h0 h1 HG.out).mono ?_; rintro e w' ⟨rfl, m, rfl⟩)
  all_goals go_ret
  all_goals exact ⟨rfl, _, rfl⟩
theorem mword_old (x : Int) (i k : Nat) (b : Blk) (y : Int) (w : World) (h : Both w p s rb r a cap V) (hn : Now w B0 mb nb rb r G L aN capN VN vg) (h0 : 0 ≤ x) (h1 : x ≤ 18446744073709551615) (hb : r.L[i]? = some b) (g : (s.find x).1 = b.ad)
    (hk : G[k]? = some i) (hj : ∀ j, j < k → G[j]? ≠ some i) (c : Blk) (hc : L[k]? = some c) (hca : c.ad ≤ 100000) (hy : 2 * ((c.ad : Int) + (s.find x).2) = y) (hgl : G.length ≤ 100000) (hLG : L.length = G.length) :
    Calls Try.prog 89 #[.pointer (some ⟨mb, 0, none⟩), .int .u64 x] w fun e w' => e = .returned (.int .u64 y) ∧ ∃ m, w' = w.drewN m := by
  obtain ⟨d0, d1⟩ := find_dist h.rep x
  have HFD : Hid _ := g
  have HBI : Hid _ := hb
  have hil := (List.getElem?_eq_some_iff.1 hb).1
  have hiz := h.sizes
  have hi6 : (i : Int) ≤ 100000 := by omega
  have hkl := (List.getElem?_eq_some_iff.1 hk).1
  have HK : Hid _ := hk
  have HJ : Hid _ := hj
  have HC : Hid _ := hc
  have HP : Hid (ptrW ((c.ad : Int) + (s.find x).2) = y) := by show _ = _; unfold ptrW; rw [if_neg (by omega)]; exact hy
  obtain ⟨c0, c1, c2, c3⟩ := hn.cells
  clear g hb hk hj hc hy hil hiz
  go_enter Try.func89, Try.ntmps89
  go_wp2_with (go_at_call 42; refine (rfind_yes x i b _ h h0 h1 HBI.out HFD.out).mono ?_; rintro e w1 ⟨rfl, m, hw1⟩; have n1 := hn.drewN m; have HW := hidden hw1; rw [← hw1] at n1; clear hw1)
  generalize hD : (s.find x).2 = D at *
  clear hD c0 c1 c2 c3 hn h
  obtain ⟨c0, c1, c2, c3⟩ := n1.cells
  obtain ⟨al, cg, rfl, hcell⟩ := ints_cell n1.hg
  have HCELL : Hid _ := hcell
  clear hcell
  go_loop [7] (fun v => ∃ j : Nat, j ≤ k ∧ v = .int .i64 j) (fun v => k - (intOf v).toNat)
  case atStart => exact ⟨0, Nat.zero_le _, rfl⟩
  case round =>
    obtain ⟨j, hj, rfl⟩ := hrel
    by_cases hlt : j < k
    · obtain ⟨g, rfl, hcg⟩ := HCELL.out j _ (List.getElem?_eq_getElem (by omega))
      have hne : (((G[j]'(by omega) : Nat) : Int) == (i : Int)) = false := by
        rw [beq_eq_false_iff_ne]
        intro e
        have e2 : G[j]'(by omega) = i := by omega
        exact HJ.out j hlt (by rw [List.getElem?_eq_getElem (by omega), e2])
      generalize G[j]'(by omega) = u at *
      go_wp2
      go_round
      case rel => exact ⟨j + 1, by omega, by go_num⟩
      case measure => simp [intOf]; omega
    · have e : j = k := by omega
      subst e
      obtain ⟨g, rfl, hcg⟩ := HCELL.out j i HK.out
      have heq : ((i : Int) == (i : Int)) = true := by rw [beq_iff_eq]
      obtain ⟨e0, e1, e2, e3⟩ := n1.now.cells
      obtain ⟨ga, rfl, f1, f2, f3, f4⟩ := n1.now.row (by show L.length ≠ 0; omega)
      obtain ⟨q0, q1, q2, q3⟩ := f4 j c HC.out
      have HLEN : Hid (L.length = G.length) := hLG
      have x1 : (j : Int) < (L.length : Int) := by omega
      have x0 : (0 : Int) ≤ (j : Int) := by omega
      clear f4 q3
      go_wp2_with (go_at_call 65; refine (rptr_eq _ y _ (by omega) (by omega) HP.out).mono ?_; rintro e w' ⟨rfl, hw'⟩; rw [hw']; clear hw' w')
      all_goals go_ret
      all_goals exact ⟨rfl, m, HW.out⟩
end Go.Proofs.Ytlhcleocdlnbdaa

namespace Go.Proofs.Ytlhcleocdlnbdaa
open Go.ChangeShapes Go.WideShapes Go.ChangeAt Go.RowKit Go.Deep
set_option linter.unusedVariables false
set_option maxHeartbeats 2000000
variable {w : World} {p : Pl} {s : St} {rb : Nat} {r : RS} {a : Option Addr} {cap : Nat} {V : Nat → Value} {B0 mb nb : Nat} {G : List Nat} {L : List Blk} {aN : Option Addr} {capN : Nat} {VN : Nat → Value} {vg : Value}

/-- A copy of words into an empty row of the call's own, at a step of a region that draws its order. -/
theorem step_append_words {ops : Array Oper} {o : Oper} {a : Act} {w : World} {K : Act → World → Prop} {Q : Exit → Act → World → Prop} {E : Prop} (hg : o.guard = none) (s x : Operand)
    (hop : o.op = Op.call { callee := Callee.builtin Builtin.append, args := #[s, x], argTypes := #[27, 27] }) (g0 : Nat) (hs : a.eval s = .slice (some ⟨g0, 0, none⟩) 0 0) (hg0 : w.heap[g0]? = some (.cells #[] 29 (0, 0)))
    (ao : Option Addr) (m c : Nat) (hx : a.eval x = .slice ao m c) (X : Nat → Int) (hn : ao = none → m = 0 ∧ c = 0) (hcell : ∀ j, j < m → ∃ ad, ao = some ad ∧ w.cell? (ad.add j) = some (.int .u64 (X j))) (hm : m ≤ 1000000)
    (hK : ∀ g cap w', Own w' g m X → w.grownBy w' (some g0) → g0 ≤ g → K (a.put o.dst (.slice (some ⟨g, 0, none⟩) m cap)) w') :
    if Region.wanted o (yielded ops a.tmps) = true then Oper.wp Try.prog o a w K Q else E := by
  have hw : Region.wanted o (yielded ops a.tmps) = true := by simp [Region.wanted, hg]
  rw [if_pos hw]
  obtain ⟨i0, hi, hz0, hz1, hz2⟩ := info_parts Try.info29
  have hg1 : g0 < w.heap.size := lt_of_some hg0
  have hown : w.ownsRow g0 29 1 (.slice (some ⟨g0, 0, none⟩) 0 0) 0 [] := ⟨rfl, .inr ⟨g0, 0, #[], rfl, Nat.le_refl _, hg0, Nat.le_refl _, Nat.zero_le _, rfl, rfl⟩⟩
  cases ao with
  | none =>
    obtain ⟨rfl, rfl⟩ := hn rfl
    have hrun := run_append_owned_none (P := Try.prog) (w := w) g0 27 o.type 29 i0 1 Try.underlying27 hi _ 0 [] hown
    have hk := hK g0 0 w ⟨#[], hg0, fun i hi => by omega⟩ ⟨rfl, rfl, rfl, Nat.le_refl _, fun _ _ _ => rfl⟩ (Nat.le_refl _)
    unfold Oper.wp
    simp [execOp, hop, resolve, invoke, builtin, hs, hx, hrun, Result.andThen]
    exact hk
  | some ad =>
    refine wp_append_own w s x 27 hop g0 29 i0 (.int .u64 0) 1 8 Try.underlying27 hi hz0 hz1 hz2 rfl (by decide) _ 0 [] hs hown ad m c ((List.range m).map fun j => .int .u64 (X j)) hx (by simp) ?_ ?_ (by unfold maxLen; omega) (by omega) (by omega) ?_
    · intro j u hu
      have hj : j < m := by
        have := (List.getElem?_eq_some_iff.1 hu).1
        simpa using this
      obtain ⟨ad', e, hc⟩ := hcell j hj
      cases e
      rw [hc]
      simp [hj] at hu
      rw [hu]
    · intro u hu
      simp at hu
      obtain ⟨j, _, rfl⟩ := hu
      rfl
    · intro v' w' h1 h2 h3
      rw [Nat.zero_add, List.nil_append] at h1
      have hne : v' ≠ .slice none 0 0 := by
        intro e
        have := (h3.1 e).1
        simp at this
      rcases h1.2 with ⟨e, _⟩ | ⟨g, cap, cur, rfl, r⟩
      · exact absurd e hne
      · obtain ⟨q1, q2⟩ := own_of_row h1
        exact hK g cap w' q1 h2 q2
theorem owns_keep {w w' : World} {B : Nat} {e : TypeId} {sz : Nat} {v : Value} {n : Nat} {xs : List Value} (h : w.ownsRow B e sz v n xs) (hk : ∀ g, v.ownBlock = some g → w'.heap[g]? = w.heap[g]?) : w'.ownsRow B e sz v n xs := by
  refine ⟨h.1, ?_⟩
  rcases h.2 with h2 | ⟨g, c, cur, hv, hge, hh, rest⟩
  · exact .inl h2
  · exact .inr ⟨g, c, cur, hv, hge, (hk g (by rw [hv]; rfl)).trans hh, rest⟩
theorem ty_ne {w : World} {g g' : Nat} {cur cur' : Array Value} {t t' : TypeId} (h : w.heap[g]? = some (.cells cur t (0, 0))) (h' : w.heap[g']? = some (.cells cur' t' (0, 0))) (ht : t ≠ t') : g ≠ g' := by
  rintro rfl
  rw [h] at h'
  simp at h'
  exact ht h'.2
/-- A block from B0 on that is no row of words. -/
def NotW (w : World) (B0 q : Nat) : Prop := B0 ≤ q ∧ ∀ cur, w.heap[q]? ≠ some (.cells cur 29 (0, 0))
theorem notW_trans {w w2 w3 : World} {B0 : Nat} (h : Only (NotW w B0) w w2) (k : Only (NotW w2 B0) w2 w3) : Only (NotW w B0) w w3 := by
  refine ⟨k.os.trans h.os, k.tape.trans h.tape, k.output.trans h.output, Nat.le_trans h.size k.size, fun q hq hs => ?_⟩
  have e := h.block q hq hs
  refine (k.block q (Nat.lt_of_lt_of_le hq h.size) ?_).trans e
  rintro ⟨c1, c2⟩
  exact hs ⟨c1, fun cur hc => c2 cur (e.trans hc)⟩
theorem notW_ty {w : World} {B0 q : Nat} {cur : Array Value} {t : TypeId} (h : w.heap[q]? = some (.cells cur t (0, 0))) (ht : t ≠ 29) (hq : B0 ≤ q) : NotW w B0 q := by
  refine ⟨hq, fun cur' hc => ?_⟩
  rw [h] at hc
  simp at hc
  exact ht hc.2
theorem Rf.below' {w w' : World} {nb : Nat} {r : RS} {aN : Option Addr} {capN : Nat} {VN : Nat → Value} (h : Rf w nb r aN capN VN) (hb : Below w.heap.size w w') : Rf w' nb r aN capN VN := h.frame (S := fun _ => False) (Only.of_below hb) (fun _ _ => id)
theorem Now.below {w' : World} (h : Now w B0 mb nb rb r G L aN capN VN vg) (hb : Below w.heap.size w w') : Now w' B0 mb nb rb r G L aN capN VN vg := by
  refine ⟨(hb.block _ (lt_of_some h.hm)).trans h.hm, owns_keep h.hg (fun g hg => ?_), h.now.below' hb, h.dis, h.lo⟩
  obtain ⟨cur, hc⟩ := own_row h.hg g hg
  exact hb.block _ (lt_of_some hc)
theorem aN_row (h : Rf w nb r aN capN VN) : ∀ q, (Value.slice aN r.L.length capN).ownBlock = some q → ∃ cur, w.heap[q]? = some (.cells cur 85 (0, 0)) ∧ nb < q := by
  intro q hq
  cases aN with
  | none => cases hq
  | some ad =>
    obtain ⟨g, cur, rfl, hb, hg, _⟩ := h.hl.2.2.2 ad rfl
    have : g = q := by simpa [Value.ownBlock] using hq
    exact ⟨cur, by rw [← this]; exact hg, by omega⟩
/-- One block more in the arena that is. -/
theorem now_end {w2 w3 w4 : World} {f capf g' cap' ad : Nat} {tag : Int} {F : List Int} {xs : List Value} {o : Obj} (n2 : Now w2 B0 mb nb rb r G L aN capN VN vg) (hb : Below w2.heap.size w2 w3) (hf : Own w3 f F.length (fun i => F.getD i 0)) (hf2 : w2.heap.size ≤ f)
    (hx : w3.ownsRow (nb + 1) 85 3 (.slice aN L.length capN) L.length xs) (hx2 : ∀ i b, L[i]? = some b → xs[i * 3]? = some (.int .i64 b.ad) ∧ xs[i * 3 + 1]? = some (.int .i64 b.tag) ∧ xs[i * 3 + 2]? = some (VN i) ∧ FieldOf w3 (nb + 1) (VN i) b.F)
    (ho4 : w4.ownsRow (nb + 1) 85 3 (.slice (some ⟨g', 0, none⟩) (L.length + 1) cap') (L.length + 1) (xs ++ [.int .i64 (ad : Int), .int .i64 tag, .slice (some ⟨f, 0, none⟩) F.length capf])) (gr : (w3.alloc o).grownBy w4 (Value.slice aN L.length capN).ownBlock) :
    Now (w4.setCell ⟨nb, 2, none⟩ (.slice (some ⟨g', 0, none⟩) (L.length + 1) cap')) B0 mb nb rb r G (L ++ [⟨ad, tag, F⟩]) (some ⟨g', 0, none⟩) cap' (fun i => if i < L.length then VN i else .slice (some ⟨f, 0, none⟩) F.length capf) vg ∧
    Only (NotW w2 B0) w2 (w4.setCell ⟨nb, 2, none⟩ (.slice (some ⟨g', 0, none⟩) (L.length + 1) cap')) ∧ Fresh w2.heap.size L.length VN (L.length + 1) (fun i => if i < L.length then VN i else .slice (some ⟨f, 0, none⟩) F.length capf) ∧
    w4.heap[nb]? = some (.cells #[.int .i64 r.n, .int .i64 ((1 - r.which : Nat) : Int), .slice aN L.length capN] 88 (0, 0)) := by
  have n3 := n2.below hb
  have hrow3 := aN_row n3.now
  have hrow2 := aN_row n2.now
  have hsz := hb.size
  have hnb2 := lt_of_some n2.now.hr
  have hmb2 := lt_of_some n2.hm
  have hrowA := own_row (hx.alloc o)
  -- a block that is not the row of blocks is as it was
  have keep : ∀ q : Nat, q < w3.heap.size → (Value.slice aN L.length capN).ownBlock ≠ some q → w4.heap[q]? = w3.heap[q]? := fun q hq hne => (gr.block q (by rw [nblk_alloc]; omega) (fun e => hne e.symm)).trans (blk_alloc_lt _ _ _ hq)
  have keepT : ∀ (q : Nat) (cur : Array Value) (t : TypeId), w3.heap[q]? = some (.cells cur t (0, 0)) → t ≠ 85 → w4.heap[q]? = w3.heap[q]? := by
    intro q cur t hq ht
    refine keep q (lt_of_some hq) (fun e => ?_)
    obtain ⟨cur', hc', _⟩ := hrow3 q e
    exact ty_ne hq hc' ht rfl
  have keepS : ∀ (q : Nat) (v : Value), q ≠ nb → (w4.setCell ⟨nb, 2, none⟩ v).heap[q]? = w4.heap[q]? := fun q v hne => blk_setCell_other _ _ _ _ hne
  have e1 := (keepT nb _ _ n3.now.hr (by decide)).trans n3.now.hr
  have hmbne : mb ≠ nb := ty_ne n3.hm n3.now.hr (by decide)
  have e2 := (keepT mb _ _ n3.hm (by decide)).trans n3.hm
  have hfresh : Fresh w2.heap.size L.length VN (L.length + 1) (fun i => if i < L.length then VN i else .slice (some ⟨f, 0, none⟩) F.length capf) := by
    intro i hi
    by_cases hl : i < L.length
    · exact Or.inl ⟨hl, by show (if i < L.length then VN i else _) = _; rw [if_pos hl]⟩
    · refine Or.inr (fun ad n c e => ?_)
      have e' : (if i < L.length then VN i else Value.slice (some ⟨f, 0, none⟩) F.length capf) = .slice (some ad) n c := e
      rw [if_neg hl] at e'
      simp only [Value.slice.injEq, Option.some.injEq] at e'
      rw [← e'.1]
      exact hf2
  refine ⟨⟨?_, ?_, ⟨?_, ?_⟩, ?_, n2.lo⟩, ?_, hfresh, e1⟩
  · rw [keepS mb _ hmbne]; exact e2
  · refine owns_keep n3.hg (fun g hg => ?_)
    obtain ⟨cur, hc⟩ := own_row n3.hg g hg
    rw [keepS g _ (ty_ne hc n3.now.hr (by decide))]
    exact keepT g _ _ hc (by decide)
  · show _ = some (Obj.cells #[.int .i64 r.n, .int .i64 ((1 - r.which : Nat) : Int), .slice (some ⟨g', 0, none⟩) (L ++ [_]).length cap'] 88 (0, 0))
    rw [List.length_append]
    exact three_set e1 _
  · refine of_own (xs := xs ++ [.int .i64 (ad : Int), .int .i64 tag, .slice (some ⟨f, 0, none⟩) F.length capf]) ?_ ?_
    · show World.ownsRow _ _ _ _ (.slice (some ⟨g', 0, none⟩) (L ++ [_]).length cap') (L ++ [_]).length _
      rw [List.length_append]
      exact ownsRow_setCell_below ho4 (by show nb < nb + 1; omega) _
    · intro i b hib
      have hxl : xs.length = L.length * 3 := hx.1
      rcases snoc_some hib with ⟨hb', hi⟩ | ⟨rfl, rfl⟩
      · obtain ⟨d1, d2, d3, d4⟩ := hx2 i b hb'
        rw [if_pos hi]
        refine ⟨?_, ?_, ?_, ((d4.alloc o).grown gr hrowA).setRb (by omega)⟩
        · rw [List.getElem?_append_left (by omega)]; exact d1
        · rw [List.getElem?_append_left (by omega)]; exact d2
        · rw [List.getElem?_append_left (by omega)]; exact d3
      · rw [if_neg (by omega)]
        refine ⟨?_, ?_, ?_, ?_⟩
        · rw [List.getElem?_append_right (by omega), show L.length * 3 - xs.length = 0 from by omega]; rfl
        · rw [List.getElem?_append_right (by omega), show L.length * 3 + 1 - xs.length = 1 from by omega]; rfl
        · rw [List.getElem?_append_right (by omega), show L.length * 3 + 2 - xs.length = 2 from by omega]; rfl
        · have f1 : FieldOf w3 (nb + 1) (.slice (some ⟨f, 0, none⟩) F.length capf) F := ⟨_, _, rfl, fun h => (by cases h), fun ad' had => by cases had; exact ⟨f, rfl, by omega, hf⟩⟩
          exact ((f1.alloc o).grown gr hrowA).setRb (by omega)
  · intro i j hij hj ad1 n c ad2 n' c' e3 e4
    have e3' : (if i < L.length then VN i else Value.slice (some ⟨f, 0, none⟩) F.length capf) = .slice (some ad1) n c := e3
    have e4' : (if j < L.length then VN j else Value.slice (some ⟨f, 0, none⟩) F.length capf) = .slice (some ad2) n' c' := e4
    rw [List.length_append] at hj
    have hj' : j < L.length + 1 := hj
    rw [if_pos (by omega)] at e3'
    by_cases hjl : j < L.length
    · rw [if_pos hjl] at e4'
      exact n2.dis i j hij hjl ad1 n c ad2 n' c' e3' e4'
    · rw [if_neg hjl] at e4'
      simp only [Value.slice.injEq, Option.some.injEq] at e4'
      have := off_new (g := f) n2.now (by omega) i (by show i < L.length; omega) ad1 n c e3'
      rw [← e4'.1]
      exact this
  · refine (Only.setCell (S := NotW w2 B0) ⟨gr.os.trans hb.os, gr.tape.trans hb.tape, gr.output.trans hb.output, Nat.le_trans hb.size (Nat.le_trans (by rw [nblk_alloc]; omega) gr.size), fun q hq hs => ?_⟩ (Or.inr (notW_ty (t := 88) n2.now.hr (by decide) n2.lo.1)) _)
    refine (keep q (by omega) (fun e => ?_)).trans (hb.block q hq)
    obtain ⟨cur, hc, hlt⟩ := hrow2 q e
    exact hs (notW_ty hc (by decide) (by have := n2.lo.1; omega))
/-- One number more in the row of those that went. -/
theorem now_gone {w5 w6 : World} {g6 cap6 i : Nat} {o : Obj} (n5 : Now w5 B0 mb nb rb r G L aN capN VN vg) (ho6 : w6.ownsRow B0 3 1 (.slice (some ⟨g6, 0, none⟩) (G.length + 1) cap6) (G.length + 1) ((G.map fun i : Nat => Value.int .i64 (i : Int)) ++ [.int .i64 (i : Int)])) (gr : (w5.alloc o).grownBy w6 vg.ownBlock) :
    Now (w6.setCell ⟨mb, 2, none⟩ (.slice (some ⟨g6, 0, none⟩) (G.length + 1) cap6)) B0 mb nb rb r (G ++ [i]) L aN capN VN (.slice (some ⟨g6, 0, none⟩) (G.length + 1) cap6) ∧ Only (NotW w5 B0) w5 (w6.setCell ⟨mb, 2, none⟩ (.slice (some ⟨g6, 0, none⟩) (G.length + 1) cap6)) ∧
    w6.heap[mb]? = some (.cells #[.pointer (some ⟨rb, 0, none⟩), .pointer (some ⟨nb, 0, none⟩), vg] 121 (0, 0)) := by
  have hrow := own_row n5.hg
  have hge := own_ge n5.hg
  have keep : ∀ q : Nat, q < w5.heap.size → vg.ownBlock ≠ some q → w6.heap[q]? = w5.heap[q]? := fun q hq hne => (gr.block q (by rw [nblk_alloc]; omega) (fun e => hne e.symm)).trans (blk_alloc_lt _ _ _ hq)
  have keepT : ∀ (q : Nat) (cur : Array Value) (t : TypeId), w5.heap[q]? = some (.cells cur t (0, 0)) → t ≠ 3 → w6.heap[q]? = w5.heap[q]? := by
    intro q cur t hq ht
    refine keep q (lt_of_some hq) (fun e => ?_)
    obtain ⟨cur', hc'⟩ := hrow q e
    exact ty_ne hq hc' ht rfl
  have keepS : ∀ (q : Nat) (v : Value), q ≠ mb → (w6.setCell ⟨mb, 2, none⟩ v).heap[q]? = w6.heap[q]? := fun q v hne => blk_setCell_other _ _ _ _ hne
  have e1 := (keepT mb _ _ n5.hm (by decide)).trans n5.hm
  have all : ∀ (q : Nat) (cur : Array Value) (t : TypeId), w5.heap[q]? = some (.cells cur t (0, 0)) → t ≠ 3 → t ≠ 121 → ∀ v, (w6.setCell ⟨mb, 2, none⟩ v).heap[q]? = w5.heap[q]? := by
    intro q cur t hq ht ht2 v
    rw [keepS q v (ty_ne hq n5.hm ht2)]
    exact keepT q cur t hq ht
  refine ⟨⟨three_set e1 _, ?_, ⟨?_, n5.now.hl.1, n5.now.hl.2.1, n5.now.hl.2.2.1, ?_⟩, n5.dis, n5.lo⟩, ?_, e1⟩
  · rw [List.length_append, List.map_append]
    refine owns_keep ho6 (fun g hg => keepS g _ ?_)
    obtain ⟨cur, hc⟩ := own_row ho6 g hg
    exact ty_ne hc e1 (by decide)
  · rw [all nb _ _ n5.now.hr (by decide) (by decide)]; exact n5.now.hr
  · intro ad had
    obtain ⟨g, cur, e, hb, hg, hcs, hcell⟩ := n5.now.hl.2.2.2 ad had
    refine ⟨g, cur, e, hb, by rw [all g _ _ hg (by decide) (by decide)]; exact hg, hcs, fun j b hjb => ?_⟩
    obtain ⟨c1, c2, c3, a', cap', e2, hn, hf⟩ := hcell j b hjb
    refine ⟨c1, c2, c3, a', cap', e2, hn, fun ad' had' => ?_⟩
    obtain ⟨g', e3, hb', ho⟩ := hf ad' had'
    refine ⟨g', e3, hb', ho.of_block ?_⟩
    obtain ⟨cur', hc', _⟩ := ho
    exact all g' _ _ hc' (by decide) (by decide) _
  · have hmv : NotW w5 B0 (Addr.mk mb 2 none).block := notW_ty (t := 121) n5.hm (by decide) n5.lo.2
    refine (Only.setCell (w := w5) (w' := w6) (S := NotW w5 B0) ⟨gr.os, gr.tape, gr.output, Nat.le_trans (by rw [nblk_alloc]; omega) gr.size, fun q hq hs => ?_⟩ (Or.inr hmv) _)
    refine keep q hq (fun e => ?_)
    obtain ⟨cur, hc⟩ := hrow q e
    exact hs (notW_ty (t := 3) hc (by decide) (hge q e))
end Go.Proofs.Ytlhcleocdlnbdaa
