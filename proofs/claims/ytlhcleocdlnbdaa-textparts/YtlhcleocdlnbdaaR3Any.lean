/-
  A region that draws its order and whose last operation turns what an earlier one read: a condition on the world that holds behind every operation but the last one lets reads be taken first, if the last one waits for them. No program is named.
  What the document's own move of one word tells and makes where its block has not gone yet. Condition: the arena that was and what has moved lie in memory.
  What the document's own collection has moved, told plainly at each point of its way. Plain; no program.
  What the document's own move of one word tells and makes, whatever the word: by the plain collection. Condition: the arena that was and what has moved lie in memory.
  What has moved, where a row of words beside it grows, and where a word of a block that has moved is written. No program is named here but by its types' numbers.
-/
import Derived.OrdersHeld
import Derived.Deep.RegionHeld
import Derived.Test.YtlhcleocdlnbdaaR3New
import Derived.Deep.CutRange
import Derived.Test.YtlhcleocdlnbdaaLibD
namespace Go.Proofs.Ytlhcleocdlnbdaa
section
variable {P : Program} {ops : Array Oper} {Q : Exit → Act → World → Prop} {md : Region.Mode} {S : World → Prop} {kz : Nat}

/-- Whatever order is picked from here on; and S holds behind each operation but number kz. -/
def AnyTill (P : Program) (md : Region.Mode) (ops : Array Oper) (Q : Exit → Act → World → Prop) (S : World → Prop) (kz : Nat) : Nat → Array Bool → Act → World → Prop
  | 0, done, a, w => Region.ready md ops done = [] ∧ Q .normal a w
  | n + 1, done, a, w => (Region.ready md ops done = [] → Q .normal a w) ∧
    ∀ k ∈ Region.ready md ops done, wpOp P ops Q k (fun b u => (k ≠ kz → S u) ∧ AnyTill P md ops Q S kz n (done.setIfInBounds k true) b u) a w
theorem AnyTill.any : ∀ {n : Nat} {done : Array Bool} {a : Act} {w : World}, AnyTill P md ops Q S kz n done a w → wpAny P md ops Q n done a w
  | 0, _, _, _, h => h
  | _ + 1, _, _, _, h => ⟨h.1, fun k hk => wpOp_mono (fun _ _ h' => h'.2.any) (h.2 k hk)⟩
/-- Operation kz waits for operation i. -/
def waitsFor (md : Region.Mode) (ops : Array Oper) (kz i : Nat) : Bool := match ops[kz]? with
  | none => true
  | some o => o.after.any fun e => Region.binds md e && e.on == i
theorem waits_not {i : Nat} {done : Array Bool} (h : waitsFor md ops kz i = true) (hi : i ∈ Region.ready md ops done) : ¬ kz ∈ Region.ready md ops done := by
  intro hk
  obtain ⟨_, o, ho, hall⟩ := mem_ready.1 hk
  have h0 := (mem_ready.1 hi).1
  unfold waitsFor at h
  rw [ho] at h
  obtain ⟨e, he, hc⟩ : ∃ e, e ∈ o.after ∧ (Region.binds md e && e.on == i) = true := by
    rw [Array.any_eq_true] at h
    obtain ⟨n, hn, hc⟩ := h
    exact ⟨_, Array.getElem_mem hn, hc⟩
  rw [Bool.and_eq_true, beq_iff_eq] at hc
  have h1 := hall e he hc.1
  rw [hc.2] at h1
  rcases Nat.lt_or_ge i done.size with hl | hl
  · simp [hl] at h0 h1
    rw [h0] at h1; cases h1
  · simp [Array.getElem?_eq_none hl] at h1
/-- Number i first: it gives v in every world that meets S; who could come ahead of it lets it be; and kz waits for it. -/
theorem AnyTill.first {i : Nat} {oi : Oper} {v : Value} (hi : ops[i]? = some oi) (hsel : ∀ (j : Nat) (o : Oper) cs b, ops[j]? = some o → o.op ≠ .select cs b)
    (hQ : ∀ c a w, Q (.panic c) (a.put oi.dst v) w → Q (.panic c) a w) (hw : waitsFor md ops kz i = true) :
    ∀ (n : Nat) {done : Array Bool} {a : Act} {w : World},
      (∀ j oj, ops[j]? = some oj → j ≠ i → done.getD j true = false → (∀ e ∈ oj.after, Region.binds md e = true → e.on ≠ i) → oi.apart ops oj = true) →
      i ∈ Region.ready md ops done → YieldsIf P ops S oi v a → S w →
      AnyTill P md ops Q S kz n (done.setIfInBounds i true) (a.put oi.dst v) w → AnyTill P md ops Q S kz (n + 1) done a w := by
  intro n
  induction n with
  | zero =>
    intro done a w _ hr hy hS H
    refine ⟨fun h => (by rw [h] at hr; cases hr), fun k hk => ?_⟩
    by_cases e : k = i
    · subst e
      exact hy.wpOp hi hS ⟨fun _ => hS, H⟩
    · have h1 := ready_mono hk e
      rw [H.1] at h1
      cases h1
  | succ n ih =>
    intro done a w hap hr hy hS H
    refine ⟨fun h => (by rw [h] at hr; cases hr), fun k hk => ?_⟩
    by_cases e : k = i
    · subst e
      exact hy.wpOp hi hS ⟨fun _ => hS, H⟩
    · have hne : k ≠ kz := fun e2 => waits_not hw hr (e2 ▸ hk)
      obtain ⟨hun, ok, hok, hall⟩ := mem_ready.1 hk
      have hno : ∀ x ∈ ok.after, Region.binds md x = true → x.on ≠ i := fun x hx hb hxi => by
        have h1 := hall x hx hb
        have h0 := (mem_ready.1 hr).1
        rw [hxi] at h1
        rcases Nat.lt_or_ge i done.size with hl | hl
        · simp [hl] at h0 h1
          rw [h0] at h1; cases h1
        · simp [Array.getElem?_eq_none hl] at h1
      have step := wpOp_putIf hok (hap k ok hok e hun hno) (fun cs b => hsel i oi cs b hi) (fun cs b => hsel k ok cs b hok) hQ hy (H.2 k (ready_mono hk e))
      refine wpOp_mono (fun b u h3 => ⟨h3.2.1, ih (fun j oj hj hji hun' hno' => hap j oj hj hji ?_ hno') (ready_mono hr (Ne.symm e)) h3.1 (h3.2.1 hne) ?_⟩) step
      · by_cases ekj : k = j
        · subst ekj; exact hun
        · rw [getD_set_ne true ekj] at hun'; exact hun'
      · rw [Array.setIfInBounds_comm _ _ e]
        exact h3.2.2
theorem AnyTill.take {i : Nat} {oi : Oper} {v : Value} {n : Nat} {done : Array Bool} {a : Act} {w : World} (hi : ops[i]? = some oi)
    (hs : Region.noSelect ops = true) (hf : Region.free md ops done i = true) (hr : (Region.ready md ops done).contains i = true) (hw : waitsFor md ops kz i = true)
    (hQ : ∀ c a w, Q (.panic c) (a.put oi.dst v) w → Q (.panic c) a w) (hy : YieldsIf P ops S oi v a) (hS : S w)
    (h : AnyTill P md ops Q S kz n (done.setIfInBounds i true) (a.put oi.dst v) w) : AnyTill P md ops Q S kz (n + 1) done a w :=
  AnyTill.first hi (Region.noSelect_spec hs) hQ hw n (Region.free_spec hi hf) (by simpa using hr) hy hS h
/-- One alone may come up. -/
theorem AnyTill.one {i : Nat} {o : Oper} {n : Nat} {done : Array Bool} {a : Act} {w : World} (hr : Region.ready md ops done = [i]) (ho : ops[i]? = some o)
    (h : ∀ K : Act → World → Prop, Shut (∀ b u, (i ≠ kz → S u) → AnyTill P md ops Q S kz n (done.setIfInBounds i true) b u → K b u) → if Region.wanted o (yielded ops a.tmps) = true then Oper.wp P o a w K Q else K (a.put o.dst undef) w) :
    AnyTill P md ops Q S kz (n + 1) done a w := by
  refine ⟨fun h0 => (by rw [hr] at h0; cases h0), fun k hk => ?_⟩
  rw [hr] at hk
  have e : k = i := by simpa using hk
  subst e
  exact wpOp_step ho (fun K hK => h K (fun b u h1 h2 => hK b u ⟨h1, h2⟩))
/-- One of two may come up. -/
theorem AnyTill.two {i j : Nat} {o o' : Oper} {n : Nat} {done : Array Bool} {a : Act} {w : World} (hr : Region.ready md ops done = [i, j]) (ho : ops[i]? = some o) (ho' : ops[j]? = some o')
    (h : ∀ K : Act → World → Prop, Shut (∀ b u, (i ≠ kz → S u) → AnyTill P md ops Q S kz n (done.setIfInBounds i true) b u → K b u) → if Region.wanted o (yielded ops a.tmps) = true then Oper.wp P o a w K Q else K (a.put o.dst undef) w)
    (h' : ∀ K : Act → World → Prop, Shut (∀ b u, (j ≠ kz → S u) → AnyTill P md ops Q S kz n (done.setIfInBounds j true) b u → K b u) → if Region.wanted o' (yielded ops a.tmps) = true then Oper.wp P o' a w K Q else K (a.put o'.dst undef) w) :
    AnyTill P md ops Q S kz (n + 1) done a w := by
  refine ⟨fun h0 => (by rw [hr] at h0; cases h0), fun k hk => ?_⟩
  rw [hr] at hk
  have e : k = i ∨ k = j := by simpa using hk
  rcases e with e | e
  · subst e
    exact wpOp_step ho (fun K hK => h K (fun b u h1 h2 => hK b u ⟨h1, h2⟩))
  · subst e
    exact wpOp_step ho' (fun K hK => h' K (fun b u h1 h2 => hK b u ⟨h1, h2⟩))
theorem AnyTill.done {done : Array Bool} {a : Act} {w : World} (hr : Region.ready md ops done = []) (h : Q .normal a w) : ∀ n, AnyTill P md ops Q S kz n done a w
  | 0 => ⟨hr, h⟩
  | _ + 1 => ⟨fun _ => h, by rw [hr]; simp⟩
theorem region_till {id : Nat} {a : Act} {w : World} (hm : P.follows .mixedOrders = true) (hS : S w.drew)
    (h : S w.drew → AnyTill P .any ops Q S kz ops.size (Array.replicate ops.size false) a w.drew) : (Code.region id ops true).wp P Q a w :=
  wp_region_any hm (h hS).any
end
end Go.Proofs.Ytlhcleocdlnbdaa

namespace Go.Proofs.Ytlhcleocdlnbdaa
open Go.ChangeShapes Go.WideShapes Go.ChangeAt Go.RowKit Go.Deep
set_option linter.unusedVariables false
set_option maxHeartbeats 2000000
variable {w : World} {p : Pl} {s : St} {rb : Nat} {r : RS} {a : Option Addr} {cap : Nat} {V : Nat → Value} {B0 mb nb : Nat} {G : List Nat} {L : List Blk} {aN : Option Addr} {capN : Nat} {VN : Nat → Value} {vg : Value}

theorem Try.info3 : (Try.prog.info? 3).map (fun i => (i.zero, i.size, i.bytes)) = some (some (.int .i64 0), 1, 8) := by kernel_rfl
theorem wpList_append_int {w : World} {ops : Array Oper} {rest : List Oper} {o : Oper} {a : Act} {Q : Exit → Act → World → Prop} (hgd : o.guard = none) (s x : Operand)
    (ho : o.op = .call { callee := .builtin .append, args := #[s, x], argTypes := #[119, 119] }) (B : Nat) (v : Value) (n : Nat) (xs : List Value) (hs : a.eval s = v) (hown : w.ownsRow B 3 1 v n xs)
    (ad : Addr) (c : Nat) (u : Int) (hx : a.eval x = .slice (some ad) 1 c) (hu : w.cell? (ad.add 0) = some (.int .i64 u)) (hn : n ≤ 1000000) (hB : B ≤ w.heap.size)
    (h : ∀ g cap w', w'.ownsRow B 3 1 (.slice (some ⟨g, 0, none⟩) (n + 1) cap) (n + 1) (xs ++ [.int .i64 u]) → w.grownBy w' v.ownBlock → B ≤ g → wpList Try.prog ops Q rest (a.put o.dst (.slice (some ⟨g, 0, none⟩) (n + 1) cap)) w') : wpList Try.prog ops Q (o :: rest) a w := by
  obtain ⟨i0, hi, hz0, hz1, hz2⟩ := info_parts Try.info3
  refine wpList_append_own w hgd s x 119 ho B 3 i0 (.int .i64 0) 1 8 Try.underlying119 hi hz0 hz1 hz2 rfl (by decide) v n xs hs hown ad 1 c [.int .i64 u] hx rfl ?_ ?_ (by unfold maxLen; omega) (by omega) hB ?_
  · intro j y hy
    match j, hy with
    | 0, hy => simp at hy; subst hy; exact hu
  · intro y hy; simp at hy; subst hy; rfl
  · intro v' w' h1 h2 _
    obtain ⟨g, cap, rfl, hg⟩ := own_shape h1
    exact h g cap w' h1 h2 hg
theorem field_copy {w : World} {B : Nat} {v : Value} {F : List Int} {va : Option Addr} {vc : Nat} (h : FieldOf w B v F) (hv : v = .slice va F.length vc) : (va = none → F.length = 0 ∧ vc = 0) ∧ ∀ W, Below w.heap.size w W → ∀ j, j < F.length → ∃ ad, va = some ad ∧ W.cell? (ad.add j) = some (.int .u64 (F.getD j 0)) := by
  obtain ⟨a, cap, e, hn, hc⟩ := h
  rw [hv] at e
  simp only [Value.slice.injEq, true_and] at e
  obtain ⟨rfl, rfl⟩ := e
  refine ⟨hn, fun W hW j hj => ?_⟩
  cases va with
  | none => have := (hn rfl).1; omega
  | some ad =>
    obtain ⟨g, e2, hb, ho⟩ := hc ad rfl
    refine ⟨ad, rfl, ?_⟩
    rw [e2]
    have e3 : (Addr.mk g 0 none).add j = ⟨g, j, none⟩ := by
      cases j with
      | zero => rfl
      | succ j => simp [Addr.add]
    rw [e3]
    exact (hW.cell (p := ⟨g, j, none⟩) ho.lt).trans (ho.cell hj)
theorem below_grown {w2 W w' : World} {g0 : Nat} (h : Below w2.heap.size w2 W) (gr : W.grownBy w' (some g0)) (hg : w2.heap.size ≤ g0) : Below w2.heap.size w2 w' :=
  h.grown gr h.size (fun k hk => by cases hk; exact hg)
theorem rtop_eq (B T : Nat) (w : World) (h : Rf w rb r a cap V) (hB : B = r.n * r.which) (hn : r.n ≤ 32768) (hw : r.which ≤ 1) (hB2 : B ≤ 32768) (hL : lenB r.L ≤ 100000) (hLl : r.L.length ≤ 100000) (hT : B + lenB r.L = T) :
    Calls Try.prog 63 #[.pointer (some ⟨rb, 0, none⟩)] w fun e w' => e = .returned (.int .i64 T) ∧ ∃ m, w' = w.drewN m := by
  subst hT; exact rtop_any B w h hB hn hw hB2 hL hLl
theorem own_heap {w w' : World} {f m : Nat} {X : Nat → Int} (h : Own w f m X) (e : w'.heap = w.heap) : Own w' f m X := h.of_block (by rw [e])
theorem below_heap {w2 w w' : World} {m : Nat} (h : Below w2.heap.size w2 w) (e : w' = w.drewN m) : Below w2.heap.size w2 w' := by rw [e]; exact below_drewN h m
theorem cells_beside {w2 w3 w4 : World} {o : Obj} {bb : Nat} {cb : Array Value} {tb : TypeId} (n2 : Now w2 B0 mb nb rb r G L aN capN VN vg) (hb : Below w2.heap.size w2 w3) (gr : (w3.alloc o).grownBy w4 (Value.slice aN L.length capN).ownBlock) (hbb : w2.heap[bb]? = some (.cells cb tb (0, 0))) (hne : (Value.slice aN L.length capN).ownBlock ≠ some bb) :
    w4.heap[mb]? = w2.heap[mb]? ∧ w4.heap[bb]? = w2.heap[bb]? := by
  have hmb := lt_of_some n2.hm
  have hbl := lt_of_some hbb
  have hsz := hb.size
  have keep : ∀ q : Nat, q < w2.heap.size → (Value.slice aN L.length capN).ownBlock ≠ some q → w4.heap[q]? = w2.heap[q]? := fun q hq hne => ((gr.block q (by rw [nblk_alloc]; omega) (fun e => hne e.symm)).trans (blk_alloc_lt _ _ _ (by omega))).trans (hb.block q hq)
  refine ⟨keep mb hmb (fun e => ?_), keep bb hbl hne⟩
  obtain ⟨cur, hc, _⟩ := aN_row n2.now mb e
  exact ty_ne n2.hm hc (by decide) rfl
set_option maxRecDepth 100000 in
theorem mword_new (x : Int) (i : Nat) (b : Blk) (ad : Nat) (y : Int) (w : World) (h : Both w p s rb r a cap V) (hn : Now w B0 mb nb rb r G L aN capN VN vg) (h0 : 0 ≤ x) (h1 : x ≤ 18446744073709551615) (hb : r.L[i]? = some b) (g : (s.find x).1 = b.ad)
    (hj : ∀ j : Nat, G[j]? ≠ some i) (hgl : G.length ≤ 100000) (hLG : L.length = G.length) (hLB : lenB L ≤ 100000) (hB0 : B0 ≤ w.heap.size) (had : otherB r + lenB L + 1 = ad) (hy : 2 * ((ad : Int) + (s.find x).2) = y) :
    Calls Try.prog 89 #[.pointer (some ⟨mb, 0, none⟩), .int .u64 x] w fun e w' => e = .returned (.int .u64 y) ∧ ∃ aN' capN' VN' vg', Now w' B0 mb nb rb r (G ++ [i]) (L ++ [⟨ad, b.tag, b.F⟩]) aN' capN' VN' vg' ∧ Fresh w.heap.size L.length VN (L.length + 1) VN' ∧ Only (NotW w B0) w w' := by
  obtain ⟨d0, d1⟩ := find_dist h.rep x
  have HFD : Hid _ := g
  have HBI : Hid _ := hb
  have hil := (List.getElem?_eq_some_iff.1 hb).1
  have hiz := h.sizes
  have hwh := h.rep.wh
  have hfl := (h.rep.tag i b hb).2.2
  have hi6 : (i : Int) ≤ 100000 := by omega
  have hob : otherB r ≤ 32768 := by
    unfold otherB
    rcases (show r.which = 0 ∨ r.which = 1 by omega) with e | e <;> rw [e] <;> omega
  have HOB : Hid (otherB r = r.n * (1 - r.which)) := rfl
  have hrn : r.n ≤ 32768 := by omega
  have HJ : Hid _ := hj
  have HAD : Hid _ := had
  have had2 : ad ≤ 200000 := by omega
  have HP : Hid (ptrW ((ad : Int) + (s.find x).2) = y) := by show _ = _; unfold ptrW; rw [if_neg (by omega)]; exact hy
  obtain ⟨c0, c1, c2, c3⟩ := hn.cells
  have HLG : Hid (L.length = G.length) := hLG
  have hll : L.length ≤ 100000 := by omega
  clear g hb hj hiz had hy hLG
  generalize otherB r = OB at *
  go_enter Try.func89, Try.ntmps89
  go_wp2_with (go_at_call 42; refine (rfind_yes x i b _ h h0 h1 HBI.out HFD.out).mono ?_; rintro e w1 ⟨rfl, m, hw1⟩; have n1 := hn.drewN m; have bo1 := h.drewN m; have o1 := (Only.refl (NotW w B0) w).drewN m; have HS1 := hidden (show w.heap.size ≤ (w.drewN m).heap.size from Nat.le_refl _); rw [← hw1] at n1 bo1 o1 HS1; clear hw1)
  generalize hD : (s.find x).2 = D at *
  clear hD c0 c1 c2 c3 hn h
  obtain ⟨c0, c1, c2, c3⟩ := n1.cells
  obtain ⟨al, cg, rfl, hcell⟩ := ints_cell n1.hg
  have HCELL : Hid _ := hcell
  clear hcell
  go_loop [7] (fun v => ∃ j : Nat, j ≤ G.length ∧ v = .int .i64 j) (fun v => G.length - (intOf v).toNat)
  case atStart => exact ⟨0, Nat.zero_le _, rfl⟩
  case round =>
    obtain ⟨j, hj, rfl⟩ := hrel
    by_cases hlt : j < G.length
    · obtain ⟨g, rfl, hcg⟩ := HCELL.out j _ (List.getElem?_eq_getElem (by omega))
      have hne : (((G[j]'(by omega) : Nat) : Int) == (i : Int)) = false := by
        rw [beq_eq_false_iff_ne]
        intro e
        have e2 : G[j]'(by omega) = i := by omega
        exact HJ.out j (by rw [List.getElem?_eq_getElem (by omega), e2])
      generalize G[j]'(by omega) = u at *
      go_wp2
      go_round
      case rel => exact ⟨j + 1, by omega, by go_num⟩
      case measure => simp [intOf]; omega
    · obtain ⟨e0, e1, e2, e3⟩ := bo1.rf.cells
      obtain ⟨ga, rfl, f1, f2, f3, f4⟩ := bo1.rf.row (by omega)
      obtain ⟨q0, q1, q2, q3⟩ := f4 i b HBI.out
      obtain ⟨va, vc, hv⟩ := field_len q3
      have HV : Hid _ := hv
      rw [hv] at q2
      have x1 : (i : Int) < (r.L.length : Int) := by omega
      have x0 : (0 : Int) ≤ (i : Int) := by omega
      have HF : Hid _ := field_copy q3 HV.out
      clear f4 hv q3
      go_wp2_with fail
      have bA : Below w1.heap.size w1 (w1.alloc (.cells #[.int .i64 b.ad, .int .i64 b.tag, .slice va b.F.length vc] 85)) := (Below.refl _ _).alloc (Nat.le_refl _) _
      have hbb : (w1.alloc (.cells #[.int .i64 b.ad, .int .i64 b.tag, .slice va b.F.length vc] 85)).heap[w1.heap.size]? = some (.cells #[.int .i64 b.ad, .int .i64 b.tag, .slice va b.F.length vc] 85 (0, 0)) := blk_alloc_new _ _
      have n2 := n1.below bA
      have o2 : Only (NotW w B0) w (w1.alloc (.cells #[.int .i64 b.ad, .int .i64 b.tag, .slice va b.F.length vc] 85)) := o1.alloc _
      have hs2 : w1.heap.size < (w1.alloc (.cells #[.int .i64 b.ad, .int .i64 b.tag, .slice va b.F.length vc] 85)).heap.size := by rw [nblk_alloc]; omega
      have HF2 : Hid ((va = none → b.F.length = 0 ∧ vc = 0) ∧ ∀ W, Below (w1.alloc (.cells #[.int .i64 b.ad, .int .i64 b.tag, .slice va b.F.length vc] 85)).heap.size (w1.alloc (.cells #[.int .i64 b.ad, .int .i64 b.tag, .slice va b.F.length vc] 85)) W → ∀ j, j < b.F.length → ∃ ad, va = some ad ∧ W.cell? (ad.add j) = some (.int .u64 (b.F.getD j 0))) := ⟨HF.out.1, fun W hW => HF.out.2 W (bA.trans (hW.mono (Nat.le_of_lt hs2)))⟩
      have HSZ : Hid (w.heap.size ≤ w1.heap.size) := HS1.out
      have hne : (Value.slice aN L.length capN).ownBlock ≠ some w1.heap.size := by
        intro e
        obtain ⟨cur, hc, _⟩ := aN_row n1.now _ e
        have := lt_of_some hc
        omega
      generalize hbbn : w1.heap.size = bb at *
      generalize w1.alloc (.cells #[.int .i64 b.ad, .int .i64 b.tag, .slice va b.F.length vc] 85) = w2 at *
      clear bA q0 q1 q2 f1 f2 f3 e0 e1 e2 e3 c0 c1 c2 c3 HCELL bo1 hbbn n1 o1
      obtain ⟨c0, c1, c2, c3⟩ := n2.cells
      obtain ⟨e0, e1, e2, e3⟩ := n2.now.cells
      obtain ⟨⟨b0, b1, b2⟩, b3⟩ := three_cells hbb
      have hnb := lt_of_some n2.now.hr
      have hmb := lt_of_some n2.hm
      have HSF : Hid (∀ W, Below w2.heap.size w2 W → W.cell? ⟨mb, 1, none⟩ = some (.pointer (some ⟨nb, 0, none⟩)) ∧ W.cell? ⟨nb, 2, none⟩ = some (.slice aN L.length capN) ∧ W.cell? ⟨bb, 1, none⟩ = some (.int .i64 b.tag) ∧ W.cell? ⟨bb, 2, none⟩ = some (.slice va b.F.length vc) ∧ ∀ o, (W.alloc o).cell? ⟨nb, 2, none⟩ = some (.slice aN L.length capN)) := fun W hW =>
        ⟨(hW.cell (p := ⟨mb, 1, none⟩) hmb).trans c1, (hW.cell (p := ⟨nb, 2, none⟩) hnb).trans e2, (hW.cell (p := ⟨bb, 1, none⟩) hs2).trans b1, (hW.cell (p := ⟨bb, 2, none⟩) hs2).trans b2, fun o => ((hW.alloc hW.size o).cell (p := ⟨nb, 2, none⟩) hnb).trans e2⟩
      have BZ : Hid (Below w2.heap.size w2 w2.drew) := below_drewN (Below.refl _ _) 1
      have BA : Hid (∀ o, Below w2.heap.size w2 (w2.drew.alloc o)) := fun o => BZ.out.alloc (Nat.le_refl _) o
      obtain ⟨k1, k2, k3, k4, k5⟩ := HSF.out _ BZ.out
      obtain ⟨T, hT⟩ : ∃ T, T = OB + lenB L := ⟨_, rfl⟩
      have HT : Hid (OB + lenB L = T) := hT.symm
      have HTA : Hid ((T : Int) + 1 = (ad : Int)) := by have := HAD.out; show _ = _; omega
      have hT2 : T ≤ 200000 := by omega
      have e9 := wrapId ((T : Int) + 1) (by omega) (by omega)
      have hw1 : 1 - r.which ≤ 1 := by omega
      have nm1 : mb ≠ nb := ty_ne n2.hm n2.now.hr (by decide)
      have nm2 : bb ≠ nb := ty_ne hbb n2.now.hr (by decide)
      have nm3 : nb ≠ mb := fun e => nm1 e.symm
      have nm4 : nb ≠ bb := fun e => nm2 e.symm
      have HBB : Hid _ := hbb
      have HS2 : Hid (w.heap.size ≤ w2.heap.size) := by have := HSZ.out; show _ ≤ _; omega
      clear hbb hT c0 c2 e0 e1 b0
      go_cut [] from 63 to 90 (fun wx => ∃ g' cap' f capf, Now wx B0 mb nb rb r G (L ++ [⟨ad, b.tag, b.F⟩]) (some ⟨g', 0, none⟩) cap' (fun i => if i < L.length then VN i else .slice (some ⟨f, 0, none⟩) b.F.length capf) (.slice al G.length cg) ∧ Fresh w.heap.size L.length VN (L.length + 1) (fun i => if i < L.length then VN i else .slice (some ⟨f, 0, none⟩) b.F.length capf) ∧ Only (NotW w B0) w wx)
      case first =>
        refine region_till (S := (fun w' => w'.cell? ⟨mb, 1, none⟩ = some (.pointer (some ⟨nb, 0, none⟩)) ∧ w'.cell? ⟨nb, 2, none⟩ = some (.slice aN L.length capN) ∧ w'.cell? ⟨bb, 1, none⟩ = some (.int .i64 b.tag) ∧ w'.cell? ⟨bb, 2, none⟩ = some (.slice va b.F.length vc))) (kz := 28) (by kernel_rfl) ⟨k1, k2, k3, k4⟩ (fun hHeld => ?_)
        refine AnyTill.take (i := 0) (oi := { dst := some 63, op := Op.move (Operand.tmp 0), type := 116, pos := "ref.go:28", after := #[], guard := none }) (v := ?_) rfl (by kernel_rfl) (by kernel_rfl) (by kernel_rfl) (by kernel_rfl) (fun _ _ _ h => h) (Or.inl ⟨by rfl, ?_⟩) hHeld ?_
        rotate_left
        · (intro w hSw; (try dsimp only at hSw); go_simp; (try with_reducible rfl))
        (try simp only [Act.put, List.setIfInBounds_toArray, List.set_cons_zero, List.set_cons_succ])
        refine AnyTill.take (i := 1) (oi := { dst := some 64, op := Op.nilCheck (Operand.tmp 63), type := 0, pos := "ref.go:28", after := #[{ on := 0, ground := Ground.data }], guard := none }) (v := ?_) rfl (by kernel_rfl) (by kernel_rfl) (by kernel_rfl) (by kernel_rfl) (fun _ _ _ h => h) (Or.inl ⟨by rfl, ?_⟩) hHeld ?_
        rotate_left
        · (intro w hSw; (try dsimp only at hSw); go_simp; (try with_reducible rfl))
        (try simp only [Act.put, List.setIfInBounds_toArray, List.set_cons_zero, List.set_cons_succ])
        refine AnyTill.take (i := 2) (oi := { dst := some 65, op := Op.fieldAddr 121 (Operand.tmp 64) 1, type := 0, pos := "ref.go:28", after := #[{ on := 1, ground := Ground.data }], guard := none }) (v := ?_) rfl (by kernel_rfl) (by kernel_rfl) (by kernel_rfl) (by kernel_rfl) (fun _ _ _ h => h) (Or.inl ⟨by rfl, ?_⟩) hHeld ?_
        rotate_left
        · (intro w hSw; (try dsimp only at hSw); go_simp; (try with_reducible rfl))
        (try simp only [Act.put, List.setIfInBounds_toArray, List.set_cons_zero, List.set_cons_succ])
        refine AnyTill.take (i := 3) (oi := { dst := some 66, op := Op.load 41 (Operand.tmp 65), type := 41, pos := "ref.go:28", after := #[{ on := 2, ground := Ground.data }], guard := none }) (v := ?_) rfl (by kernel_rfl) (by kernel_rfl) (by kernel_rfl) (by kernel_rfl) (fun _ _ _ h => h) (Or.inl ⟨by rfl, ?_⟩) hHeld ?_
        rotate_left
        · (intro w hSw; (try dsimp only at hSw); go_simp; (try with_reducible rfl))
        (try simp only [Act.put, List.setIfInBounds_toArray, List.set_cons_zero, List.set_cons_succ])
        refine AnyTill.take (i := 4) (oi := { dst := some 67, op := Op.move (Operand.tmp 0), type := 116, pos := "ref.go:28", after := #[], guard := none }) (v := ?_) rfl (by kernel_rfl) (by kernel_rfl) (by kernel_rfl) (by kernel_rfl) (fun _ _ _ h => h) (Or.inl ⟨by rfl, ?_⟩) hHeld ?_
        rotate_left
        · (intro w hSw; (try dsimp only at hSw); go_simp; (try with_reducible rfl))
        (try simp only [Act.put, List.setIfInBounds_toArray, List.set_cons_zero, List.set_cons_succ])
        refine AnyTill.take (i := 5) (oi := { dst := some 68, op := Op.nilCheck (Operand.tmp 67), type := 0, pos := "ref.go:28", after := #[{ on := 4, ground := Ground.data }], guard := none }) (v := ?_) rfl (by kernel_rfl) (by kernel_rfl) (by kernel_rfl) (by kernel_rfl) (fun _ _ _ h => h) (Or.inl ⟨by rfl, ?_⟩) hHeld ?_
        rotate_left
        · (intro w hSw; (try dsimp only at hSw); go_simp; (try with_reducible rfl))
        (try simp only [Act.put, List.setIfInBounds_toArray, List.set_cons_zero, List.set_cons_succ])
        refine AnyTill.take (i := 6) (oi := { dst := some 69, op := Op.fieldAddr 121 (Operand.tmp 68) 1, type := 0, pos := "ref.go:28", after := #[{ on := 5, ground := Ground.data }], guard := none }) (v := ?_) rfl (by kernel_rfl) (by kernel_rfl) (by kernel_rfl) (by kernel_rfl) (fun _ _ _ h => h) (Or.inl ⟨by rfl, ?_⟩) hHeld ?_
        rotate_left
        · (intro w hSw; (try dsimp only at hSw); go_simp; (try with_reducible rfl))
        (try simp only [Act.put, List.setIfInBounds_toArray, List.set_cons_zero, List.set_cons_succ])
        refine AnyTill.take (i := 7) (oi := { dst := some 70, op := Op.load 41 (Operand.tmp 69), type := 41, pos := "ref.go:28", after := #[{ on := 6, ground := Ground.data }], guard := none }) (v := ?_) rfl (by kernel_rfl) (by kernel_rfl) (by kernel_rfl) (by kernel_rfl) (fun _ _ _ h => h) (Or.inl ⟨by rfl, ?_⟩) hHeld ?_
        rotate_left
        · (intro w hSw; (try dsimp only at hSw); go_simp; (try with_reducible rfl))
        (try simp only [Act.put, List.setIfInBounds_toArray, List.set_cons_zero, List.set_cons_succ])
        refine AnyTill.take (i := 8) (oi := { dst := some 71, op := Op.nilCheck (Operand.tmp 70), type := 0, pos := "ref.go:28", after := #[{ on := 7, ground := Ground.data }], guard := none }) (v := ?_) rfl (by kernel_rfl) (by kernel_rfl) (by kernel_rfl) (by kernel_rfl) (fun _ _ _ h => h) (Or.inl ⟨by rfl, ?_⟩) hHeld ?_
        rotate_left
        · (intro w hSw; (try dsimp only at hSw); go_simp; (try with_reducible rfl))
        (try simp only [Act.put, List.setIfInBounds_toArray, List.set_cons_zero, List.set_cons_succ])
        refine AnyTill.take (i := 9) (oi := { dst := some 72, op := Op.fieldAddr 88 (Operand.tmp 71) 2, type := 0, pos := "ref.go:28", after := #[{ on := 8, ground := Ground.data }], guard := none }) (v := ?_) rfl (by kernel_rfl) (by kernel_rfl) (by kernel_rfl) (by kernel_rfl) (fun _ _ _ h => h) (Or.inl ⟨by rfl, ?_⟩) hHeld ?_
        rotate_left
        · (intro w hSw; (try dsimp only at hSw); go_simp; (try with_reducible rfl))
        (try simp only [Act.put, List.setIfInBounds_toArray, List.set_cons_zero, List.set_cons_succ])
        refine AnyTill.take (i := 10) (oi := { dst := some 73, op := Op.load 86 (Operand.tmp 72), type := 86, pos := "ref.go:28", after := #[{ on := 9, ground := Ground.data }], guard := none }) (v := ?_) rfl (by kernel_rfl) (by kernel_rfl) (by kernel_rfl) (by kernel_rfl) (fun _ _ _ h => h) (Or.inl ⟨by rfl, ?_⟩) hHeld ?_
        rotate_left
        · (intro w hSw; (try dsimp only at hSw); go_simp; (try with_reducible rfl))
        (try simp only [Act.put, List.setIfInBounds_toArray, List.set_cons_zero, List.set_cons_succ])
        refine AnyTill.take (i := 11) (oi := { dst := some 74, op := Op.move (Operand.tmp 0), type := 116, pos := "ref.go:28", after := #[], guard := none }) (v := ?_) rfl (by kernel_rfl) (by kernel_rfl) (by kernel_rfl) (by kernel_rfl) (fun _ _ _ h => h) (Or.inl ⟨by rfl, ?_⟩) hHeld ?_
        rotate_left
        · (intro w hSw; (try dsimp only at hSw); go_simp; (try with_reducible rfl))
        (try simp only [Act.put, List.setIfInBounds_toArray, List.set_cons_zero, List.set_cons_succ])
        refine AnyTill.take (i := 12) (oi := { dst := some 75, op := Op.nilCheck (Operand.tmp 74), type := 0, pos := "ref.go:28", after := #[{ on := 11, ground := Ground.data }], guard := none }) (v := ?_) rfl (by kernel_rfl) (by kernel_rfl) (by kernel_rfl) (by kernel_rfl) (fun _ _ _ h => h) (Or.inl ⟨by rfl, ?_⟩) hHeld ?_
        rotate_left
        · (intro w hSw; (try dsimp only at hSw); go_simp; (try with_reducible rfl))
        (try simp only [Act.put, List.setIfInBounds_toArray, List.set_cons_zero, List.set_cons_succ])
        refine AnyTill.take (i := 13) (oi := { dst := some 76, op := Op.fieldAddr 121 (Operand.tmp 75) 1, type := 0, pos := "ref.go:28", after := #[{ on := 12, ground := Ground.data }], guard := none }) (v := ?_) rfl (by kernel_rfl) (by kernel_rfl) (by kernel_rfl) (by kernel_rfl) (fun _ _ _ h => h) (Or.inl ⟨by rfl, ?_⟩) hHeld ?_
        rotate_left
        · (intro w hSw; (try dsimp only at hSw); go_simp; (try with_reducible rfl))
        (try simp only [Act.put, List.setIfInBounds_toArray, List.set_cons_zero, List.set_cons_succ])
        refine AnyTill.take (i := 14) (oi := { dst := some 77, op := Op.load 41 (Operand.tmp 76), type := 41, pos := "ref.go:28", after := #[{ on := 13, ground := Ground.data }], guard := none }) (v := ?_) rfl (by kernel_rfl) (by kernel_rfl) (by kernel_rfl) (by kernel_rfl) (fun _ _ _ h => h) (Or.inl ⟨by rfl, ?_⟩) hHeld ?_
        rotate_left
        · (intro w hSw; (try dsimp only at hSw); go_simp; (try with_reducible rfl))
        (try simp only [Act.put, List.setIfInBounds_toArray, List.set_cons_zero, List.set_cons_succ])
        refine AnyTill.take (i := 17) (oi := { dst := some 80, op := Op.fieldAddr 85 (Operand.tmp 8) 1, type := 0, pos := "ref.go:28", after := #[], guard := none }) (v := ?_) rfl (by kernel_rfl) (by kernel_rfl) (by kernel_rfl) (by kernel_rfl) (fun _ _ _ h => h) (Or.inl ⟨by rfl, ?_⟩) hHeld ?_
        rotate_left
        · (intro w hSw; (try dsimp only at hSw); go_simp; (try with_reducible rfl))
        (try simp only [Act.put, List.setIfInBounds_toArray, List.set_cons_zero, List.set_cons_succ])
        refine AnyTill.take (i := 18) (oi := { dst := some 81, op := Op.load 3 (Operand.tmp 80), type := 3, pos := "ref.go:28", after := #[{ on := 17, ground := Ground.data }], guard := none }) (v := ?_) rfl (by kernel_rfl) (by kernel_rfl) (by kernel_rfl) (by kernel_rfl) (fun _ _ _ h => h) (Or.inl ⟨by rfl, ?_⟩) hHeld ?_
        rotate_left
        · (intro w hSw; (try dsimp only at hSw); go_simp; (try with_reducible rfl))
        (try simp only [Act.put, List.setIfInBounds_toArray, List.set_cons_zero, List.set_cons_succ])
        refine AnyTill.take (i := 20) (oi := { dst := some 83, op := Op.fieldAddr 85 (Operand.tmp 8) 2, type := 0, pos := "ref.go:28", after := #[], guard := none }) (v := ?_) rfl (by kernel_rfl) (by kernel_rfl) (by kernel_rfl) (by kernel_rfl) (fun _ _ _ h => h) (Or.inl ⟨by rfl, ?_⟩) hHeld ?_
        rotate_left
        · (intro w hSw; (try dsimp only at hSw); go_simp; (try with_reducible rfl))
        (try simp only [Act.put, List.setIfInBounds_toArray, List.set_cons_zero, List.set_cons_succ])
        refine AnyTill.take (i := 21) (oi := { dst := some 84, op := Op.load 27 (Operand.tmp 83), type := 27, pos := "ref.go:28", after := #[{ on := 20, ground := Ground.data }], guard := none }) (v := ?_) rfl (by kernel_rfl) (by kernel_rfl) (by kernel_rfl) (by kernel_rfl) (fun _ _ _ h => h) (Or.inl ⟨by rfl, ?_⟩) hHeld ?_
        rotate_left
        · (intro w hSw; (try dsimp only at hSw); go_simp; (try with_reducible rfl))
        (try simp only [Act.put, List.setIfInBounds_toArray, List.set_cons_zero, List.set_cons_succ])
        refine AnyTill.two (i := 15) (j := 19) (o := { dst := some 78, op := Op.call { callee := Callee.value (Operand.func 63), args := #[Operand.tmp 77], argTypes := #[41] }, type := 3, pos := "ref.go:28", after := #[{ on := 14, ground := Ground.data }], guard := none }) (o' := { dst := some 82, op := Op.buildSlice 27 0 #[], type := 27, pos := "ref.go:28", after := #[], guard := none }) (by kernel_rfl) rfl rfl (fun K hK => ?_) (fun K hK => ?_)
        · go_simp
          refine (rtop_eq OB T _ (n2.below BZ.out).now HOB.out hrn hw1 hob hLB hll HT.out).mono ?_
          rintro e w3 ⟨rfl, m3, hw3⟩
          have B3 := hidden (below_heap BZ.out hw3)
          have K3 := hidden (congrArg World.heap hw3)
          clear hw3
          obtain ⟨s31, s32, s33, s34, s35⟩ := HSF.out _ B3.out
          clear hHeld
          refine hK.out _ _ (fun _ => ⟨s31, s32, s33, s34⟩) ?_
          have hHeld : (fun w' => w'.cell? ⟨mb, 1, none⟩ = some (.pointer (some ⟨nb, 0, none⟩)) ∧ w'.cell? ⟨nb, 2, none⟩ = some (.slice aN L.length capN) ∧ w'.cell? ⟨bb, 1, none⟩ = some (.int .i64 b.tag) ∧ w'.cell? ⟨bb, 2, none⟩ = some (.slice va b.F.length vc)) w3 := ⟨s31, s32, s33, s34⟩
          clear hK K
          (try simp only [Act.put, List.setIfInBounds_toArray, List.set_cons_zero, List.set_cons_succ])
          refine AnyTill.take (i := 16) (oi := { dst := some 79, op := Op.binOp BinOp.add 3 (Operand.tmp 78) (Operand.const (Value.int IntKind.i64 1)) 3, type := 3, pos := "ref.go:28", after := #[{ on := 15, ground := Ground.data }], guard := none }) (v := ?_) rfl (by kernel_rfl) (by kernel_rfl) (by kernel_rfl) (by kernel_rfl) (fun _ _ _ h => h) (Or.inl ⟨by rfl, ?_⟩) hHeld ?_
          rotate_left
          · (intro w hSw; (try dsimp only at hSw); go_simp; (try with_reducible rfl))
          (try simp only [Act.put, List.setIfInBounds_toArray, List.set_cons_zero, List.set_cons_succ])
          refine AnyTill.one (i := 19) (o := { dst := some 82, op := Op.buildSlice 27 0 #[], type := 27, pos := "ref.go:28", after := #[], guard := none }) (by kernel_rfl) rfl (fun K hK => ?_)
          go_simp
          obtain ⟨q31, q32, q33, q34, q35⟩ := HSF.out _ (B3.out.alloc B3.out.size (.cells #[] 29))
          clear hHeld
          refine hK.out _ _ (fun _ => ⟨q31, q32, q33, q34⟩) ?_
          clear hK K
          (try simp only [Act.put, List.setIfInBounds_toArray, List.set_cons_zero, List.set_cons_succ])
          refine AnyTill.one (i := 22) (o := { dst := some 85, op := Op.call { callee := Callee.builtin Builtin.append, args := #[Operand.tmp 82, Operand.tmp 84], argTypes := #[27, 27] }, type := 27, pos := "ref.go:28", after := #[{ on := 19, ground := Ground.data }, { on := 21, ground := Ground.data }, { on := 15, ground := Ground.chain }], guard := none }) (by kernel_rfl) rfl (fun K hK => ?_)
          refine step_append_words rfl (.tmp 82) (.tmp 84) rfl w3.heap.size (by simp [Act.eval]) (by exact blk_alloc_new _ _) va b.F.length vc (by simp [Act.eval]) (fun q => b.F.getD q 0) HF2.out.1 (HF2.out.2 _ (by exact B3.out.alloc B3.out.size _)) (by omega) ?_
          intro f capf w4 hown4 gr4 hgf'
          have hgf := Nat.le_trans B3.out.size hgf'
          have B4 := hidden (below_grown (B3.out.alloc B3.out.size _) gr4 B3.out.size)
          have HOWN4 := hidden hown4
          clear hown4 gr4
          obtain ⟨s41, s42, s43, s44, s45⟩ := HSF.out _ B4.out
          refine hK.out _ _ (fun _ => ⟨s41, s42, s43, s44⟩) ?_
          have hHeld : (fun w' => w'.cell? ⟨mb, 1, none⟩ = some (.pointer (some ⟨nb, 0, none⟩)) ∧ w'.cell? ⟨nb, 2, none⟩ = some (.slice aN L.length capN) ∧ w'.cell? ⟨bb, 1, none⟩ = some (.int .i64 b.tag) ∧ w'.cell? ⟨bb, 2, none⟩ = some (.slice va b.F.length vc)) w4 := ⟨s41, s42, s43, s44⟩
          clear hK K
          (try simp only [Act.put, List.setIfInBounds_toArray, List.set_cons_zero, List.set_cons_succ])
          refine AnyTill.take (i := 23) (oi := { dst := some 86, op := Op.build 85 #[(0, Operand.tmp 79), (1, Operand.tmp 81), (2, Operand.tmp 85)], type := 85, pos := "ref.go:28", after := #[{ on := 16, ground := Ground.data }, { on := 18, ground := Ground.data }, { on := 22, ground := Ground.data }], guard := none }) (v := ?_) rfl (by kernel_rfl) (by kernel_rfl) (by kernel_rfl) (by kernel_rfl) (fun _ _ _ h => h) (Or.inl ⟨by rfl, ?_⟩) hHeld ?_
          rotate_left
          · (intro w hSw; (try dsimp only at hSw); go_simp; (try with_reducible rfl))
          (try simp only [Act.put, List.setIfInBounds_toArray, List.set_cons_zero, List.set_cons_succ])
          refine AnyTill.one (i := 24) (o := { dst := some 87, op := Op.buildSlice 86 1 #[(0, Operand.tmp 86)], type := 86, pos := "ref.go:28", after := #[{ on := 23, ground := Ground.data }], guard := none }) (by kernel_rfl) rfl (fun K hK => ?_)
          go_simp
          obtain ⟨s51, s52, s53, s54, s55⟩ := HSF.out _ (B4.out.alloc B4.out.size (.cells #[.int .i64 ((T : Int) + 1), .int .i64 b.tag, .slice (some ⟨f, 0, none⟩) b.F.length capf] 85))
          clear hHeld
          refine hK.out _ _ (fun _ => ⟨s51, s52, s53, s54⟩) ?_
          clear hK K
          (try simp only [Act.put, List.setIfInBounds_toArray, List.set_cons_zero, List.set_cons_succ])
          refine AnyTill.one (i := 25) (o := { dst := some 88, op := Op.call { callee := Callee.builtin Builtin.append, args := #[Operand.tmp 73, Operand.tmp 87], argTypes := #[86, 86] }, type := 86, pos := "ref.go:28", after := #[{ on := 10, ground := Ground.data }, { on := 24, ground := Ground.data }, { on := 22, ground := Ground.chain }], guard := none }) (by kernel_rfl) rfl (fun K hK => ?_)
          obtain ⟨xs, hx1, hx2⟩ := to_own (n2.below B4.out).now.hl
          refine step_append_block rfl (.tmp 73) (.tmp 87) rfl (nb + 1) aN L.length capN xs (by simp [Act.eval]) (by exact hx1.alloc _) ⟨w4.heap.size, 0, none⟩ 1 ((T : Int) + 1) b.tag (.slice (some ⟨f, 0, none⟩) b.F.length capf) (by simp [Act.eval]) (by simp [Addr.add]) (by simp [Addr.add]) (by simp [Addr.add]) rfl (by omega) (by simp; have := B4.out.size; omega) ?_
          intro g' cap' w5 ho5 gr5 hg5
          obtain ⟨n6, o6, fr6, e6⟩ := now_end n2 B4.out HOWN4.out hgf hx1 hx2 (by rw [← HTA.out]; exact ho5) gr5
          obtain ⟨y1, y2⟩ := cells_beside n2 B4.out gr5 HBB.out hne
          obtain ⟨⟨t0, t1, t2⟩, t3⟩ := three_cells e6
          obtain ⟨⟨u0, u1, u2⟩, u3⟩ := three_cells (y2.trans HBB.out)
          obtain ⟨⟨v0, v1, v2⟩, v3⟩ := three_cells (y1.trans n2.hm)
          have N6 := hidden n6
          have O6 := hidden o6
          have FR6 := hidden fr6
          clear ho5 gr5 hx1 hx2 n6 o6 fr6 y1 y2 e6
          refine hK.out _ _ (fun _ => ⟨v1, t2, u1, u2⟩) ?_
          have hHeld : (fun w' => w'.cell? ⟨mb, 1, none⟩ = some (.pointer (some ⟨nb, 0, none⟩)) ∧ w'.cell? ⟨nb, 2, none⟩ = some (.slice aN L.length capN) ∧ w'.cell? ⟨bb, 1, none⟩ = some (.int .i64 b.tag) ∧ w'.cell? ⟨bb, 2, none⟩ = some (.slice va b.F.length vc)) w5 := ⟨v1, t2, u1, u2⟩
          clear hK K
          (try simp only [Act.put, List.setIfInBounds_toArray, List.set_cons_zero, List.set_cons_succ])
          refine AnyTill.one (i := 26) (o := { dst := some 89, op := Op.nilCheck (Operand.tmp 66), type := 0, pos := "ref.go:28", after := #[{ on := 3, ground := Ground.data }, { on := 0, ground := Ground.phase }, { on := 1, ground := Ground.phase }, { on := 2, ground := Ground.phase }, { on := 3, ground := Ground.phase }, { on := 4, ground := Ground.phase }, { on := 5, ground := Ground.phase }, { on := 6, ground := Ground.phase }, { on := 7, ground := Ground.phase }, { on := 8, ground := Ground.phase }, { on := 9, ground := Ground.phase }, { on := 10, ground := Ground.phase }, { on := 11, ground := Ground.phase }, { on := 12, ground := Ground.phase }, { on := 13, ground := Ground.phase }, { on := 14, ground := Ground.phase }, { on := 15, ground := Ground.phase }, { on := 16, ground := Ground.phase }, { on := 17, ground := Ground.phase }, { on := 18, ground := Ground.phase }, { on := 19, ground := Ground.phase }, { on := 20, ground := Ground.phase }, { on := 21, ground := Ground.phase }, { on := 22, ground := Ground.phase }, { on := 23, ground := Ground.phase }, { on := 24, ground := Ground.phase }, { on := 25, ground := Ground.phase }], guard := none }) (by kernel_rfl) rfl (fun K hK => ?_)
          go_simp
          refine hK.out _ _ (fun _ => hHeld) ?_
          clear hK K
          (try simp only [Act.put, List.setIfInBounds_toArray, List.set_cons_zero, List.set_cons_succ])
          refine AnyTill.one (i := 27) (o := { dst := some 90, op := Op.fieldAddr 88 (Operand.tmp 89) 2, type := 0, pos := "ref.go:28", after := #[{ on := 26, ground := Ground.data }, { on := 0, ground := Ground.phase }, { on := 1, ground := Ground.phase }, { on := 2, ground := Ground.phase }, { on := 3, ground := Ground.phase }, { on := 4, ground := Ground.phase }, { on := 5, ground := Ground.phase }, { on := 6, ground := Ground.phase }, { on := 7, ground := Ground.phase }, { on := 8, ground := Ground.phase }, { on := 9, ground := Ground.phase }, { on := 10, ground := Ground.phase }, { on := 11, ground := Ground.phase }, { on := 12, ground := Ground.phase }, { on := 13, ground := Ground.phase }, { on := 14, ground := Ground.phase }, { on := 15, ground := Ground.phase }, { on := 16, ground := Ground.phase }, { on := 17, ground := Ground.phase }, { on := 18, ground := Ground.phase }, { on := 19, ground := Ground.phase }, { on := 20, ground := Ground.phase }, { on := 21, ground := Ground.phase }, { on := 22, ground := Ground.phase }, { on := 23, ground := Ground.phase }, { on := 24, ground := Ground.phase }, { on := 25, ground := Ground.phase }], guard := none }) (by kernel_rfl) rfl (fun K hK => ?_)
          go_simp
          refine hK.out _ _ (fun _ => hHeld) ?_
          clear hK K
          (try simp only [Act.put, List.setIfInBounds_toArray, List.set_cons_zero, List.set_cons_succ])
          refine AnyTill.one (i := 28) (o := { dst := none, op := Op.store 86 (Operand.tmp 90) (Operand.tmp 88), type := 0, pos := "ref.go:28", after := #[{ on := 27, ground := Ground.data }, { on := 25, ground := Ground.data }, { on := 25, ground := Ground.chain }, { on := 0, ground := Ground.phase }, { on := 1, ground := Ground.phase }, { on := 2, ground := Ground.phase }, { on := 3, ground := Ground.phase }, { on := 4, ground := Ground.phase }, { on := 5, ground := Ground.phase }, { on := 6, ground := Ground.phase }, { on := 7, ground := Ground.phase }, { on := 8, ground := Ground.phase }, { on := 9, ground := Ground.phase }, { on := 10, ground := Ground.phase }, { on := 11, ground := Ground.phase }, { on := 12, ground := Ground.phase }, { on := 13, ground := Ground.phase }, { on := 14, ground := Ground.phase }, { on := 15, ground := Ground.phase }, { on := 16, ground := Ground.phase }, { on := 17, ground := Ground.phase }, { on := 18, ground := Ground.phase }, { on := 19, ground := Ground.phase }, { on := 20, ground := Ground.phase }, { on := 21, ground := Ground.phase }, { on := 22, ground := Ground.phase }, { on := 23, ground := Ground.phase }, { on := 24, ground := Ground.phase }, { on := 25, ground := Ground.phase }], guard := none }) (by kernel_rfl) rfl (fun K hK => ?_)
          go_simp
          refine hK.out _ _ (fun h => absurd rfl h) ?_
          clear hK K hHeld
          refine AnyTill.done (by kernel_rfl) ?_ _
          (try simp only [Act.put, List.setIfInBounds_toArray, List.set_cons_zero, List.set_cons_succ])
          go_wp2_with fail
          go_meet
          exact ⟨g', cap', f, capf, N6.out, FR6.out.mono HS2.out, notW_trans o2 O6.out⟩
        · go_simp
          obtain ⟨q31, q32, q33, q34, q35⟩ := HSF.out _ (BA.out (.cells #[] 29))
          clear hHeld
          refine hK.out _ _ (fun _ => ⟨q31, q32, q33, q34⟩) ?_
          have hHeld : (fun w' => w'.cell? ⟨mb, 1, none⟩ = some (.pointer (some ⟨nb, 0, none⟩)) ∧ w'.cell? ⟨nb, 2, none⟩ = some (.slice aN L.length capN) ∧ w'.cell? ⟨bb, 1, none⟩ = some (.int .i64 b.tag) ∧ w'.cell? ⟨bb, 2, none⟩ = some (.slice va b.F.length vc)) (w2.drew.alloc (.cells #[] 29)) := ⟨q31, q32, q33, q34⟩
          clear hK K
          (try simp only [Act.put, List.setIfInBounds_toArray, List.set_cons_zero, List.set_cons_succ])
          refine AnyTill.one (i := 15) (o := { dst := some 78, op := Op.call { callee := Callee.value (Operand.func 63), args := #[Operand.tmp 77], argTypes := #[41] }, type := 3, pos := "ref.go:28", after := #[{ on := 14, ground := Ground.data }], guard := none }) (by kernel_rfl) rfl (fun K hK => ?_)
          go_simp
          refine (rtop_eq OB T _ (n2.below (BA.out _)).now HOB.out hrn hw1 hob hLB hll HT.out).mono ?_
          rintro e w3 ⟨rfl, m3, hw3⟩
          have B3 := hidden (below_heap (BA.out _) hw3)
          have K3 := hidden (congrArg World.heap hw3)
          clear hw3
          obtain ⟨s31, s32, s33, s34, s35⟩ := HSF.out _ B3.out
          clear hHeld
          refine hK.out _ _ (fun _ => ⟨s31, s32, s33, s34⟩) ?_
          have hHeld : (fun w' => w'.cell? ⟨mb, 1, none⟩ = some (.pointer (some ⟨nb, 0, none⟩)) ∧ w'.cell? ⟨nb, 2, none⟩ = some (.slice aN L.length capN) ∧ w'.cell? ⟨bb, 1, none⟩ = some (.int .i64 b.tag) ∧ w'.cell? ⟨bb, 2, none⟩ = some (.slice va b.F.length vc)) w3 := ⟨s31, s32, s33, s34⟩
          clear hK K
          (try simp only [Act.put, List.setIfInBounds_toArray, List.set_cons_zero, List.set_cons_succ])
          refine AnyTill.take (i := 16) (oi := { dst := some 79, op := Op.binOp BinOp.add 3 (Operand.tmp 78) (Operand.const (Value.int IntKind.i64 1)) 3, type := 3, pos := "ref.go:28", after := #[{ on := 15, ground := Ground.data }], guard := none }) (v := ?_) rfl (by kernel_rfl) (by kernel_rfl) (by kernel_rfl) (by kernel_rfl) (fun _ _ _ h => h) (Or.inl ⟨by rfl, ?_⟩) hHeld ?_
          rotate_left
          · (intro w hSw; (try dsimp only at hSw); go_simp; (try with_reducible rfl))
          (try simp only [Act.put, List.setIfInBounds_toArray, List.set_cons_zero, List.set_cons_succ])
          refine AnyTill.one (i := 22) (o := { dst := some 85, op := Op.call { callee := Callee.builtin Builtin.append, args := #[Operand.tmp 82, Operand.tmp 84], argTypes := #[27, 27] }, type := 27, pos := "ref.go:28", after := #[{ on := 19, ground := Ground.data }, { on := 21, ground := Ground.data }, { on := 15, ground := Ground.chain }], guard := none }) (by kernel_rfl) rfl (fun K hK => ?_)
          refine step_append_words rfl (.tmp 82) (.tmp 84) rfl w2.heap.size (by simp [Act.eval]) (by rw [K3.out]; exact blk_alloc_new _ _) va b.F.length vc (by simp [Act.eval]) (fun q => b.F.getD q 0) HF2.out.1 (HF2.out.2 _ B3.out) (by omega) ?_
          intro f capf w4 hown4 gr4 hgf
          have B4 := hidden (below_grown B3.out gr4 (Nat.le_refl _))
          have HOWN4 := hidden hown4
          clear hown4 gr4
          obtain ⟨s41, s42, s43, s44, s45⟩ := HSF.out _ B4.out
          refine hK.out _ _ (fun _ => ⟨s41, s42, s43, s44⟩) ?_
          have hHeld : (fun w' => w'.cell? ⟨mb, 1, none⟩ = some (.pointer (some ⟨nb, 0, none⟩)) ∧ w'.cell? ⟨nb, 2, none⟩ = some (.slice aN L.length capN) ∧ w'.cell? ⟨bb, 1, none⟩ = some (.int .i64 b.tag) ∧ w'.cell? ⟨bb, 2, none⟩ = some (.slice va b.F.length vc)) w4 := ⟨s41, s42, s43, s44⟩
          clear hK K
          (try simp only [Act.put, List.setIfInBounds_toArray, List.set_cons_zero, List.set_cons_succ])
          refine AnyTill.take (i := 23) (oi := { dst := some 86, op := Op.build 85 #[(0, Operand.tmp 79), (1, Operand.tmp 81), (2, Operand.tmp 85)], type := 85, pos := "ref.go:28", after := #[{ on := 16, ground := Ground.data }, { on := 18, ground := Ground.data }, { on := 22, ground := Ground.data }], guard := none }) (v := ?_) rfl (by kernel_rfl) (by kernel_rfl) (by kernel_rfl) (by kernel_rfl) (fun _ _ _ h => h) (Or.inl ⟨by rfl, ?_⟩) hHeld ?_
          rotate_left
          · (intro w hSw; (try dsimp only at hSw); go_simp; (try with_reducible rfl))
          (try simp only [Act.put, List.setIfInBounds_toArray, List.set_cons_zero, List.set_cons_succ])
          refine AnyTill.one (i := 24) (o := { dst := some 87, op := Op.buildSlice 86 1 #[(0, Operand.tmp 86)], type := 86, pos := "ref.go:28", after := #[{ on := 23, ground := Ground.data }], guard := none }) (by kernel_rfl) rfl (fun K hK => ?_)
          go_simp
          obtain ⟨s51, s52, s53, s54, s55⟩ := HSF.out _ (B4.out.alloc B4.out.size (.cells #[.int .i64 ((T : Int) + 1), .int .i64 b.tag, .slice (some ⟨f, 0, none⟩) b.F.length capf] 85))
          clear hHeld
          refine hK.out _ _ (fun _ => ⟨s51, s52, s53, s54⟩) ?_
          clear hK K
          (try simp only [Act.put, List.setIfInBounds_toArray, List.set_cons_zero, List.set_cons_succ])
          refine AnyTill.one (i := 25) (o := { dst := some 88, op := Op.call { callee := Callee.builtin Builtin.append, args := #[Operand.tmp 73, Operand.tmp 87], argTypes := #[86, 86] }, type := 86, pos := "ref.go:28", after := #[{ on := 10, ground := Ground.data }, { on := 24, ground := Ground.data }, { on := 22, ground := Ground.chain }], guard := none }) (by kernel_rfl) rfl (fun K hK => ?_)
          obtain ⟨xs, hx1, hx2⟩ := to_own (n2.below B4.out).now.hl
          refine step_append_block rfl (.tmp 73) (.tmp 87) rfl (nb + 1) aN L.length capN xs (by simp [Act.eval]) (by exact hx1.alloc _) ⟨w4.heap.size, 0, none⟩ 1 ((T : Int) + 1) b.tag (.slice (some ⟨f, 0, none⟩) b.F.length capf) (by simp [Act.eval]) (by simp [Addr.add]) (by simp [Addr.add]) (by simp [Addr.add]) rfl (by omega) (by simp; have := B4.out.size; omega) ?_
          intro g' cap' w5 ho5 gr5 hg5
          obtain ⟨n6, o6, fr6, e6⟩ := now_end n2 B4.out HOWN4.out hgf hx1 hx2 (by rw [← HTA.out]; exact ho5) gr5
          obtain ⟨y1, y2⟩ := cells_beside n2 B4.out gr5 HBB.out hne
          obtain ⟨⟨t0, t1, t2⟩, t3⟩ := three_cells e6
          obtain ⟨⟨u0, u1, u2⟩, u3⟩ := three_cells (y2.trans HBB.out)
          obtain ⟨⟨v0, v1, v2⟩, v3⟩ := three_cells (y1.trans n2.hm)
          have N6 := hidden n6
          have O6 := hidden o6
          have FR6 := hidden fr6
          clear ho5 gr5 hx1 hx2 n6 o6 fr6 y1 y2 e6
          refine hK.out _ _ (fun _ => ⟨v1, t2, u1, u2⟩) ?_
          have hHeld : (fun w' => w'.cell? ⟨mb, 1, none⟩ = some (.pointer (some ⟨nb, 0, none⟩)) ∧ w'.cell? ⟨nb, 2, none⟩ = some (.slice aN L.length capN) ∧ w'.cell? ⟨bb, 1, none⟩ = some (.int .i64 b.tag) ∧ w'.cell? ⟨bb, 2, none⟩ = some (.slice va b.F.length vc)) w5 := ⟨v1, t2, u1, u2⟩
          clear hK K
          (try simp only [Act.put, List.setIfInBounds_toArray, List.set_cons_zero, List.set_cons_succ])
          refine AnyTill.one (i := 26) (o := { dst := some 89, op := Op.nilCheck (Operand.tmp 66), type := 0, pos := "ref.go:28", after := #[{ on := 3, ground := Ground.data }, { on := 0, ground := Ground.phase }, { on := 1, ground := Ground.phase }, { on := 2, ground := Ground.phase }, { on := 3, ground := Ground.phase }, { on := 4, ground := Ground.phase }, { on := 5, ground := Ground.phase }, { on := 6, ground := Ground.phase }, { on := 7, ground := Ground.phase }, { on := 8, ground := Ground.phase }, { on := 9, ground := Ground.phase }, { on := 10, ground := Ground.phase }, { on := 11, ground := Ground.phase }, { on := 12, ground := Ground.phase }, { on := 13, ground := Ground.phase }, { on := 14, ground := Ground.phase }, { on := 15, ground := Ground.phase }, { on := 16, ground := Ground.phase }, { on := 17, ground := Ground.phase }, { on := 18, ground := Ground.phase }, { on := 19, ground := Ground.phase }, { on := 20, ground := Ground.phase }, { on := 21, ground := Ground.phase }, { on := 22, ground := Ground.phase }, { on := 23, ground := Ground.phase }, { on := 24, ground := Ground.phase }, { on := 25, ground := Ground.phase }], guard := none }) (by kernel_rfl) rfl (fun K hK => ?_)
          go_simp
          refine hK.out _ _ (fun _ => hHeld) ?_
          clear hK K
          (try simp only [Act.put, List.setIfInBounds_toArray, List.set_cons_zero, List.set_cons_succ])
          refine AnyTill.one (i := 27) (o := { dst := some 90, op := Op.fieldAddr 88 (Operand.tmp 89) 2, type := 0, pos := "ref.go:28", after := #[{ on := 26, ground := Ground.data }, { on := 0, ground := Ground.phase }, { on := 1, ground := Ground.phase }, { on := 2, ground := Ground.phase }, { on := 3, ground := Ground.phase }, { on := 4, ground := Ground.phase }, { on := 5, ground := Ground.phase }, { on := 6, ground := Ground.phase }, { on := 7, ground := Ground.phase }, { on := 8, ground := Ground.phase }, { on := 9, ground := Ground.phase }, { on := 10, ground := Ground.phase }, { on := 11, ground := Ground.phase }, { on := 12, ground := Ground.phase }, { on := 13, ground := Ground.phase }, { on := 14, ground := Ground.phase }, { on := 15, ground := Ground.phase }, { on := 16, ground := Ground.phase }, { on := 17, ground := Ground.phase }, { on := 18, ground := Ground.phase }, { on := 19, ground := Ground.phase }, { on := 20, ground := Ground.phase }, { on := 21, ground := Ground.phase }, { on := 22, ground := Ground.phase }, { on := 23, ground := Ground.phase }, { on := 24, ground := Ground.phase }, { on := 25, ground := Ground.phase }], guard := none }) (by kernel_rfl) rfl (fun K hK => ?_)
          go_simp
          refine hK.out _ _ (fun _ => hHeld) ?_
          clear hK K
          (try simp only [Act.put, List.setIfInBounds_toArray, List.set_cons_zero, List.set_cons_succ])
          refine AnyTill.one (i := 28) (o := { dst := none, op := Op.store 86 (Operand.tmp 90) (Operand.tmp 88), type := 0, pos := "ref.go:28", after := #[{ on := 27, ground := Ground.data }, { on := 25, ground := Ground.data }, { on := 25, ground := Ground.chain }, { on := 0, ground := Ground.phase }, { on := 1, ground := Ground.phase }, { on := 2, ground := Ground.phase }, { on := 3, ground := Ground.phase }, { on := 4, ground := Ground.phase }, { on := 5, ground := Ground.phase }, { on := 6, ground := Ground.phase }, { on := 7, ground := Ground.phase }, { on := 8, ground := Ground.phase }, { on := 9, ground := Ground.phase }, { on := 10, ground := Ground.phase }, { on := 11, ground := Ground.phase }, { on := 12, ground := Ground.phase }, { on := 13, ground := Ground.phase }, { on := 14, ground := Ground.phase }, { on := 15, ground := Ground.phase }, { on := 16, ground := Ground.phase }, { on := 17, ground := Ground.phase }, { on := 18, ground := Ground.phase }, { on := 19, ground := Ground.phase }, { on := 20, ground := Ground.phase }, { on := 21, ground := Ground.phase }, { on := 22, ground := Ground.phase }, { on := 23, ground := Ground.phase }, { on := 24, ground := Ground.phase }, { on := 25, ground := Ground.phase }], guard := none }) (by kernel_rfl) rfl (fun K hK => ?_)
          go_simp
          refine hK.out _ _ (fun h => absurd rfl h) ?_
          clear hK K hHeld
          refine AnyTill.done (by kernel_rfl) ?_ _
          (try simp only [Act.put, List.setIfInBounds_toArray, List.set_cons_zero, List.set_cons_succ])
          go_wp2_with fail
          go_meet
          exact ⟨g', cap', f, capf, N6.out, FR6.out.mono HS2.out, notW_trans o2 O6.out⟩
      case rest =>
        obtain ⟨g', cap', f, capf, n3, fr3, o3⟩ := hcut
        clear c1 c3 e2 e3 b1 b2 b3 k1 k2 k3 k4 k5 hnb hmb nm1 nm2 nm3 nm4 e9 hw1
        obtain ⟨c0, c1, c2, c3⟩ := n3.cells
        have hB1 : B0 ≤ wc.heap.size := Nat.le_trans hB0 o3.size
        have FR3 : Hid _ := fr3
        have O3 : Hid _ := o3
        clear fr3 o3
        go_wp2_with (at_builtin; refine wpList_append_int rfl (.tmp 95) (.tmp 97) rfl B0 (.slice al G.length cg) G.length _ rfl (n3.hg.alloc _) ⟨wc.heap.size, 0, none⟩ 1 (i : Int) rfl (by simp [Addr.add]) (by omega) (by rw [nblk_alloc]; omega) ?_; intro g6 cap6 w6 ho6 gr6 hg6; obtain ⟨n7, o7, e7⟩ := now_gone n3 ho6 gr6; obtain ⟨⟨m0, m1, m2⟩, m3⟩ := three_cells e7; have N7 := hidden n7; have O7 := hidden o7; clear n7 o7 e7 ho6 gr6)
        have n8 := N7.out
        have o8 := notW_trans O3.out O7.out
        clear N7 O7 m0 m1 m2 m3 c0 c1 c2 c3 n3 O3
        generalize w6.setCell ⟨mb, 2, none⟩ (.slice (some ⟨g6, 0, none⟩) (G.length + 1) cap6) = w7 at *
        obtain ⟨c0, c1, c2, c3⟩ := n8.cells
        obtain ⟨e0, e1, e2, e3⟩ := n8.now.cells
        obtain ⟨ga', hga, f1, f2, f3, f4⟩ := n8.now.row (by show (L ++ [_]).length ≠ 0; simp)
        have ega : g' = ga' := by simpa using hga
        subst ega
        obtain ⟨q0, q1, q2, q3⟩ := f4 L.length ⟨ad, b.tag, b.F⟩ (by show (L ++ [_])[L.length]? = _; simp)
        have hle : (L ++ [Blk.mk ad b.tag b.F]).length = L.length + 1 := by simp
        have e2' : w7.cell? ⟨nb, 2, none⟩ = some (.slice (some ⟨g', 0, none⟩) (L.length + 1) cap') := by rw [← hle]; exact e2
        have q0' : w7.cell? ⟨g', L.length * 3, none⟩ = some (.int .i64 (ad : Int)) := q0
        have e10 := wrapId (((L.length + 1 : Nat) : Int) - 1) (by omega) (by omega)
        have e11 := wrapId ((ad : Int) + D) (by omega) (by omega)
        clear e0 e1 e2 e3 c0 c2 c3 hga f1 f2 f3 f4 q0 q1 q2 q3 hle
        go_quiet ((go_at_call 65; exact Calls.quiet_of_same (rptr_eq _ y _ (by omega) (by omega) HP.out)))
        go_wp2
        go_ret
        exact ⟨rfl, _, _, _, _, n8.drewN _, FR3.out, o8.drewN _⟩
end Go.Proofs.Ytlhcleocdlnbdaa

namespace Go.Proofs.Ytlhcleocdlnbdaa
open Go.RowKit Go.Deep
set_option linter.unusedVariables false
variable {s : St} {r : RS} {G : List Nat}

/-- The block that is laid as a word moves, if one is. -/
def visitL (s : St) (r : RS) (G : List Nat) (x : Int) : List Blk :=
  match leadI s r x with
  | none => []
  | some i => if i ∈ G then [] else [⟨otherB r + lenG r G + 1, (blkAt r i).tag, (blkAt r i).F⟩]
/-- What has moved, where the first k blocks' words have moved and j words of the next one: the words of a block that is gone through are those of where they lead now. -/
def partB (s : St) (r : RS) (G : List Nat) (k j q : Nat) : Blk :=
  ⟨placeG r (otherB r) G q, (blkAt r (G.getD q 0)).tag, if (blkAt r (G.getD q 0)).tag = 202 then (blkAt r (G.getD q 0)).F else if q < k then (blkAt r (G.getD q 0)).F.map (newW s r (otherB r) G) else if q = k then ((blkAt r (G.getD q 0)).F.take j).map (newW s r (otherB r) G) ++ (blkAt r (G.getD q 0)).F.drop j else (blkAt r (G.getD q 0)).F⟩
def partL (s : St) (r : RS) (G : List Nat) (k j : Nat) : List Blk := (List.range G.length).map (partB s r G k j)
theorem partB_len (s : St) (r : RS) (G : List Nat) (k j q : Nat) : (partB s r G k j q).F.length = (blkAt r (G.getD q 0)).F.length := by
  unfold partB
  show (if _ then _ else if _ then _ else if _ then _ else _ : List Int).length = _
  split
  · rfl
  · split
    · simp
    · split
      · simp; omega
      · rfl
theorem partL_at {s : St} {r : RS} {G : List Nat} {k j q : Nat} (h : q < G.length) : (partL s r G k j)[q]? = some (partB s r G k j q) := by
  unfold partL; simp [h]
theorem partL_LG (s : St) (r : RS) (G : List Nat) (k j : Nat) : LG r (otherB r) G (partL s r G k j) := by
  refine ⟨by unfold partL; simp, fun q i hq => ?_⟩
  have hl := (List.getElem?_eq_some_iff.1 hq).1
  have hg : G.getD q 0 = i := by rw [List.getD_eq_getElem?_getD, hq]; rfl
  refine ⟨_, partL_at hl, rfl, ?_, ?_⟩
  · unfold partB; rw [hg]
  · rw [partB_len, hg]
/-- The words that have moved so far lead to what has gone. -/
def Led (s : St) (r : RS) (G : List Nat) (k j : Nat) : Prop := ∀ (q g : Nat), G[q]? = some g → (blkAt r g).tag ≠ 202 → ∀ (t : Nat) (x : Int), (blkAt r g).F[t]? = some x → (q < k ∨ (q = k ∧ t < j)) → ∀ i, leadI s r x = some i → i ∈ G
theorem map_ext {s : St} {r : RS} {B : Nat} {G T : List Nat} {l : List Int} (h : ∀ x, x ∈ l → ∀ i, leadI s r x = some i → i ∈ G) : l.map (newW s r B (G ++ T)) = l.map (newW s r B G) := by
  apply List.map_congr_left
  intro x hx
  exact newW_ext B G T (h x hx)
/-- One block more behind what has moved: what has moved is as it was. -/
theorem partL_visit (hr : Rep s r) {k j : Nat} (hk : k < G.length ∨ (k = 0 ∧ j = 0)) (hG : GoodG r G) (hl : Led s r G k j) (x : Int) : partL s r G k j ++ visitL s r G x = partL s r (visit s r G x) k j := by
  unfold visitL
  cases e : leadI s r x with
  | none => rw [visit_none e]; simp
  | some i =>
    by_cases hi : i ∈ G
    · rw [visit_old e hi]
      show partL s r G k j ++ (if i ∈ G then [] else _) = _
      rw [if_pos hi]; simp
    · rw [visit_new e hi]
      show partL s r G k j ++ (if i ∈ G then [] else _) = _
      rw [if_neg hi]
      unfold partL
      rw [List.length_append]
      show _ = (List.range (G.length + 1)).map _
      rw [List.range_succ, List.map_append]
      congr 1
      · apply List.map_congr_left
        intro q hq
        have hql : q < G.length := by simpa using hq
        have hgq : G[q]? = some (G.getD q 0) := by rw [List.getD_eq_getElem?_getD, List.getElem?_eq_getElem hql]; rfl
        have hg2 : (G ++ [i]).getD q 0 = G.getD q 0 := by rw [List.getD_eq_getElem?_getD, List.getElem?_append_left hql, ← List.getD_eq_getElem?_getD]
        unfold partB
        rw [hg2, placeG_ext r _ G [i] (by omega)]
        by_cases ht : (blkAt r (G.getD q 0)).tag = 202
        · rw [if_pos ht, if_pos ht]
        · rw [if_neg ht, if_neg ht]
          by_cases hqk : q < k
          · rw [if_pos hqk, if_pos hqk, map_ext]
            intro y hy i' hi'
            obtain ⟨t, ht1, ht2⟩ := List.getElem_of_mem hy
            exact hl q _ hgq ht t y (by rw [List.getElem?_eq_getElem ht1, ht2]) (Or.inl hqk) i' hi'
          · rw [if_neg hqk, if_neg hqk]
            by_cases hqk2 : q = k
            · rw [if_pos hqk2, if_pos hqk2, map_ext]
              intro y hy i' hi'
              obtain ⟨t, ht1, ht2⟩ := List.getElem_of_mem hy
              have ht1' := ht1
              rw [List.length_take] at ht1'
              have htj : t < j := by omega
              refine hl q _ hgq ht t y ?_ (Or.inr ⟨hqk2, htj⟩) i' hi'
              rw [← ht2, List.getElem_take, List.getElem?_eq_getElem (by omega)]
            · rw [if_neg hqk2, if_neg hqk2]
      · have hg2 : (G ++ [i]).getD G.length 0 = i := by rw [List.getD_eq_getElem?_getD]; simp
        show [_] = [partB s r (G ++ [i]) k j G.length]
        unfold partB
        rw [hg2, placeG_end]
        by_cases ht : (blkAt r i).tag = 202
        · rw [if_pos ht]
        · rw [if_neg ht]
          rcases hk with hk | ⟨rfl, rfl⟩
          · rw [if_neg (by omega), if_neg (by omega)]
          · rw [if_neg (by omega)]
            by_cases h0 : G.length = 0
            · rw [if_pos h0]; simp
            · rw [if_neg h0]
theorem partB_own {k j : Nat} (ht : (blkAt r (G.getD k 0)).tag ≠ 202) : (partB s r G k j k).F = ((blkAt r (G.getD k 0)).F.take j).map (newW s r (otherB r) G) ++ (blkAt r (G.getD k 0)).F.drop j := by
  unfold partB
  show (if _ then _ else if _ then _ else if _ then _ else _ : List Int) = _
  rw [if_neg ht, if_neg (by omega), if_pos rfl]
/-- The field that comes next is as it was. -/
theorem partB_field {k j : Nat} (ht : (blkAt r (G.getD k 0)).tag ≠ 202) (hj : j < (blkAt r (G.getD k 0)).F.length) : (partB s r G k j k).F.getD j 0 = (blkAt r (G.getD k 0)).F.getD j 0 := by
  rw [partB_own ht]
  generalize blkAt r (G.getD k 0) = b at *
  rw [List.getD_eq_getElem?_getD, List.getD_eq_getElem?_getD]
  have hlen : ((b.F.take j).map (newW s r (otherB r) G)).length = j := by rw [List.length_map, List.length_take]; omega
  rw [List.getElem?_append_right (by omega), hlen, Nat.sub_self, List.getElem?_drop, Nat.add_zero]
/-- One word more has moved. -/
theorem partL_step {k j : Nat} (hk : k < G.length) (ht : (blkAt r (G.getD k 0)).tag ≠ 202) (hj : j < (blkAt r (G.getD k 0)).F.length) :
    partL s r G k (j + 1) = (partL s r G k j).set k ⟨(partB s r G k j k).ad, (partB s r G k j k).tag, (partB s r G k j k).F.set j (newW s r (otherB r) G ((blkAt r (G.getD k 0)).F.getD j 0))⟩ := by
  apply List.ext_getElem
  · unfold partL; simp
  · intro q h1 h2
    have hq : q < G.length := by unfold partL at h1; simpa using h1
    by_cases e : q = k
    · subst e
      rw [List.getElem_set_self]
      have e1 : (partL s r G q (j + 1))[q] = partB s r G q (j + 1) q := by
        have := partL_at (s := s) (r := r) (k := q) (j := j + 1) hq
        rw [List.getElem?_eq_getElem h1] at this
        exact Option.some.inj this
      rw [e1]
      have hF : (partB s r G q (j + 1) q).F = (partB s r G q j q).F.set j (newW s r (otherB r) G ((blkAt r (G.getD q 0)).F.getD j 0)) := by
        rw [partB_own ht, partB_own ht]
        clear e1 h1 h2
        generalize blkAt r (G.getD q 0) = b at *
        have hlen : ((b.F.take j).map (newW s r (otherB r) G)).length = j := by rw [List.length_map, List.length_take]; omega
        rw [List.set_append, if_neg (by omega), hlen, Nat.sub_self, List.take_succ_eq_append_getElem hj, List.map_append, List.append_assoc]
        congr 1
        rw [List.drop_eq_getElem_cons hj, List.set_cons_zero, List.getD_eq_getElem?_getD, List.getElem?_eq_getElem hj]
        rfl
      rw [← hF]
      rfl
    · rw [List.getElem_set_ne (fun c => e c.symm)]
      have e1 : (partL s r G k (j + 1))[q] = partB s r G k (j + 1) q := by
        have := partL_at (s := s) (r := r) (k := k) (j := j + 1) hq
        rw [List.getElem?_eq_getElem h1] at this
        exact Option.some.inj this
      have h2' : q < (partL s r G k j).length := by unfold partL; simpa using hq
      have e2 : (partL s r G k j)[q] = partB s r G k j q := by
        have := partL_at (s := s) (r := r) (k := k) (j := j) hq
        rw [List.getElem?_eq_getElem h2'] at this
        exact Option.some.inj this
      rw [e1, e2]
      unfold partB
      by_cases hqk : q < k
      · simp [hqk]
      · simp [hqk, e]
/-- All words of a block have moved: on to the next one. -/
theorem partL_next {k j : Nat} (h : (blkAt r (G.getD k 0)).tag = 202 ∨ (blkAt r (G.getD k 0)).F.length ≤ j) : partL s r G k j = partL s r G (k + 1) 0 := by
  unfold partL
  apply List.map_congr_left
  intro q hq
  unfold partB
  by_cases ht : (blkAt r (G.getD q 0)).tag = 202
  · rw [if_pos ht, if_pos ht]
  · rw [if_neg ht, if_neg ht]
    rcases Nat.lt_trichotomy q k with hqk | hqk | hqk
    · rw [if_pos hqk, if_pos (by omega)]
    · subst hqk
      have hl : (blkAt r (G.getD q 0)).F.length ≤ j := by
        rcases h with h | h
        · exact absurd h ht
        · exact h
      rw [if_neg (by omega), if_pos rfl, if_pos (by omega), List.take_of_length_le hl, List.drop_eq_nil_of_le hl, List.append_nil]
    · rw [if_neg (by omega), if_neg (by omega), if_neg (by omega)]
      by_cases e : q = k + 1
      · rw [if_pos e]; simp
      · rw [if_neg e]
theorem partL_end {k : Nat} (h : G.length ≤ k) : partL s r G k 0 = (List.range G.length).map (newB s r (otherB r) G) := by
  unfold partL
  apply List.map_congr_left
  intro q hq
  have hql : q < G.length := by simpa using hq
  unfold partB newB
  rw [if_pos (show q < k by omega)]
theorem Led.mono {k j : Nat} (h : Led s r G k j) (T : List Nat) (hk : k < G.length) : Led s r (G ++ T) k j := by
  intro q g hq ht t x hx hc i hi
  have hql : q < G.length := by omega
  rw [List.getElem?_append_left hql] at hq
  rw [List.mem_append]
  exact Or.inl (h q g hq ht t x hx hc i hi)
theorem Led.step {k j : Nat} (h : Led s r G k j) (hk : k < G.length) : Led s r (visit s r G ((blkAt r (G.getD k 0)).F.getD j 0)) k (j + 1) := by
  obtain ⟨T, e⟩ := visit_ext (s := s) (r := r) G ((blkAt r (G.getD k 0)).F.getD j 0)
  have h2 := h.mono T hk
  rw [← e] at h2
  intro q g hq ht t x hx hc i hi
  rcases hc with hc | ⟨rfl, hc⟩
  · exact h2 q g hq ht t x hx (Or.inl hc) i hi
  · by_cases ej : t < j
    · exact h2 q g hq ht t x hx (Or.inr ⟨rfl, ej⟩) i hi
    · have ej2 : t = j := by omega
      subst ej2
      rw [e, List.getElem?_append_left hk] at hq
      have hg : G.getD q 0 = g := by rw [List.getD_eq_getElem?_getD, hq]; rfl
      have hx2 : (blkAt r (G.getD q 0)).F.getD t 0 = x := by rw [hg, List.getD_eq_getElem?_getD, hx]; rfl
      rw [hx2]
      exact visit_has hi
theorem Led.next {k j : Nat} (h : Led s r G k j) (hk : k < G.length) (he : (blkAt r (G.getD k 0)).tag = 202 ∨ (blkAt r (G.getD k 0)).F.length ≤ j) : Led s r G (k + 1) 0 := by
  intro q g hq ht t x hx hc i hi
  rcases hc with hc | ⟨_, hc⟩
  · by_cases e : q < k
    · exact h q g hq ht t x hx (Or.inl e) i hi
    · have e2 : q = k := by omega
      subst e2
      have hg : G.getD q 0 = g := by rw [List.getD_eq_getElem?_getD, hq]; rfl
      rw [hg] at he
      have htl := (List.getElem?_eq_some_iff.1 hx).1
      rcases he with he | he
      · exact absurd he ht
      · exact h q g hq ht t x hx (Or.inr ⟨rfl, by omega⟩) i hi
  · omega
theorem Led.start (s : St) (r : RS) (G : List Nat) : Led s r G 0 0 := by
  intro q g hq ht t x hx hc i hi
  omega
end Go.Proofs.Ytlhcleocdlnbdaa

namespace Go.Proofs.Ytlhcleocdlnbdaa
open Go.ChangeShapes Go.WideShapes Go.ChangeAt Go.RowKit Go.Deep
set_option linter.unusedVariables false
set_option maxHeartbeats 400000
variable {w : World} {p : Pl} {s : St} {rb : Nat} {r : RS} {a : Option Addr} {cap : Nat} {V : Nat → Value} {B0 mb nb : Nat} {G : List Nat} {L : List Blk} {aN : Option Addr} {capN : Nat} {VN : Nat → Value} {vg : Value}

theorem idx_spec : ∀ (G : List Nat) (i : Nat), i ∈ G → G[G.idxOf i]? = some i ∧ ∀ j, j < G.idxOf i → G[j]? ≠ some i := by
  intro G
  induction G with
  | nil => intro i h; cases h
  | cons x l ih =>
    intro i h
    by_cases e : x = i
    · subst e
      rw [List.idxOf_cons_self]
      exact ⟨rfl, fun j hj => absurd hj (Nat.not_lt_zero _)⟩
    · have hi : i ∈ l := by
        rcases List.mem_cons.1 h with h | h
        · exact absurd h.symm e
        · exact h
      obtain ⟨h1, h2⟩ := ih i hi
      have ei : (x :: l).idxOf i = l.idxOf i + 1 := by rw [List.idxOf_cons, beq_eq_false_iff_ne.2 e]; rfl
      rw [ei]
      refine ⟨by simpa using h1, fun j hj => ?_⟩
      cases j with
      | zero => simp; exact e
      | succ j => simp; exact h2 j (by omega)
theorem idx_new (G : List Nat) (i : Nat) (h : ¬ i ∈ G) : (G ++ [i]).idxOf i = G.length := by
  rw [List.idxOf_append, if_neg h, List.idxOf_cons_self]; omega
theorem LG.visit (hr : Rep s r) (h : LG r (otherB r) G L) (x : Int) : LG r (otherB r) (visit s r G x) (L ++ visitL s r G x) := by
  unfold visitL
  cases e : leadI s r x with
  | none => rw [visit_none e]; simp; exact h
  | some i =>
    by_cases hi : i ∈ G
    · rw [visit_old e hi]
      show LG _ _ _ (L ++ if i ∈ G then [] else _)
      rw [if_pos hi]; simp; exact h
    · rw [visit_new e hi]
      show LG _ _ _ (L ++ if i ∈ G then [] else _)
      rw [if_neg hi]
      exact h.snoc i _ rfl rfl rfl
theorem otherB_le (h : Both w p s rb r a cap V) : otherB r ≤ 32768 := by
  have hwh := h.rep.wh
  have hiz := h.sizes
  unfold otherB
  rcases (show r.which = 0 ∨ r.which = 1 by omega) with e | e <;> rw [e] <;> omega
theorem mword_any (x : Int) (w : World) (h : Both w p s rb r a cap V) (hn : Now w B0 mb nb rb r G L aN capN VN vg) (h0 : 0 ≤ x) (h1 : x ≤ 18446744073709551615) (hG : GoodG r G) (hL : LG r (otherB r) G L) (hB0 : B0 ≤ w.heap.size) :
    Calls Try.prog 89 #[.pointer (some ⟨mb, 0, none⟩), .int .u64 x] w fun e w' => e = .returned (.int .u64 (newW s r (otherB r) (visit s r G x) x)) ∧
      ∃ aN' capN' VN' vg', Now w' B0 mb nb rb r (visit s r G x) (L ++ visitL s r G x) aN' capN' VN' vg' ∧ Fresh w.heap.size L.length VN (L ++ visitL s r G x).length VN' ∧ Only (NotW w B0) w w' := by
  have hsz := h.sizes
  have hob := otherB_le h
  obtain ⟨hl1, hl2⟩ := goodG_len hG
  have hlen := hL.len
  rcases lead_cases h.rep x with ⟨hf, e⟩ | ⟨i, b, hb, hf, e⟩
  · refine (mword_no x w h hn h0 h1 hf).mono ?_
    rintro e' w' ⟨rfl, m, rfl⟩
    rw [visit_none e]
    have e2 : visitL s r G x = [] := by unfold visitL; rw [e]
    rw [e2, List.append_nil]
    exact ⟨by unfold newW; rw [e], aN, capN, VN, vg, hn.drewN m, Fresh.refl _ _ _, (Only.refl _ _).drewN m⟩
  · by_cases hi : i ∈ G
    · obtain ⟨k1, k2⟩ := idx_spec G i hi
      obtain ⟨c, hc, hca, _, _⟩ := hL.2 _ _ k1
      have hple : placeG r (otherB r) G (G.idxOf i) ≤ 100000 := by
        have := lenG_append r (G.take (G.idxOf i)) (G.drop (G.idxOf i))
        rw [List.take_append_drop] at this
        unfold placeG; omega
      refine (mword_old x i (G.idxOf i) b (newW s r (otherB r) (visit s r G x) x) w h hn h0 h1 hb hf k1 k2 c hc (by omega) ?_ (by omega) hL.1).mono ?_
      · rw [visit_old e hi]; unfold newW; rw [e, hca]
      · rintro e' w' ⟨rfl, m, rfl⟩
        have e2 : visitL s r G x = [] := by unfold visitL; rw [e]; show (if i ∈ G then [] else _) = _; rw [if_pos hi]
        rw [visit_old e hi, e2, List.append_nil]
        exact ⟨rfl, aN, capN, VN, vg, hn.drewN m, Fresh.refl _ _ _, (Only.refl _ _).drewN m⟩
    · have hbk := blkAt_of hb
      refine (mword_new x i b (otherB r + lenB L + 1) (newW s r (otherB r) (visit s r G x) x) w h hn h0 h1 hb hf ?_ (by omega) hL.1 (by omega) hB0 rfl ?_).mono ?_
      · intro j hj
        exact hi (List.mem_of_getElem? hj)
      · rw [visit_new e hi]; unfold newW; rw [e]
        show _ = 2 * ((placeG r (otherB r) (G ++ [i]) ((G ++ [i]).idxOf i) : Nat) + _ : Int)
        rw [idx_new G i hi, placeG_end, hlen]
      · rintro e' w' ⟨rfl, aN', capN', VN', vg', n', fr', o'⟩
        have e2 : visitL s r G x = [⟨otherB r + lenB L + 1, b.tag, b.F⟩] := by unfold visitL; rw [e]; show (if i ∈ G then [] else _) = _; rw [if_neg hi, hbk, hlen]
        rw [visit_new e hi, e2]
        exact ⟨rfl, aN', capN', VN', vg', n', by simpa using fr', o'⟩
end Go.Proofs.Ytlhcleocdlnbdaa

namespace Go.Proofs.Ytlhcleocdlnbdaa
open Go.ChangeShapes Go.WideShapes Go.ChangeAt Go.RowKit Go.Deep
set_option linter.unusedVariables false
set_option maxHeartbeats 400000
variable {w w' : World} {rb : Nat} {r : RS} {B0 mb nb : Nat} {G : List Nat} {L : List Blk} {aN : Option Addr} {capN : Nat} {VN : Nat → Value} {vg : Value}

/-- A row of words that holds no block's fields is written: what has moved is as it was. -/
theorem now_only {g : Nat} {cur : Array Value} (h : Now w B0 mb nb rb r G L aN capN VN vg) (hc : w.heap[g]? = some (.cells cur 29 (0, 0))) (hoff : Off L.length VN g) (k : Only (fun q => q = g) w w') : Now w' B0 mb nb rb r G L aN capN VN vg := by
  have kT : ∀ (q : Nat) (c : Array Value) (t : TypeId), w.heap[q]? = some (.cells c t (0, 0)) → t ≠ 29 → w'.heap[q]? = w.heap[q]? := fun q c t hq ht => k.block q (lt_of_some hq) (ty_ne hq hc ht)
  refine ⟨(kT mb _ _ h.hm (by decide)).trans h.hm, owns_keep h.hg (fun q hq => ?_), ⟨(kT nb _ _ h.now.hr (by decide)).trans h.now.hr, h.now.hl.1, h.now.hl.2.1, h.now.hl.2.2.1, fun ad had => ?_⟩, h.dis, h.lo⟩
  · obtain ⟨c, hcq⟩ := own_row h.hg q hq
    exact kT q _ _ hcq (by decide)
  · obtain ⟨ga, c, e, hb, hga, hcs, hcell⟩ := h.now.hl.2.2.2 ad had
    refine ⟨ga, c, e, hb, (kT ga _ _ hga (by decide)).trans hga, hcs, fun i b hib => ?_⟩
    obtain ⟨c1, c2, c3, a', cap', e2, hn, hf⟩ := hcell i b hib
    refine ⟨c1, c2, c3, a', cap', e2, hn, fun ad' had' => ?_⟩
    obtain ⟨g', e3, hb', ho⟩ := hf ad' had'
    have hi := (List.getElem?_eq_some_iff.1 hib).1
    have hne := hoff i hi ad' _ _ (by rw [e2, had'])
    rw [e3] at hne
    exact ⟨g', e3, hb', ho.of_block (k.block g' ho.lt hne)⟩
/-- Where a field of a block that has moved lies. -/
theorem now_field (h : Now w B0 mb nb rb r G L aN capN VN vg) {k j : Nat} {b : Blk} (hk : L[k]? = some b) (hj : j < b.F.length) : ∃ ga f c, aN = some ⟨ga, 0, none⟩ ∧ VN k = .slice (some ⟨f, 0, none⟩) b.F.length c ∧ nb < f ∧ Own w f b.F.length (fun i => b.F.getD i 0) ∧ w.cell? ⟨ga, k * 3 + 2, none⟩ = some (.slice (some ⟨f, 0, none⟩) b.F.length c) ∧ w.cell? ⟨ga, k * 3 + 1, none⟩ = some (.int .i64 b.tag) := by
  have hl := (List.getElem?_eq_some_iff.1 hk).1
  obtain ⟨ga, e, h1, h2, h3, h4⟩ := h.now.row (by show L.length ≠ 0; omega)
  obtain ⟨d0, d1, d2, a', cap', e2, hn, hf⟩ := h4 k b hk
  cases a' with
  | none => have := (hn rfl).1; omega
  | some ad =>
    obtain ⟨f, e3, hb, ho⟩ := hf ad rfl
    subst e3
    rw [e2] at d2
    exact ⟨ga, f, cap', e, e2, by omega, ho, d2, d1⟩
/-- A field of a block that has moved is written. -/
theorem now_store (h : Now w B0 mb nb rb r G L aN capN VN vg) {k j f c : Nat} {b : Blk} (hk : L[k]? = some b) (hj : j < b.F.length) (hv : VN k = .slice (some ⟨f, 0, none⟩) b.F.length c) (ho : Own w f b.F.length (fun i => b.F.getD i 0)) (v : Int) :
    Now (w.setCell ⟨f, j, none⟩ (.int .u64 v)) B0 mb nb rb r G (L.set k ⟨b.ad, b.tag, b.F.set j v⟩) aN capN VN vg := by
  have hl := (List.getElem?_eq_some_iff.1 hk).1
  obtain ⟨cf, hcf, hcf2⟩ := ho
  have ho : Own w f b.F.length (fun i => b.F.getD i 0) := ⟨cf, hcf, hcf2⟩
  have kT : ∀ (q : Nat) (c : Array Value) (t : TypeId), w.heap[q]? = some (.cells c t (0, 0)) → t ≠ 29 → (w.setCell ⟨f, j, none⟩ (.int .u64 v)).heap[q]? = w.heap[q]? := fun q c t hq ht => blk_setCell_other _ _ _ _ (ty_ne hq hcf ht)
  have hlen : (L.set k ⟨b.ad, b.tag, b.F.set j v⟩).length = L.length := by simp
  refine ⟨(kT mb _ _ h.hm (by decide)).trans h.hm, owns_keep h.hg (fun q hq => ?_), ⟨?_, ?_⟩, ?_, h.lo⟩
  · obtain ⟨c', hcq⟩ := own_row h.hg q hq
    exact kT q _ _ hcq (by decide)
  · rw [kT nb _ _ h.now.hr (by decide)]
    show _ = some (Obj.cells #[.int .i64 r.n, .int .i64 ((1 - r.which : Nat) : Int), .slice aN (L.set k ⟨b.ad, b.tag, b.F.set j v⟩).length capN] 88 (0, 0))
    rw [hlen]
    exact h.now.hr
  · refine ⟨fun e => ?_, ?_, h.now.hl.2.2.1, fun ad had => ?_⟩
    · have := h.now.hl.1 e
      show (L.set k ⟨b.ad, b.tag, b.F.set j v⟩).length = 0 ∧ _
      rw [hlen]; exact this
    · show (L.set k ⟨b.ad, b.tag, b.F.set j v⟩).length ≤ capN
      rw [hlen]; exact h.now.hl.2.1
    · obtain ⟨ga, c', e, hb, hga, hcs, hcell⟩ := h.now.hl.2.2.2 ad had
      refine ⟨ga, c', e, hb, (kT ga _ _ hga (by decide)).trans hga, hcs, fun i b' hib => ?_⟩
      have hib' : (L.set k ⟨b.ad, b.tag, b.F.set j v⟩)[i]? = some b' := hib
      by_cases ei : i = k
      · subst ei
        rw [List.getElem?_set_self hl] at hib'
        have eb := (Option.some.inj hib').symm
        subst eb
        obtain ⟨c1, c2, c3, _⟩ := hcell i b hk
        refine ⟨c1, c2, c3, some ⟨f, 0, none⟩, c, ?_, fun h => (by cases h), fun ad' had' => ?_⟩
        · rw [hv]
          show _ = Value.slice _ (b.F.set j v).length _
          rw [List.length_set]
        · cases had'
          obtain ⟨_, _, _, a'', cap'', e2, hn, hf⟩ := hcell i b hk
          rw [hv] at e2
          simp only [Value.slice.injEq, true_and] at e2
          obtain ⟨f', e3, hb', _⟩ := hf ⟨f, 0, none⟩ e2.1.symm
          have e4 : f = f' := by simpa using e3
          subst e4
          refine ⟨f, rfl, hb', ?_⟩
          show Own _ f (b.F.set j v).length (fun i => (b.F.set j v).getD i 0)
          rw [List.length_set]
          refine (ho.set j v).congr (fun q hq => ?_)
          show (if q = j then v else b.F.getD q 0) = (b.F.set j v).getD q 0
          rw [List.getD_eq_getElem?_getD, List.getD_eq_getElem?_getD]
          by_cases eq : q = j
          · subst eq; rw [if_pos rfl, List.getElem?_set_self hj]; rfl
          · rw [if_neg eq, List.getElem?_set_ne (fun c => eq c.symm)]
      · rw [List.getElem?_set_ne (fun c => ei c.symm)] at hib'
        obtain ⟨c1, c2, c3, a', cap', e2, hn, hf⟩ := hcell i b' hib'
        refine ⟨c1, c2, c3, a', cap', e2, hn, fun ad' had' => ?_⟩
        obtain ⟨g', e3, hb', ho'⟩ := hf ad' had'
        have hi := (List.getElem?_eq_some_iff.1 hib').1
        have hne : g' ≠ f := by
          rcases Nat.lt_or_gt_of_ne ei with hlt | hlt
          · have := h.dis i k hlt hl ad' _ _ ⟨f, 0, none⟩ _ _ (by rw [e2, had']) hv
            rw [e3] at this; exact this
          · have := h.dis k i hlt hi ⟨f, 0, none⟩ _ _ ad' _ _ hv (by rw [e2, had'])
            rw [e3] at this; exact fun e => this e.symm
        exact ⟨g', e3, hb', ho'.of_block (blk_setCell_other _ _ _ _ hne)⟩
  · intro i q hiq hq
    have hq' : q < L.length := by rw [hlen] at hq; exact hq
    exact h.dis i q hiq hq'
end Go.Proofs.Ytlhcleocdlnbdaa
