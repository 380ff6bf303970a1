/-
  Layer 4: the document's own Mem in memory, and what its functions tell and make with any row of roots. Condition: it lies in memory.
-/
import Derived.Test.YtlhcleocdlnbdaaL4Pure
import Derived.Test.YtlhcleocdlnbdaaR3Reach
import Derived.Test.YtlhcleocdlnbdaaLibB
namespace Go.Proofs.Ytlhcleocdlnbdaa
open Go.ChangeShapes Go.WideShapes Go.ChangeAt Go.RowKit Go.Deep
set_option linter.unusedVariables false
set_option maxHeartbeats 1000000

/-- How it lies in memory. -/
abbrev Shape := Option Addr × Nat × (Nat → Value)
structure MI (kb rb : Nat) (w : World) (r : RS) (k : Int) (m : Shape) : Prop where
  rf : Rf w rb r m.1 m.2.1 m.2.2
  good : ∃ s, Good s r
  mem : w.heap[kb]? = some (.cells #[.pointer (some ⟨rb, 0, none⟩), .int .i64 k] 67 (0, 0))
  four : 4 ≤ rb
def Mown (kb rb : Nat) (len : Nat) (m : Shape) (q : Nat) : Prop := q = kb ∨ Rown rb m.1 q ∨ ∃ i, i < len ∧ ∃ n c, m.2.2 i = .slice (some ⟨q, 0, none⟩) n c
section
variable {kb rb : Nat} {w w' : World} {r : RS} {k : Int} {m : Shape} {s : St}
theorem MI.both (h : MI kb rb w r k m) (hs : Good s r) : Both w ⟨0, 1, 2, 3⟩ s rb r m.1 m.2.1 m.2.2 := by
  have := h.four
  exact ⟨good_ar hs w, h.rf, hs.rep, by show 0 < rb; omega, by show 1 < rb; omega, by show 2 < rb; omega, by show 3 < rb; omega⟩
theorem rf_frame {S : Nat → Prop} {a : Option Addr} {cap : Nat} {V : Nat → Value} (h : Rf w rb r a cap V) (k : Only S w w') (h1 : ∀ q, Rown rb a q → ¬ S q) (h2 : ∀ i, i < r.L.length → ∀ q n c, V i = .slice (some ⟨q, 0, none⟩) n c → ¬ S q) : Rf w' rb r a cap V := by
  refine ⟨(k.block _ (lt_of_some h.hr) (h1 rb (Or.inl rfl))).trans h.hr, h.hl.1, h.hl.2.1, h.hl.2.2.1, fun ad had => ?_⟩
  obtain ⟨g, cur, e, hb, hg, hc, hcell⟩ := h.hl.2.2.2 ad had
  refine ⟨g, cur, e, hb, (k.block _ (lt_of_some hg) (h1 g (Or.inr (by rw [had, e])))).trans hg, hc, fun i b hib => ?_⟩
  obtain ⟨c1, c2, c3, a', cap', e2, hn, hf⟩ := hcell i b hib
  have hi := (List.getElem?_eq_some_iff.1 hib).1
  refine ⟨c1, c2, c3, a', cap', e2, hn, fun ad' had' => ?_⟩
  obtain ⟨g', e3, hb', ho⟩ := hf ad' had'
  exact ⟨g', e3, hb', ho.frame k (h2 i hi g' _ _ (by rw [e2, had', e3]))⟩
theorem MI.frame {S : Nat → Prop} (h : MI kb rb w r k m) (o : Only S w w') (hs : ∀ q, Mown kb rb r.L.length m q → ¬ S q) : MI kb rb w' r k m :=
  ⟨rf_frame h.rf o (fun q hq => hs q (Or.inr (Or.inl hq))) (fun i hi q n c e => hs q (Or.inr (Or.inr ⟨i, hi, n, c, e⟩))), h.good, (o.block _ (lt_of_some h.mem) (hs kb (Or.inl rfl))).trans h.mem, h.four⟩
theorem rf_lt {a : Option Addr} {cap : Nat} {V : Nat → Value} (h : Rf w rb r a cap V) : (∀ q, Rown rb a q → q < w.heap.size) ∧ ∀ i, i < r.L.length → ∀ q n c, V i = .slice (some ⟨q, 0, none⟩) n c → q < w.heap.size := by
  refine ⟨fun q hq => ?_, fun i hi q n c e => ?_⟩
  · rcases hq with e | e
    · rw [e]; exact lt_of_some h.hr
    · obtain ⟨g, cur, e2, hb, hg, _⟩ := h.hl.2.2.2 _ e
      cases e2
      exact lt_of_some hg
  · obtain ⟨g, e1, _, _, _, hcell⟩ := h.row (by omega)
    obtain ⟨_, _, _, a', cap', e2, hn, hf⟩ := hcell i _ (List.getElem?_eq_getElem hi)
    rw [e] at e2
    simp only [Value.slice.injEq] at e2
    obtain ⟨g', e3, _, ho⟩ := hf ⟨q, 0, none⟩ e2.1.symm
    cases e3
    exact ho.lt
theorem MI.lt (h : MI kb rb w r k m) : ∀ q, Mown kb rb r.L.length m q → q < w.heap.size := by
  rintro q (e | e | ⟨i, hi, n, c, e⟩)
  · rw [e]; exact lt_of_some h.mem
  · exact (rf_lt h.rf).1 q e
  · exact (rf_lt h.rf).2 i hi q n c e
/-- A row of words is not the machine's own, if no block's fields lie in it. -/
theorem MI.off {g n : Nat} {X : Nat → Int} (h : MI kb rb w r k m) (ho : Own w g n X) (hf : Off r.L.length m.2.2 g) : ¬ Mown kb rb r.L.length m g := by
  obtain ⟨cur, hc⟩ := ho.blk
  rintro (e | (e | e) | ⟨i, hi, n, c, e⟩)
  · exact ty_two h.mem hc (by decide) e.symm
  · exact ty_two h.rf.hr hc (by decide) e.symm
  · obtain ⟨g', cur', e2, hb, hg, _⟩ := h.rf.hl.2.2.2 _ e
    cases e2
    exact ty_two hg hc (by decide) rfl
  · exact hf i hi ⟨g, 0, none⟩ n c e rfl
theorem MI.sep (h : MI kb rb w r k m) : kb ≠ rb ∧ (∀ q, Rown rb m.1 q → ¬ q = kb) ∧ ∀ i, i < r.L.length → ∀ q n c, m.2.2 i = .slice (some ⟨q, 0, none⟩) n c → ¬ q = kb := by
  have n1 : kb ≠ rb := ty_two h.mem h.rf.hr (by decide)
  refine ⟨n1, fun q hq e => ?_, fun i hi q n c hv e => ?_⟩
  · subst e
    rcases hq with e | e
    · exact n1 e
    · obtain ⟨g, cur, e2, hb, hg, _⟩ := h.rf.hl.2.2.2 _ e
      cases e2
      exact ty_two h.mem hg (by decide) rfl
  · subst e
    obtain ⟨g, e1, _, _, _, hcell⟩ := h.rf.row (by omega)
    obtain ⟨_, _, _, a', cap', e2, hn, hf⟩ := hcell i _ (List.getElem?_eq_getElem hi)
    rw [hv] at e2
    simp only [Value.slice.injEq] at e2
    obtain ⟨g', e3, _, ho⟩ := hf ⟨q, 0, none⟩ e2.1.symm
    cases e3
    obtain ⟨cur, hc⟩ := ho.blk
    exact ty_two h.mem hc (by decide) rfl
theorem MI.cells (h : MI kb rb w r k m) : w.cell? ⟨kb, 0, none⟩ = some (.pointer (some ⟨rb, 0, none⟩)) ∧ w.cell? ⟨kb, 1, none⟩ = some (.int .i64 k) ∧ w.frozen? ⟨kb, 1, none⟩ = false := by
  have hm := h.mem
  refine ⟨?_, ?_, ?_⟩ <;> simp [World.cell?, World.frozen?, hm]
theorem MI.count (h : MI kb rb w r k m) (k1 : Int) : MI kb rb (w.setCell ⟨kb, 1, none⟩ (.int .i64 k1)) r k1 m := by
  obtain ⟨n1, n2, n3⟩ := h.sep
  have o : Only (fun q => q = kb) w (w.setCell ⟨kb, 1, none⟩ (.int .i64 k1)) := (Only.refl (fun q => q = kb) w).setCell (a := ⟨kb, 1, none⟩) (Or.inr rfl) _
  refine ⟨rf_frame h.rf o n2 n3, h.good, ?_, h.four⟩
  have hm := h.mem
  simp [World.setCell, Array.getElem?_modify, hm]
theorem allocW_r64 (h : Good s r) (t z : Int) : R64 (s.allocW t z) := by
  have h1 := h.n2
  have h2 := h.t2
  have h3 := h.rep.base
  have h4 := h.rep.wh
  have h5 := h.rep.n
  have h6 : s.base ≤ s.n := by
    rcases Nat.le_one_iff_eq_zero_or_eq_one.1 h4 with e | e
    · rw [h3, e]; simp
    · rw [h3, e, h5]; simp
  unfold St.allocW
  split
  · exact ⟨by omega, by omega⟩
  · exact ⟨by decide, by decide⟩
/-- Behind the arena's own Alloc. -/
theorem MI.laid {t z : Int} {a1 : Option Addr} {cap1 : Nat} {V1 : Nat → Value} (h : MI kb rb w r k m) (hs : Good s r) (rf1 : Rf w' rb (r.after s t z) a1 cap1 V1) (o1 : Only (Rown rb m.1) w w') (f1 : Fresh w.heap.size r.L.length m.2.2 (r.after s t z).L.length V1) (l1 : ∀ q, a1 = some ⟨q, 0, none⟩ → m.1 = some ⟨q, 0, none⟩ ∨ w.heap.size ≤ q) :
    MI kb rb w' (r.after s t z) k (a1, cap1, V1) ∧ Only (Mown kb rb r.L.length m) w w' ∧ (∀ q, Mown kb rb (r.after s t z).L.length (a1, cap1, V1) q → Mown kb rb r.L.length m q ∨ w.heap.size ≤ q) := by
  refine ⟨⟨rf1, ⟨_, good_alloc hs t z⟩, (o1.block _ (lt_of_some h.mem) (fun hc => h.sep.2.1 kb hc rfl)).trans h.mem, h.four⟩, o1.mono (fun q _ hq => Or.inr (Or.inl hq)), ?_⟩
  rintro q (e | (e | e) | ⟨i, hi, n, c, e⟩)
  · exact Or.inl (Or.inl e)
  · exact Or.inl (Or.inr (Or.inl (Or.inl e)))
  · rcases l1 q e with h1 | h1
    · exact Or.inl (Or.inr (Or.inl (Or.inr h1)))
    · exact Or.inr h1
  · rcases f1 i hi with ⟨h1, h2⟩ | h1
    · exact Or.inl (Or.inr (Or.inr ⟨i, h1, n, c, by rw [← h2]; exact e⟩))
    · exact Or.inr (h1 ⟨q, 0, none⟩ n c e)
theorem MI.not_rown {g n : Nat} {X : Nat → Int} (h : MI kb rb w r k m) (ho : Own w g n X) : ¬ Rown rb m.1 g := by
  obtain ⟨cur, hc⟩ := ho.blk
  rintro (e | e)
  · exact ty_two h.rf.hr hc (by decide) e.symm
  · obtain ⟨g', cur', e2, hb, hg, _⟩ := h.rf.hl.2.2.2 _ e
    cases e2
    exact ty_two hg hc (by decide) rfl
theorem own_add {w : World} {g n j : Nat} {X : Nat → Int} {o : Obj} (h : Own w g n X) (hj : j < n) : (w.alloc o).cell? ((Addr.mk g 0 none).add j) = some (.int .u64 (X j)) := by
  have e : (Addr.mk g 0 none).add j = ⟨g, j, none⟩ := by simp [Addr.add]; intro h; exact h.symm
  rw [e]
  exact (h.of_block (blk_alloc_lt _ _ _ h.lt)).cell hj
theorem only_above {w1 w2 : World} {S : Nat → Prop} {o : Obj} {g : Nat} (gr : (w1.alloc o).grownBy w2 (some g)) (hg : w1.heap.size ≤ g) : Only S w1 w2 :=
  ⟨gr.os, gr.tape, gr.output, Nat.le_trans (by rw [nblk_alloc]; omega) gr.size, fun q hq _ => (gr.block q (by rw [nblk_alloc]; omega) (by simp; omega)).trans (blk_alloc_lt _ _ _ hq)⟩
theorem only_more {w1 w2 : World} {A B : Nat → Prop} (h : Only A w w1) (k : Only B w1 w2) (hB : ∀ q, B q → A q ∨ w.heap.size ≤ q) : Only A w w2 := by
  refine ⟨k.os.trans h.os, k.tape.trans h.tape, k.output.trans h.output, Nat.le_trans h.size k.size, fun q hq hs => (k.block q (Nat.lt_of_lt_of_le hq h.size) (fun hc => ?_)).trans (h.block q hq hs)⟩
  rcases hB q hc with e | e
  · exact hs e
  · omega
theorem room_fits4 {s1 : St} {xs : List Int} {t z : Int} (hr : Rep s r) (g : s.allocE t z = 10) (gf : ¬ (r.n : Int) < (lenG r (reachG s r xs) : Nat) + z + 1) (hr1 : Rep s1 (collR s r xs)) : s1.allocE t z = 0 := by
  have e1 := hr1.top
  have e2 := hr1.n
  rw [collR_lenB] at e1
  have e3 : (collR s r xs).n = r.n := rfl
  unfold St.allocE at g ⊢
  split at g
  · omega
  · rename_i g1
    split at g
    · omega
    · rename_i g2
      rw [if_neg g1, if_neg g2, if_neg (by omega)]
/-- What a collection hands back, and how all lies then. -/
def RForceAs (kb rb : Nat) (r1 : RS) (k1 : Int) (n : Nat) (Y : Nat → Int) (w : World) (e : Ending) (w' : World) : Prop := ∃ go co, ∃ m1 : Shape, e = .returned (.slice (some ⟨go, 0, none⟩) n co) ∧ MI kb rb w' r1 k1 m1 ∧ Own w' go n Y ∧ w.heap.size ≤ go ∧ Only (fun q => q = kb ∨ q = rb) w w' ∧ ¬ Mown kb rb r1.L.length m1 go ∧ ∀ q, Mown kb rb r1.L.length m1 q → q = kb ∨ q = rb ∨ w.heap.size ≤ q
theorem rForce {al : Option Addr} {n c : Nat} {X : Nat → Int} (w : World) (h : MI kb rb w r k m) (hs : Good s r) (ho : WS w al n c X) (hoff : ∀ ad, al = some ad → 0 < n → ad.block ≠ kb) (hn : n ≤ 1000) : Calls Try.prog 54 #[.pointer (some ⟨kb, 0, none⟩), .slice al n c] w fun e w' => RForceAs kb rb (collR s r (listX X n)) (wrap64 (k + 1)) n (fun i => collW s r (listX X n) (X i)) w e w' := by
  obtain ⟨m0, m1, m2⟩ := h.cells
  have hI1 := h.count (wrap64 (k + 1))
  have o1 : Only (fun q => q = kb) w (w.setCell ⟨kb, 1, none⟩ (.int .i64 (wrap64 (k + 1)))) := (Only.refl (fun q => q = kb) w).setCell (a := ⟨kb, 1, none⟩) (Or.inr rfl) _
  have ho1 : WS (w.setCell ⟨kb, 1, none⟩ (.int .i64 (wrap64 (k + 1)))) al n c X := ho.frame0 o1 (fun ad e hp => hoff ad e hp)
  obtain ⟨t0, _, _⟩ := hI1.cells
  have HI1 := hidden hI1
  have HO1 := hidden ho1
  have HON := hidden o1
  clear hI1 ho1 o1 h ho
  go_enter Try.func54, Try.ntmps54
  go_wp2_with fail
  generalize w.setCell ⟨kb, 1, none⟩ (.int .i64 (wrap64 (k + 1))) = w1 at *
  refine (rcollect_any _ (HI1.out.both hs) HO1.out hn).mono ?_
  rintro e w2 ⟨go, co, aN, capN, VN, rfl, rf2, own2, hgo, on2, off2, la2, lv2⟩
  have hsz := HON.out.size
  have hI2 : MI kb rb w2 (collR s r (listX X n)) (wrap64 (k + 1)) (aN, capN, VN) := ⟨rf2, good_coll hs w, (on2.block _ (lt_of_some HI1.out.mem) HI1.out.sep.1).trans HI1.out.mem, HI1.out.four⟩
  have HI2 := hidden hI2
  have HOW2 := hidden own2
  have HON2 : Hid (Only (fun q => q = kb ∨ q = rb) w w2) := (HON.out.mono (fun q _ h => Or.inl h)).trans (on2.mono (fun q _ h => Or.inr h))
  have HNO : Hid (¬ Mown kb rb (collR s r (listX X n)).L.length (aN, capN, VN) go) := hI2.off own2 off2
  have HNW : Hid (∀ q, Mown kb rb (collR s r (listX X n)).L.length (aN, capN, VN) q → q = kb ∨ q = rb ∨ w.heap.size ≤ q) := by
    rintro q (e | (e | e) | ⟨i, hi, n, c, e⟩)
    · exact Or.inl e
    · exact Or.inr (Or.inl e)
    · have := la2 _ e
      exact Or.inr (Or.inr (by simp at this; omega))
    · have := lv2 i hi _ n c e
      exact Or.inr (Or.inr (by simp at this; omega))
  clear rf2 hI2 own2 on2 off2 la2 lv2
  go_wp2_with fail
  go_ret
  exact ⟨go, co, (aN, capN, VN), rfl, HI2.out, HOW2.out, by omega, HON2.out, HNO.out, HNW.out⟩
/-- What Alloc hands back, and how all lies then. -/
def RAllocAs (kb rb : Nat) (len : Nat) (m : Shape) (n : Nat) (E W : Int) (Y : Nat → Int) (r' : RS) (k' : Int) (w : World) (e : Ending) (w' : World) : Prop := ∃ now, ∃ m1 : Shape, e = .returned (.tuple #[.int .u64 W, now, .int .i64 E]) ∧ MI kb rb w' r' k' m1 ∧ Only (Mown kb rb len m) w w' ∧ (∀ q, Mown kb rb r'.L.length m1 q → Mown kb rb len m q ∨ w.heap.size ≤ q) ∧ (E ≠ 0 → now = .slice none 0 0) ∧ (E = 0 → ∃ g c', now = .slice (some ⟨g, 0, none⟩) n c' ∧ Own w' g n Y ∧ w.heap.size ≤ g ∧ ¬ Mown kb rb r'.L.length m1 g)
theorem only_none {S : Nat → Prop} {w w' : World} (h : Below w.heap.size w w') : Only S w w' := Only.of_below h
set_option maxRecDepth 100000 in
theorem rAlloc_yes {al : Option Addr} {n c : Nat} {X : Nat → Int} {t z : Int} (w : World) (h : MI kb rb w r k m) (hs : Good s r) (hx : WS w al n c X) (hoff : ∀ ad, al = some ad → 0 < n → ¬ Mown kb rb r.L.length m ad.block) (hn : n ≤ 1000) (g0 : s.allocE t z = 0) : Calls Try.prog 33 #[.pointer (some ⟨kb, 0, none⟩), .int .i64 t, .int .i64 z, .slice al n c] w fun e w' => RAllocAs kb rb r.L.length m n 0 (s.allocW t z) X (r.after s t z) k w e w' := by
  obtain ⟨m0, m1, m2⟩ := h.cells
  have HI := hidden h
  have HX := hidden hx
  have HOF := hidden hoff
  clear h hx hoff
  go_enter Try.func33, Try.ntmps33
  go_wp2_with (first
    | (go_at_call 41; refine (ralloc_at t z _ (HI.out.both hs)).mono ?_; rintro e w1 ⟨rfl, a1, cap1, V1, rf1, o1, f1, l1⟩; rw [g0]; obtain ⟨i1, p1, q1⟩ := HI.out.laid hs rf1 o1 f1 l1; have I1 := hidden i1; have P1 := hidden p1; have Q1 := hidden q1; have X1 := hidden (HX.out.frame0 p1 HOF.out); clear rf1 o1 f1 l1 i1 p1 q1)
    | (at_builtin; refine wpList_append_words rfl (.tmp 29) (.tmp 30) rfl w1.heap.size rfl (blk_alloc_new _ _) al n c rfl X X1.out.nil (X1.out.below ((Below.refl _ _).alloc (Nat.le_refl _) _)).cell (by omega) ?_; intro g2 c2 w2 ho2 gr2 hg2; have O2 := hidden ho2; have ON2 : Hid (Only (fun _ => False) w1 w2) := only_above gr2 (Nat.le_refl _); clear ho2 gr2))
  go_ret3
  have z1 := P1.out.size
  have i2 := I1.out.frame ON2.out (fun _ _ => id)
  refine ⟨_, (a1, cap1, V1), rfl, i2, P1.out.trans (ON2.out.mono (fun _ _ h => h.elim)), Q1.out, fun h => absurd rfl h, fun _ => ⟨g2, c2, rfl, O2.out, by omega, fun hc => ?_⟩⟩
  have := I1.out.lt g2 hc
  omega
set_option maxRecDepth 100000 in
theorem rAlloc_err {al : Option Addr} {n c : Nat} {X : Nat → Int} {t z : Int} (w : World) (h : MI kb rb w r k m) (hs : Good s r) (hx : WS w al n c X) (g0 : s.allocE t z ≠ 0) (g1 : s.allocE t z ≠ 10) : Calls Try.prog 33 #[.pointer (some ⟨kb, 0, none⟩), .int .i64 t, .int .i64 z, .slice al n c] w fun e w' => RAllocAs kb rb r.L.length m n (s.allocE t z) 0 X r k w e w' := by
  obtain ⟨m0, m1, m2⟩ := h.cells
  have ha : r.after s t z = r := by unfold RS.after; rw [if_neg g0]
  have hw : s.allocW t z = 0 := by unfold St.allocW; rw [if_neg g0]
  have HI := hidden h
  have HA := hidden ha
  obtain ⟨E, hE⟩ : ∃ E, E = s.allocE t z := ⟨_, rfl⟩
  rw [← hE] at g0 g1 ⊢
  have HE := hidden hE
  have HG0 := hidden g0
  have b0 : (E == 0) = false := beq_eq_false_iff_ne.2 g0
  have b1 : (E != 10) = true := bne_iff_ne.2 g1
  clear h hx hE g0 g1 ha
  go_enter Try.func33, Try.ntmps33
  go_wp2_with (go_at_call 41; refine (ralloc_at t z _ (HI.out.both hs)).mono ?_; rintro e w1 ⟨rfl, a1, cap1, V1, rf1, o1, f1, l1⟩; rw [← HE.out, hw]; obtain ⟨i1, p1, q1⟩ := HI.out.laid hs rf1 o1 f1 l1; rw [HA.out] at i1 q1; have I1 := hidden i1; have P1 := hidden p1; have Q1 := hidden q1; clear rf1 o1 f1 l1 i1 p1 q1)
  go_ret3
  exact ⟨_, (a1, cap1, V1), rfl, I1.out, P1.out, Q1.out, fun _ => rfl, fun e => absurd e HG0.out⟩
def RRoomAs (kb rb : Nat) (len : Nat) (m : Shape) (n : Nat) (r : RS) (t z : Int) (Y : Nat → Int) (k' : Int) (w : World) (e : Ending) (w' : World) : Prop := ∃ s1, Good s1 r ∧ RAllocAs kb rb len m n 0 (s1.allocW t z) Y (r.after s1 t z) k' w e w'
set_option maxRecDepth 100000 in
theorem rAlloc_full {al : Option Addr} {n c : Nat} {X : Nat → Int} {t z : Int} (w : World) (h : MI kb rb w r k m) (hs : Good s r) (hx : WS w al n c X) (hoff : ∀ ad, al = some ad → 0 < n → ¬ Mown kb rb r.L.length m ad.block) (hn : n ≤ 1000) (g : s.allocE t z = 10) (gf : (r.n : Int) < (lenG r (reachG s r (listX X n)) : Nat) + z + 1) : Calls Try.prog 33 #[.pointer (some ⟨kb, 0, none⟩), .int .i64 t, .int .i64 z, .slice al n c] w fun e w' => RAllocAs kb rb r.L.length m n 10 0 X r k w e w' := by
  obtain ⟨m0, m1, m2⟩ := h.cells
  have ha : r.after s t z = r := by unfold RS.after; rw [if_neg (by omega)]
  have hgl := goodG_len (reach_good hs.rep (listX X n))
  have hv := good_valid hs
  have hl1 := hv.len
  have hl2 := hv.n2
  have hzz : 0 ≤ z ∧ z ≤ 4096 := by
    unfold St.allocE at g
    split at g
    · omega
    · split at g
      · omega
      · omega
  have HI := hidden h
  have HX := hidden hx
  have HOF := hidden hoff
  have HA := hidden ha
  have HG := hidden g
  obtain ⟨lg, hlg⟩ : ∃ lg, lg = lenG r (reachG s r (listX X n)) := ⟨_, rfl⟩
  rw [← hlg] at gf hgl
  have HLG := hidden hlg
  have e1 := wrapId ((lg : Int) + z) (by omega) (by omega)
  have e2 := wrapId ((lg : Int) + z + 1) (by omega) (by omega)
  clear h hx hoff ha hv hlg g
  go_enter Try.func33, Try.ntmps33
  go_wp2_with (first
    | (go_at_call 41; refine (ralloc_at t z _ (HI.out.both hs)).mono ?_; rintro e w1 ⟨rfl, a1, cap1, V1, rf1, o1, f1, l1⟩; rw [HG.out]; obtain ⟨i1, p1, q1⟩ := HI.out.laid hs rf1 o1 f1 l1; rw [HA.out] at i1 q1; have I1 := hidden i1; have P1 := hidden p1; have Q1 := hidden q1; have X1 := hidden (HX.out.frame0 p1 HOF.out); obtain ⟨n0, n1, n2⟩ := i1.cells; clear rf1 o1 f1 l1 i1 p1 q1)
    | (go_at_call 53; refine (rreach_any _ (I1.out.both hs) X1.out hn).mono ?_; rintro e w2 ⟨gr, cr, rfl, own2, b2⟩; rw [← HLG.out]; have I2 := hidden (I1.out.frame (S := fun _ => False) (Only.of_below b2) (fun _ _ => id)); have P2 : Hid (Only (Mown kb rb r.L.length m) w w2) := P1.out.trans (Only.of_below b2); clear own2 b2; obtain ⟨n0', n1', n2'⟩ := I2.out.cells; obtain ⟨f0, f1, f2, f3⟩ := I2.out.rf.cells))
  go_ret3
  exact ⟨_, (a1, cap1, V1), rfl, I2.out, P2.out, Q1.out, fun _ => rfl, fun e => absurd e (by decide)⟩
set_option maxRecDepth 100000 in
theorem rAlloc_room {al : Option Addr} {n c : Nat} {X : Nat → Int} {t z : Int} (w : World) (h : MI kb rb w r k m) (hs : Good s r) (hx : WS w al n c X) (hoff : ∀ ad, al = some ad → 0 < n → ¬ Mown kb rb r.L.length m ad.block) (hn : n ≤ 1000) (g : s.allocE t z = 10) (gf : ¬ (r.n : Int) < (lenG r (reachG s r (listX X n)) : Nat) + z + 1) : Calls Try.prog 33 #[.pointer (some ⟨kb, 0, none⟩), .int .i64 t, .int .i64 z, .slice al n c] w fun e w' => RRoomAs kb rb r.L.length m n (collR s r (listX X n)) t z (fun i => collW s r (listX X n) (X i)) (wrap64 (k + 1)) w e w' := by
  obtain ⟨m0, m1, m2⟩ := h.cells
  have ha : r.after s t z = r := by unfold RS.after; rw [if_neg (by omega)]
  have hgl := goodG_len (reach_good hs.rep (listX X n))
  have hv := good_valid hs
  have hl1 := hv.len
  have hl2 := hv.n2
  have hzz : 0 ≤ z ∧ z ≤ 4096 := by
    unfold St.allocE at g
    split at g
    · omega
    · split at g
      · omega
      · omega
  have HI := hidden h
  have HX := hidden hx
  have HOF := hidden hoff
  have HA := hidden ha
  have HG := hidden g
  have HRF : Hid (∀ s1, Rep s1 (collR s r (listX X n)) → s1.allocE t z = 0) := fun s1 hr1 => room_fits4 hs.rep g gf hr1
  obtain ⟨lg, hlg⟩ : ∃ lg, lg = lenG r (reachG s r (listX X n)) := ⟨_, rfl⟩
  rw [← hlg] at gf hgl
  have HLG := hidden hlg
  have e1 := wrapId ((lg : Int) + z) (by omega) (by omega)
  have e2 := wrapId ((lg : Int) + z + 1) (by omega) (by omega)
  clear h hx hoff ha hv hlg g
  go_enter Try.func33, Try.ntmps33
  go_wp2_with (first
    | (go_at_call 41; refine (ralloc_at t z _ (I3.out.both hs1)).mono ?_; rintro e w4 ⟨rfl, a4, cap4, V4, rf4, o4, f4, l4⟩; rw [ge0]; obtain ⟨i4, p4, q4⟩ := I3.out.laid hs1 rf4 o4 f4 l4; have I4 := hidden i4; have P4 := hidden p4; have Q4 := hidden q4; clear rf4 o4 f4 l4 i4 p4 q4)
    | (go_at_call 41; refine (ralloc_at t z _ (HI.out.both hs)).mono ?_; rintro e w1 ⟨rfl, a1, cap1, V1, rf1, o1, f1, l1⟩; rw [HG.out]; obtain ⟨i1, p1, q1⟩ := HI.out.laid hs rf1 o1 f1 l1; rw [HA.out] at i1 q1; have I1 := hidden i1; have P1 := hidden p1; have Q1 := hidden q1; have X1 := hidden (HX.out.frame0 p1 HOF.out); obtain ⟨n0, n1, n2⟩ := i1.cells; clear rf1 o1 f1 l1 i1 p1 q1)
    | (go_at_call 53; refine (rreach_any _ (I1.out.both hs) X1.out hn).mono ?_; rintro e w2 ⟨gr, cr, rfl, own2, b2⟩; rw [← HLG.out]; have I2 := hidden (I1.out.frame (S := fun _ => False) (Only.of_below b2) (fun _ _ => id)); have P2 : Hid (Only (Mown kb rb r.L.length m) w w2) := P1.out.trans (Only.of_below b2); have X2 := hidden (X1.out.below b2); clear own2 b2; obtain ⟨n0', n1', n2'⟩ := I2.out.cells; obtain ⟨f0, f1, f2, f3⟩ := I2.out.rf.cells)
    | (go_at_call 54; refine (rForce _ I2.out hs X2.out (fun ad e hp e2 => HOF.out ad e hp (Or.inl e2)) hn).mono ?_; rintro e w3 ⟨go, co, m3, rfl, i3, own3, hgo, on3, nm3, ow3⟩; obtain ⟨s1, hs1⟩ := i3.good; have ge0 := HRF.out s1 hs1.rep; obtain ⟨t0, t1, t2⟩ := i3.cells; have I3 := hidden i3; have O3 := hidden own3; have ON3 := hidden on3; have NM3 := hidden nm3; have OW3 := hidden ow3; have GO3 := hidden hgo; clear i3 own3 on3 nm3 ow3 hgo))
  go_ret3
  have z2 := P2.out.size
  have z3 := ON3.out.size
  have kr : ∀ q, (q = kb ∨ q = rb) → Mown kb rb r.L.length m q := fun q hq => hq.elim Or.inl (fun e => Or.inr (Or.inl (Or.inl e)))
  have own : ∀ q, Mown kb rb (collR s r (listX X n)).L.length m3 q → Mown kb rb r.L.length m q ∨ w.heap.size ≤ q := fun q hq => by
    rcases OW3.out q hq with e | e | e
    · exact Or.inl (kr q (Or.inl e))
    · exact Or.inl (kr q (Or.inr e))
    · exact Or.inr (by omega)
  have lt3 := O3.out.lt
  refine ⟨s1, hs1, _, (a4, cap4, V4), rfl, I4.out, only_more (only_more P2.out ON3.out (fun q hq => Or.inl (kr q hq))) P4.out own, fun q hq => ?_, fun h => absurd rfl h, fun _ => ⟨go, co, rfl, O3.out.frame P4.out NM3.out, Nat.le_trans z2 GO3.out, fun hc => ?_⟩⟩
  · rcases Q4.out q hq with e | e
    · exact own q e
    · exact Or.inr (by omega)
  · rcases Q4.out go hc with e | e
    · exact NM3.out e
    · omega
end
end Go.Proofs.Ytlhcleocdlnbdaa
