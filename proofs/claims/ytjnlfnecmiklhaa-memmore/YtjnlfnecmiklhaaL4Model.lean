/-
  Layer 4: what the document's own machine does with the document's own arena in memory: what the plain machine says. Condition: it lies in memory.
-/
import Derived.Test.YtjnlfnecmiklhaaL4Pure
import Derived.Test.YtjnlfnecmiklhaaR3Reach
import Derived.Test.YtjnlfnecmiklhaaRefSetAny
namespace Go.Proofs.Ytjnlfnecmiklhaa
open Go.ChangeShapes Go.WideShapes Go.ChangeAt Go.RowKit Go.Deep
set_option linter.unusedVariables false
set_option maxHeartbeats 1000000

/-- How it lies in memory. -/
abbrev Shape := Option Addr × Nat × (Nat → Value)
/-- The same machine, where something more is known of the memory. -/
def MLift {τ σ : Type} (M : Mach τ) : Mach (τ × σ) where
  al := fun a t z X E W Y a' => M.al a.1 t z X E W Y a'.1
  fo := fun a X Y a' => M.fo a.1 X Y a'.1
  gv := fun a x k => M.gv a.1 x k
  ge := fun a x k => M.ge a.1 x k
  se := fun a x k v E a' => M.se a.1 x k v E a'.1
  sz := fun a x => M.sz a.1 x
theorem step_lift {τ σ : Type} {M : Mach τ} {st : St4} {a b : τ × σ} {X Y : Nat → Int} {E : Int} (h : stepR (MLift M) st a X E b Y) : stepR M st a.1 X E b.1 Y := by
  unfold stepR at h ⊢
  by_cases c0 : st.k = 0
  · rw [if_pos c0] at h ⊢; exact h
  · rw [if_neg c0] at h ⊢
    by_cases c1 : st.k = 1 ∨ st.k = 2 ∨ st.k = 5
    · rw [if_pos c1] at h ⊢
      by_cases c2 : M.sz a.1 (X (placeN st.b)) ≤ 0
      · rw [if_pos (show (MLift M).sz a (X (placeN st.b)) ≤ 0 from c2)] at h
        rw [if_pos c2]
        exact ⟨h.1, by rw [h.2.1], h.2.2⟩
      · rw [if_neg (show ¬ (MLift M).sz a (X (placeN st.b)) ≤ 0 from c2)] at h
        rw [if_neg c2]
        by_cases c3 : st.k = 5
        · rw [if_pos c3] at h ⊢
          exact ⟨h.1, by rw [h.2.1], h.2.2⟩
        · rw [if_neg c3] at h ⊢
          exact h
    · rw [if_neg c1] at h ⊢
      by_cases c2 : st.k = 3
      · rw [if_pos c2] at h ⊢; exact h
      · rw [if_neg c2] at h ⊢
        by_cases c3 : st.k = 4
        · rw [if_pos c3] at h ⊢
          exact ⟨h.1, by rw [h.2.1], h.2.2⟩
        · rw [if_neg c3] at h ⊢
          exact ⟨h.1, by rw [h.2.1], h.2.2⟩
theorem play_lift {τ σ : Type} {M : Mach τ} {f : Bool} {T : Nat → St4} {a0 : τ × σ} : ∀ {n : Nat} {E : Nat → Int} {a : τ × σ} {X : Nat → Int}, playR (MLift M) f T a0 n E a X → playR M f T a0.1 n E a.1 X
  | 0, _, _, _, ⟨e1, e2⟩ => ⟨by rw [e1], e2⟩
  | n + 1, _, _, _, ⟨a1, X1, h1, a2, X2, k1, k2⟩ => ⟨a1.1, X1, play_lift h1, a2.1, X2, by
      cases f with
      | false =>
        obtain ⟨q1, q2⟩ : a2 = a1 ∧ X2 = X1 := k1
        exact ⟨by rw [q1], q2⟩
      | true =>
        have q : (MLift M).fo a1 X1 X2 a2 := k1
        exact q, step_lift k2⟩
structure MI (kb rb : Nat) (w : World) (r : RS) (k : Int) (m : Shape) : Prop where
  rf : Rf w rb r m.1 m.2.1 m.2.2
  good : ∃ s, Good s r
  mem : w.heap[kb]? = some (.cells #[.pointer (some ⟨rb, 0, none⟩), .int .i64 k] 46 (0, 0))
  four : 4 ≤ rb
def Mown (kb rb : Nat) (len : Nat) (m : Shape) (q : Nat) : Prop := q = kb ∨ Rown rb m.1 q ∨ ∃ i, i < len ∧ ∃ n c, m.2.2 i = .slice (some ⟨q, 0, none⟩) n c
section
variable {kb rb : Nat} {w w' : World} {r : RS} {k : Int} {m : Shape} {s : St}
theorem MI.both (h : MI kb rb w r k m) (hs : Good s r) : Both w ⟨0, 1, 2, 3⟩ s rb r m.1 m.2.1 m.2.2 := by
  have := h.four
  exact ⟨good_ar hs w, h.rf, hs.rep, by show 0 < rb; omega, by show 1 < rb; omega, by show 2 < rb; omega, by show 3 < rb; omega⟩
theorem rf_frame {S : Nat → Prop} {a : Option Addr} {cap : Nat} {V : Nat → Value} (h : Rf w rb r a cap V) (k : Only S w w') (h1 : ∀ q, Rown rb a q → ¬ S q) (h2 : ∀ i, i < r.L.length → ∀ q n c, V i = .slice (some ⟨q, 0, none⟩) n c → ¬ S q) : Rf w' rb r a cap V := by
  refine ⟨(k.block _ (lt_of_some h.hr) (h1 rb (Or.inl rfl))).trans h.hr, h.hl.1, h.hl.2.1, h.hl.2.2.1, fun ad had => ?_⟩
  obtain ⟨g, cur, e, hb, hg, hc, hcell⟩ := h.hl.2.2.2 ad had
  refine ⟨g, cur, e, hb, (k.block _ (lt_of_some hg) (h1 g (Or.inr (by rw [had, e])))).trans hg, hc, fun i b hib => ?_⟩
  obtain ⟨c1, c2, c3, a', cap', e2, hn, hf⟩ := hcell i b hib
  have hi := (List.getElem?_eq_some_iff.1 hib).1
  refine ⟨c1, c2, c3, a', cap', e2, hn, fun ad' had' => ?_⟩
  obtain ⟨g', e3, hb', ho⟩ := hf ad' had'
  exact ⟨g', e3, hb', ho.frame k (h2 i hi g' _ _ (by rw [e2, had', e3]))⟩
theorem MI.frame {S : Nat → Prop} (h : MI kb rb w r k m) (o : Only S w w') (hs : ∀ q, Mown kb rb r.L.length m q → ¬ S q) : MI kb rb w' r k m :=
  ⟨rf_frame h.rf o (fun q hq => hs q (Or.inr (Or.inl hq))) (fun i hi q n c e => hs q (Or.inr (Or.inr ⟨i, hi, n, c, e⟩))), h.good, (o.block _ (lt_of_some h.mem) (hs kb (Or.inl rfl))).trans h.mem, h.four⟩
theorem rf_lt {a : Option Addr} {cap : Nat} {V : Nat → Value} (h : Rf w rb r a cap V) : (∀ q, Rown rb a q → q < w.heap.size) ∧ ∀ i, i < r.L.length → ∀ q n c, V i = .slice (some ⟨q, 0, none⟩) n c → q < w.heap.size := by
  refine ⟨fun q hq => ?_, fun i hi q n c e => ?_⟩
  · rcases hq with e | e
    · rw [e]; exact lt_of_some h.hr
    · obtain ⟨g, cur, e2, hb, hg, _⟩ := h.hl.2.2.2 _ e
      cases e2
      exact lt_of_some hg
  · obtain ⟨g, e1, _, _, _, hcell⟩ := h.row (by omega)
    obtain ⟨_, _, _, a', cap', e2, hn, hf⟩ := hcell i _ (List.getElem?_eq_getElem hi)
    rw [e] at e2
    simp only [Value.slice.injEq] at e2
    obtain ⟨g', e3, _, ho⟩ := hf ⟨q, 0, none⟩ e2.1.symm
    cases e3
    exact ho.lt
theorem MI.lt (h : MI kb rb w r k m) : ∀ q, Mown kb rb r.L.length m q → q < w.heap.size := by
  rintro q (e | e | ⟨i, hi, n, c, e⟩)
  · rw [e]; exact lt_of_some h.mem
  · exact (rf_lt h.rf).1 q e
  · exact (rf_lt h.rf).2 i hi q n c e
/-- A row of words is not the machine's own, if no block's fields lie in it. -/
theorem MI.off {g n : Nat} {X : Nat → Int} (h : MI kb rb w r k m) (ho : Own w g n X) (hf : Off r.L.length m.2.2 g) : ¬ Mown kb rb r.L.length m g := by
  obtain ⟨cur, hc⟩ := ho.blk
  rintro (e | (e | e) | ⟨i, hi, n, c, e⟩)
  · exact ty_two h.mem hc (by decide) e.symm
  · exact ty_two h.rf.hr hc (by decide) e.symm
  · obtain ⟨g', cur', e2, hb, hg, _⟩ := h.rf.hl.2.2.2 _ e
    cases e2
    exact ty_two hg hc (by decide) rfl
  · exact hf i hi ⟨g, 0, none⟩ n c e rfl
theorem MI.sep (h : MI kb rb w r k m) : kb ≠ rb ∧ (∀ q, Rown rb m.1 q → ¬ q = kb) ∧ ∀ i, i < r.L.length → ∀ q n c, m.2.2 i = .slice (some ⟨q, 0, none⟩) n c → ¬ q = kb := by
  have n1 : kb ≠ rb := ty_two h.mem h.rf.hr (by decide)
  refine ⟨n1, fun q hq e => ?_, fun i hi q n c hv e => ?_⟩
  · subst e
    rcases hq with e | e
    · exact n1 e
    · obtain ⟨g, cur, e2, hb, hg, _⟩ := h.rf.hl.2.2.2 _ e
      cases e2
      exact ty_two h.mem hg (by decide) rfl
  · subst e
    obtain ⟨g, e1, _, _, _, hcell⟩ := h.rf.row (by omega)
    obtain ⟨_, _, _, a', cap', e2, hn, hf⟩ := hcell i _ (List.getElem?_eq_getElem hi)
    rw [hv] at e2
    simp only [Value.slice.injEq] at e2
    obtain ⟨g', e3, _, ho⟩ := hf ⟨q, 0, none⟩ e2.1.symm
    cases e3
    obtain ⟨cur, hc⟩ := ho.blk
    exact ty_two h.mem hc (by decide) rfl
theorem MI.cells (h : MI kb rb w r k m) : w.cell? ⟨kb, 0, none⟩ = some (.pointer (some ⟨rb, 0, none⟩)) ∧ w.cell? ⟨kb, 1, none⟩ = some (.int .i64 k) ∧ w.frozen? ⟨kb, 1, none⟩ = false := by
  have hm := h.mem
  refine ⟨?_, ?_, ?_⟩ <;> simp [World.cell?, World.frozen?, hm]
theorem MI.count (h : MI kb rb w r k m) (k1 : Int) : MI kb rb (w.setCell ⟨kb, 1, none⟩ (.int .i64 k1)) r k1 m := by
  obtain ⟨n1, n2, n3⟩ := h.sep
  have o : Only (fun q => q = kb) w (w.setCell ⟨kb, 1, none⟩ (.int .i64 k1)) := (Only.refl (fun q => q = kb) w).setCell (a := ⟨kb, 1, none⟩) (Or.inr rfl) _
  refine ⟨rf_frame h.rf o n2 n3, h.good, ?_, h.four⟩
  have hm := h.mem
  simp [World.setCell, Array.getElem?_modify, hm]
/-- What Force hands back, and how all lies then. -/
def ForceAs (kb rb : Nat) (r1 : RS) (k1 : Int) (Y : Nat → Int) (w : World) (e : Ending) (w' : World) : Prop := ∃ go co, ∃ m1 : Shape, e = .returned (.slice (some ⟨go, 0, none⟩) 8 co) ∧ MI kb rb w' r1 k1 m1 ∧ Own w' go 8 Y ∧ w.heap.size ≤ go ∧ Only (fun q => q = kb ∨ q = rb) w w' ∧ ¬ Mown kb rb r1.L.length m1 go ∧ ∀ q, Mown kb rb r1.L.length m1 q → q = kb ∨ q = rb ∨ w.heap.size ≤ q
theorem rforce_any {g c : Nat} {X : Nat → Int} (w : World) (h : MI kb rb w r k m) (hs : Good s r) (ho : Own w g 8 X) (hx : RX X) : Calls Try.prog 36 #[.pointer (some ⟨kb, 0, none⟩), .slice (some ⟨g, 0, none⟩) 8 c] w fun e w' => ForceAs kb rb (collR s r (listX X 8)) (wrap64 (k + 1)) (fun i => collW s r (listX X 8) (X i)) w e w' := by
  obtain ⟨m0, m1, m2⟩ := h.cells
  have hI1 := h.count (wrap64 (k + 1))
  have o1 : Only (fun q => q = kb) w (w.setCell ⟨kb, 1, none⟩ (.int .i64 (wrap64 (k + 1)))) := (Only.refl (fun q => q = kb) w).setCell (a := ⟨kb, 1, none⟩) (Or.inr rfl) _
  have ho1 : Own (w.setCell ⟨kb, 1, none⟩ (.int .i64 (wrap64 (k + 1)))) g 8 X := ho.frame o1 (fun e => by
    obtain ⟨cur, hc⟩ := ho.blk
    exact ty_two h.mem hc (by decide) e.symm)
  obtain ⟨t0, _, _⟩ := hI1.cells
  have HI1 := hidden hI1
  have HO1 := hidden ho1
  have HON := hidden o1
  clear hI1 ho1 o1 h ho
  go_enter Try.func36, Try.ntmps36
  go_wp2_with fail
  generalize w.setCell ⟨kb, 1, none⟩ (.int .i64 (wrap64 (k + 1))) = w1 at *
  refine (rcollect_any _ (HI1.out.both hs) (ws_own HO1.out (fun i hi => (hx i hi).1) (fun i hi => (hx i hi).2)) (by omega)).mono ?_
  rintro e w2 ⟨go, co, aN, capN, VN, rfl, rf2, own2, hgo, on2, off2, la2, lv2⟩
  have hsz := HON.out.size
  have hI2 : MI kb rb w2 (collR s r (listX X 8)) (wrap64 (k + 1)) (aN, capN, VN) := ⟨rf2, good_coll hs w, (on2.block _ (lt_of_some HI1.out.mem) HI1.out.sep.1).trans HI1.out.mem, HI1.out.four⟩
  have HI2 := hidden hI2
  have HOW2 := hidden own2
  have HON2 : Hid (Only (fun q => q = kb ∨ q = rb) w w2) := (HON.out.mono (fun q _ h => Or.inl h)).trans (on2.mono (fun q _ h => Or.inr h))
  have HNO : Hid (¬ Mown kb rb (collR s r (listX X 8)).L.length (aN, capN, VN) go) := hI2.off own2 off2
  have HNW : Hid (∀ q, Mown kb rb (collR s r (listX X 8)).L.length (aN, capN, VN) q → q = kb ∨ q = rb ∨ w.heap.size ≤ q) := by
    rintro q (e | (e | e) | ⟨i, hi, n, c, e⟩)
    · exact Or.inl e
    · exact Or.inr (Or.inl e)
    · have := la2 _ e
      exact Or.inr (Or.inr (by simp at this; omega))
    · have := lv2 i hi _ n c e
      exact Or.inr (Or.inr (by simp at this; omega))
  clear rf2 hI2 own2 on2 off2 la2 lv2
  go_wp2_with fail
  go_ret
  exact ⟨go, co, (aN, capN, VN), rfl, HI2.out, HOW2.out, by omega, HON2.out, HNO.out, HNW.out⟩
/-- What Alloc hands back, and how all lies then. -/
def AllocAs (kb rb g : Nat) (r : RS) (k t z : Int) (X : Nat → Int) (m : Shape) (w : World) (e : Ending) (w' : World) : Prop := ∃ E W X' r' k' now, ∃ m1 : Shape, e = .returned (.tuple #[.int .u64 W, now, .int .i64 E]) ∧ MM.al (r, k) t z X E W X' (r', k') ∧ MI kb rb w' r' k' m1 ∧ Only (Mown kb rb r.L.length m) w w' ∧ (∀ q, Mown kb rb r'.L.length m1 q → Mown kb rb r.L.length m q ∨ w.heap.size ≤ q) ∧ R64 W ∧ (E = 0 → HeldAs (Mown kb rb r'.L.length m1) w.heap.size g w' X' now)
theorem allocW_r64 (h : Good s r) (t z : Int) : R64 (s.allocW t z) := by
  have h1 := h.n2
  have h2 := h.t2
  have h3 := h.rep.base
  have h4 := h.rep.wh
  have h5 := h.rep.n
  have h6 : s.base ≤ s.n := by
    rcases Nat.le_one_iff_eq_zero_or_eq_one.1 h4 with e | e
    · rw [h3, e]; simp
    · rw [h3, e, h5]; simp
  unfold St.allocW
  split
  · exact ⟨by omega, by omega⟩
  · exact ⟨by decide, by decide⟩
/-- Behind the arena's own Alloc. -/
theorem MI.laid {t z : Int} {a1 : Option Addr} {cap1 : Nat} {V1 : Nat → Value} (h : MI kb rb w r k m) (hs : Good s r) (rf1 : Rf w' rb (r.after s t z) a1 cap1 V1) (o1 : Only (Rown rb m.1) w w') (f1 : Fresh w.heap.size r.L.length m.2.2 (r.after s t z).L.length V1) (l1 : ∀ q, a1 = some ⟨q, 0, none⟩ → m.1 = some ⟨q, 0, none⟩ ∨ w.heap.size ≤ q) :
    MI kb rb w' (r.after s t z) k (a1, cap1, V1) ∧ Only (Mown kb rb r.L.length m) w w' ∧ (∀ q, Mown kb rb (r.after s t z).L.length (a1, cap1, V1) q → Mown kb rb r.L.length m q ∨ w.heap.size ≤ q) := by
  refine ⟨⟨rf1, ⟨_, good_alloc hs t z⟩, (o1.block _ (lt_of_some h.mem) (fun hc => h.sep.2.1 kb hc rfl)).trans h.mem, h.four⟩, o1.mono (fun q _ hq => Or.inr (Or.inl hq)), ?_⟩
  rintro q (e | (e | e) | ⟨i, hi, n, c, e⟩)
  · exact Or.inl (Or.inl e)
  · exact Or.inl (Or.inr (Or.inl (Or.inl e)))
  · rcases l1 q e with h1 | h1
    · exact Or.inl (Or.inr (Or.inl (Or.inr h1)))
    · exact Or.inr h1
  · rcases f1 i hi with ⟨h1, h2⟩ | h1
    · exact Or.inl (Or.inr (Or.inr ⟨i, h1, n, c, by rw [← h2]; exact e⟩))
    · exact Or.inr (h1 ⟨q, 0, none⟩ n c e)
theorem MM_al_yes (hs : Good s r) {t z : Int} {X : Nat → Int} (g : s.allocE t z ≠ 10) {E : Int} (hE : E = s.allocE t z) : MM.al (r, k) t z X E (s.allocW t z) X (r.after s t z, k) := by
  have hp := pick_good hs
  unfold MM; dsimp only
  rw [if_neg (by rw [← agree_allocE hs hp]; exact g), ← agree_allocE hs hp, ← agree_allocW hs hp, ← agree_after hs hp]
  exact ⟨hE, fun _ => ⟨rfl, rfl⟩, rfl⟩
theorem MM_al_full (hs : Good s r) {t z : Int} {X : Nat → Int} (g : s.allocE t z = 10) (gf : (r.n : Int) < (lenG r (reachG s r (listX X 8)) : Nat) + z + 1) (W : Int) (Y : Nat → Int) : MM.al (r, k) t z X 10 W Y (r, k) := by
  have hp := pick_good hs
  unfold MM; dsimp only
  rw [if_pos (by rw [← agree_allocE hs hp]; exact g), ← agree_reach hs hp, if_pos gf]
  exact ⟨rfl, rfl⟩
theorem MM_al_room {s1 : St} (hs : Good s r) {t z : Int} {X : Nat → Int} (g : s.allocE t z = 10) (gf : ¬ (r.n : Int) < (lenG r (reachG s r (listX X 8)) : Nat) + z + 1) (hs1 : Good s1 (collR s r (listX X 8))) : s1.allocE t z = 0 ∧ MM.al (r, k) t z X 0 (s1.allocW t z) (fun i => collW s r (listX X 8) (X i)) ((collR s r (listX X 8)).after s1 t z, wrap64 (k + 1)) := by
  have hp := pick_good hs
  refine ⟨?_, ?_⟩
  · have e1 := hs1.rep.top
    have e2 := hs1.rep.n
    rw [collR_lenB] at e1
    have e3 : (collR s r (listX X 8)).n = r.n := rfl
    unfold St.allocE at g ⊢
    split at g
    · omega
    · rename_i g1
      split at g
      · omega
      · rename_i g2
        rw [if_neg g1, if_neg g2, if_neg (by omega)]
  · unfold MM; dsimp only
    rw [if_pos (by rw [← agree_allocE hs hp]; exact g), ← agree_reach hs hp, if_neg gf, ← agree_collR hs hp]
    have hp1 := pick_good hs1
    rw [← agree_allocW hs1 hp1, ← agree_after hs1 hp1]
    exact ⟨rfl, rfl, funext (fun i => agree_collW hs hp _ _), rfl⟩
theorem MI.not_rown {g n : Nat} {X : Nat → Int} (h : MI kb rb w r k m) (ho : Own w g n X) : ¬ Rown rb m.1 g := by
  obtain ⟨cur, hc⟩ := ho.blk
  rintro (e | e)
  · exact ty_two h.rf.hr hc (by decide) e.symm
  · obtain ⟨g', cur', e2, hb, hg, _⟩ := h.rf.hl.2.2.2 _ e
    cases e2
    exact ty_two hg hc (by decide) rfl
theorem own_add {w : World} {g n j : Nat} {X : Nat → Int} {o : Obj} (h : Own w g n X) (hj : j < n) : (w.alloc o).cell? ((Addr.mk g 0 none).add j) = some (.int .u64 (X j)) := by
  have e : (Addr.mk g 0 none).add j = ⟨g, j, none⟩ := by simp [Addr.add]; intro h; exact h.symm
  rw [e]
  exact (h.of_block (blk_alloc_lt _ _ _ h.lt)).cell hj
theorem only_above {w1 w2 : World} {S : Nat → Prop} {o : Obj} {g : Nat} (gr : (w1.alloc o).grownBy w2 (some g)) (hg : w1.heap.size ≤ g) : Only S w1 w2 :=
  ⟨gr.os, gr.tape, gr.output, Nat.le_trans (by rw [nblk_alloc]; omega) gr.size, fun q hq _ => (gr.block q (by rw [nblk_alloc]; omega) (by simp; omega)).trans (blk_alloc_lt _ _ _ hq)⟩
/-- A block was laid at once: what is handed back. -/
theorem laid_yes {t z : Int} {X : Nat → Int} {m1 : Shape} {w1 w2 : World} {g g2 c2 : Nat} {o : Obj} (hs : Good s r) (g0 : s.allocE t z = 0) (hx : RX X) (i1 : MI kb rb w1 (r.after s t z) k m1) (p1 : Only (Mown kb rb r.L.length m) w w1) (q1 : ∀ q, Mown kb rb (r.after s t z).L.length m1 q → Mown kb rb r.L.length m q ∨ w.heap.size ≤ q) (ho2 : Own w2 g2 8 X) (gr : (w1.alloc o).grownBy w2 (some w1.heap.size)) (hg2 : w1.heap.size ≤ g2) :
    AllocAs kb rb g r k t z X m w (.returned (.tuple #[.int .u64 (s.allocW t z), .slice (some ⟨g2, 0, none⟩) 8 c2, .int .i64 0])) w2 := by
  have o2 : Only (fun _ => False) w1 w2 := only_above gr (Nat.le_refl _)
  have i2 := i1.frame o2 (fun _ _ => id)
  have := p1.size
  refine ⟨0, s.allocW t z, X, r.after s t z, k, _, m1, rfl, MM_al_yes hs (by omega) g0.symm, i2, p1.trans (o2.mono (fun _ _ h => h.elim)), q1, allocW_r64 hs t z, fun _ => ⟨g2, c2, rfl, ho2, i2.off ho2 (off_new i1.rf hg2), Or.inr (by omega), hx⟩⟩
theorem only_more {w1 w2 : World} {A B : Nat → Prop} (h : Only A w w1) (k : Only B w1 w2) (hB : ∀ q, B q → A q ∨ w.heap.size ≤ q) : Only A w w2 := by
  refine ⟨k.os.trans h.os, k.tape.trans h.tape, k.output.trans h.output, Nat.le_trans h.size k.size, fun q hq hs => (k.block q (Nat.lt_of_lt_of_le hq h.size) (fun hc => ?_)).trans (h.block q hq hs)⟩
  rcases hB q hc with e | e
  · exact hs e
  · omega
theorem room_ends {t z : Int} {X : Nat → Int} {m3 m4 : Shape} {w2 w3 w4 : World} {g go co : Nat} {s1 : St} {k1 : Int} (hs : Good s r) (hs1 : Good s1 (collR s r (listX X 8))) (hx : RX X) (hal : MM.al (r, k) t z X 0 (s1.allocW t z) (fun i => collW s r (listX X 8) (X i)) ((collR s r (listX X 8)).after s1 t z, k1))
    (i3 : MI kb rb w3 (collR s r (listX X 8)) k1 m3) (p2 : Only (Mown kb rb r.L.length m) w w2) (on3 : Only (fun q => q = kb ∨ q = rb) w2 w3) (p4 : Only (Mown kb rb (collR s r (listX X 8)).L.length m3) w3 w4) (i4 : MI kb rb w4 ((collR s r (listX X 8)).after s1 t z) k1 m4)
    (q4 : ∀ q, Mown kb rb ((collR s r (listX X 8)).after s1 t z).L.length m4 q → Mown kb rb (collR s r (listX X 8)).L.length m3 q ∨ w3.heap.size ≤ q) (ow3 : ∀ q, Mown kb rb (collR s r (listX X 8)).L.length m3 q → q = kb ∨ q = rb ∨ w2.heap.size ≤ q) (own3 : Own w3 go 8 (fun i => collW s r (listX X 8) (X i))) (nm3 : ¬ Mown kb rb (collR s r (listX X 8)).L.length m3 go) (hgo : w2.heap.size ≤ go) :
    AllocAs kb rb g r k t z X m w (.returned (.tuple #[.int .u64 (s1.allocW t z), .slice (some ⟨go, 0, none⟩) 8 co, .int .i64 0])) w4 := by
  have z2 := p2.size
  have z3 := on3.size
  have kr : ∀ q, (q = kb ∨ q = rb) → Mown kb rb r.L.length m q := fun q hq => hq.elim Or.inl (fun e => Or.inr (Or.inl (Or.inl e)))
  have own : ∀ q, Mown kb rb (collR s r (listX X 8)).L.length m3 q → Mown kb rb r.L.length m q ∨ w.heap.size ≤ q := fun q hq => by
    rcases ow3 q hq with e | e | e
    · exact Or.inl (kr q (Or.inl e))
    · exact Or.inl (kr q (Or.inr e))
    · exact Or.inr (by omega)
  obtain ⟨w0, ha⟩ := good_ar hs w
  have lt3 := own3.lt
  refine ⟨0, _, _, _, _, _, m4, rfl, hal, i4, only_more (only_more p2 on3 (fun q hq => Or.inl (kr q hq))) p4 own, fun q hq => ?_, allocW_r64 hs1 t z, fun _ => ⟨go, co, rfl, own3.frame p4 nm3, fun hc => ?_, Or.inr (by omega), fun i hi => ?_⟩⟩
  · rcases q4 q hq with e | e
    · exact own q e
    · exact Or.inr (by omega)
  · rcases q4 go hc with e | e
    · exact nm3 e
    · omega
  · exact newW_rng ha hs.rep (reach_good hs.rep (listX X 8)) (X i) (hx i hi).1 (hx i hi).2
set_option maxRecDepth 100000 in
theorem ralloc4_any {g c : Nat} {X : Nat → Int} {t z : Int} (w : World) (h : MI kb rb w r k m) (ho : Own w g 8 X) (hx : RX X) (hz : RI z) : Calls Try.prog 35 #[.pointer (some ⟨kb, 0, none⟩), .int .i64 t, .int .i64 z, .slice (some ⟨g, 0, none⟩) 8 c] w fun e w' => AllocAs kb rb g r k t z X m w e w' := by
  obtain ⟨s, hs⟩ := h.good
  obtain ⟨m0, m1, m2⟩ := h.cells
  have HI := hidden h
  have HO := hidden ho
  have HNR := hidden (h.not_rown ho)
  clear h ho
  by_cases g0 : s.allocE t z = 0
  · go_enter Try.func35, Try.ntmps35
    go_wp2_with (first
      | (go_at_call 59; refine (ralloc_at t z _ (HI.out.both hs)).mono ?_; rintro e w1 ⟨rfl, a1, cap1, V1, rf1, o1, f1, l1⟩; rw [g0]; obtain ⟨i1, p1, q1⟩ := HI.out.laid hs rf1 o1 f1 l1; have I1 := hidden i1; have P1 := hidden p1; have Q1 := hidden q1; have O1 := hidden (HO.out.frame o1 HNR.out); clear rf1 o1 f1 l1 i1 p1 q1)
      | (at_builtin; refine wpList_append_words rfl (.tmp 29) (.tmp 30) rfl w1.heap.size rfl (blk_alloc_new _ _) (some ⟨g, 0, none⟩) 8 c rfl X (fun h => by cases h) (fun j hj => ⟨_, rfl, own_add O1.out hj⟩) (by omega) ?_; intro g2 c2 w2 ho2 gr2 hg2; have HA := hidden (laid_yes (g := g) (c2 := c2) hs g0 hx I1.out P1.out Q1.out ho2 gr2 hg2); clear ho2 gr2 hg2))
    go_ret3
    exact HA.out
  · have b0 : (s.allocE t z == 0) = false := beq_eq_false_iff_ne.2 g0
    have ha : r.after s t z = r := by unfold RS.after; rw [if_neg g0]
    by_cases g1 : s.allocE t z = 10
    · have HG1 := hidden g1
      have HA2 := hidden ha
      have hgl := goodG_len (reach_good hs.rep (listX X 8))
      have hv := good_valid hs
      have hl1 := hv.len
      have hl2 := hv.n2
      have hzz : 0 ≤ z ∧ z ≤ 4096 := by
        unfold St.allocE at g1
        split at g1
        · omega
        · split at g1
          · omega
          · omega
      have HGF : Hid ((r.n : Int) < (lenG r (reachG s r (listX X 8)) : Nat) + z + 1 → MM.al (r, k) t z X 10 0 X (r, k)) := fun gf => MM_al_full hs g1 gf 0 X
      have HGR : Hid (¬ (r.n : Int) < (lenG r (reachG s r (listX X 8)) : Nat) + z + 1 → ∀ s1, Good s1 (collR s r (listX X 8)) → s1.allocE t z = 0 ∧ MM.al (r, k) t z X 0 (s1.allocW t z) (fun i => collW s r (listX X 8) (X i)) ((collR s r (listX X 8)).after s1 t z, wrap64 (k + 1))) := fun gf s1 hs1 => MM_al_room hs g1 gf hs1
      obtain ⟨lg, hlg⟩ : ∃ lg, lg = lenG r (reachG s r (listX X 8)) := ⟨_, rfl⟩
      rw [← hlg] at HGF HGR hgl
      have HLG := hidden hlg
      have e1 := wrapId ((lg : Int) + z) (by omega) (by omega)
      have e2 := wrapId ((lg : Int) + z + 1) (by omega) (by omega)
      clear hv g0 g1 ha hlg b0
      go_enter Try.func35, Try.ntmps35
      go_upto_region 7 with (first
        | (go_at_call 59; refine (ralloc_at t z _ (HI.out.both hs)).mono ?_; rintro e w1 ⟨rfl, a1, cap1, V1, rf1, o1, f1, l1⟩; rw [HG1.out]; obtain ⟨i1, p1, q1⟩ := HI.out.laid hs rf1 o1 f1 l1; rw [HA2.out] at i1 q1; have I1 := hidden i1; have P1 := hidden p1; have Q1 := hidden q1; have O1 := hidden (HO.out.frame o1 HNR.out); obtain ⟨n0, n1, n2⟩ := i1.cells; clear rf1 o1 f1 l1 i1 p1 q1)
        | (go_at_call 60; refine (rreach_any _ (I1.out.both hs) (ws_own O1.out (fun i hi => (hx i hi).1) (fun i hi => (hx i hi).2)) (by omega)).mono ?_; rintro e w2 ⟨gr, cr, rfl, own2, b2⟩; rw [← HLG.out]; have I2 := hidden (I1.out.frame (S := fun _ => False) (Only.of_below b2) (fun _ _ => id)); have O2 := hidden (O1.out.frame (S := fun _ => False) (Only.of_below b2) id); have P2 : Hid (Only (Mown kb rb r.L.length m) w w2) := P1.out.trans (Only.of_below b2); clear own2 b2; obtain ⟨n0', n1', n2'⟩ := I2.out.cells; obtain ⟨f0, f1, f2, f3⟩ := I2.out.rf.cells))
      by_cases gf : (r.n : Int) < (lg : Int) + z + 1
      · have HAL := hidden (HGF.out gf)
        go_wp2_with fail
        go_ret3
        exact ⟨10, 0, X, r, k, _, _, rfl, HAL.out, I2.out, P2.out, Q1.out, ⟨by decide, by decide⟩, fun e => by omega⟩
      · have HGR2 := hidden (HGR.out (by omega))
        go_wp2_with fail
        refine (rforce_any _ I2.out hs O2.out hx).mono ?_
        rintro e w3 ⟨go, co, m3, rfl, i3, own3, hgo, on3, nm3, ow3⟩
        obtain ⟨s1, hs1⟩ := i3.good
        obtain ⟨ge0, hal⟩ := HGR2.out s1 hs1
        obtain ⟨t0, t1, t2⟩ := i3.cells
        have HAL := hidden hal
        have I3 := hidden i3
        have O3 := hidden own3
        have ON3 := hidden on3
        have NM3 := hidden nm3
        have OW3 := hidden ow3
        have GO3 := hidden hgo
        clear i3 own3 on3 nm3 ow3 hgo hal
        go_wp2_with (first
          | (go_at_call 59; refine (ralloc_at t z _ (I3.out.both hs1)).mono ?_; rintro e w4 ⟨rfl, a4, cap4, V4, rf4, o4, f4, l4⟩; rw [ge0]; obtain ⟨i4, p4, q4⟩ := I3.out.laid hs1 rf4 o4 f4 l4; have I4 := hidden i4; have P4 := hidden p4; have Q4 := hidden q4; clear rf4 o4 f4 l4 i4 p4 q4))
        go_ret3
        exact room_ends (w2 := w2) (w3 := w3) hs hs1 hx HAL.out I3.out P2.out ON3.out P4.out I4.out Q4.out OW3.out O3.out NM3.out GO3.out
    · have b1 : (s.allocE t z != 10) = true := bne_iff_ne.2 g1
      have hw : s.allocW t z = 0 := by unfold St.allocW; rw [if_neg g0]
      have HG := hidden hs
      have HG0 := hidden g0
      have HG1 := hidden g1
      have HA2 := hidden ha
      obtain ⟨E, hE⟩ : ∃ E, E = s.allocE t z := ⟨_, rfl⟩
      have HE := hidden hE
      rw [← hE] at b0 b1
      clear g0 g1 ha hE
      go_enter Try.func35, Try.ntmps35
      go_wp2_with (first
        | (go_at_call 59; refine (ralloc_at t z _ (HI.out.both hs)).mono ?_; rintro e w1 ⟨rfl, a1, cap1, V1, rf1, o1, f1, l1⟩; rw [← HE.out, hw]; obtain ⟨i1, p1, q1⟩ := HI.out.laid hs rf1 o1 f1 l1; have I1 := hidden i1; have P1 := hidden p1; have Q1 := hidden q1; have O1 := hidden (HO.out.frame o1 HNR.out); clear rf1 o1 f1 l1 i1 p1 q1))
      go_ret3
      have hA := MM_al_yes (k := k) (X := X) HG.out HG1.out HE.out
      rw [hw] at hA
      exact ⟨E, 0, X, _, k, _, _, rfl, hA, I1.out, P1.out, Q1.out, ⟨by decide, by decide⟩, fun e => absurd (HE.out.symm.trans e) HG0.out⟩
end
end Go.Proofs.Ytjnlfnecmiklhaa
