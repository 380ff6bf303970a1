/-
  Layer 6, the program's work: pairs that are left, the last one on top: put, taken off. Condition: the work lies in memory.
-/
import Derived.Test.YtcbgjkedmboifabQ6Fault
import Derived.Deep.AppendLies
namespace Go.Proofs.Ytcbgjkedmboifab
open Go.ChangeShapes Go.WideShapes Go.ChangeAt Go.RowKit Go.Deep
set_option linter.unusedVariables false
set_option maxHeartbeats 1000000

/-- A pair, as cells. -/
def pairV (p : Int × Int) : List Value := [.int .u64 p.1, .int .u64 p.2]
/-- Pairs, the first one on top, as a row's cells. -/
def flatP : List (Int × Int) → List Value
  | [] => []
  | p :: ws => flatP ws ++ pairV p
theorem flatP_len : ∀ ws, (flatP ws).length = ws.length * 2
  | [] => rfl
  | p :: ws => by show (flatP ws ++ pairV p).length = (ws.length + 1) * 2; rw [List.length_append, flatP_len ws]; show _ + 2 = _; omega
/-- Only blocks of O have changed, and what is owned now is of O or new. -/
structure Grows (O O' : Nat → Prop) (w w' : World) : Prop where
  only : Only O w w'
  sub : ∀ q, O' q → O q ∨ w.heap.size ≤ q
theorem Grows.trans {O O' O'' : Nat → Prop} {w w' w'' : World} (h : Grows O O' w w') (k : Grows O' O'' w' w'') : Grows O O'' w w'' where
  only := ⟨k.only.os.trans h.only.os, k.only.tape.trans h.only.tape, k.only.output.trans h.only.output, Nat.le_trans h.only.size k.only.size, fun i hi hs => (k.only.block i (Nat.lt_of_lt_of_le hi h.only.size) (fun c => by rcases h.sub i c with c | c; exact hs c; omega)).trans (h.only.block i hi hs)⟩
  sub := fun q hq => by
    rcases k.sub q hq with c | c
    · exact h.sub q c
    · exact Or.inr (Nat.le_trans h.only.size c)
theorem Grows.below {O O' : Nat → Prop} {w w' : World} {B : Nat} (h : Grows O O' w w') (hB : B ≤ w.heap.size) (hO : ∀ q, O q → B ≤ q) : Below B w w' := h.only.below hB (fun k hk c => by have := hO k c; omega)
theorem Grows.ge {O O' : Nat → Prop} {w w' : World} {B : Nat} (h : Grows O O' w w') (hB : B ≤ w.heap.size) (hO : ∀ q, O q → B ≤ q) : ∀ q, O' q → B ≤ q := fun q hq => by
  rcases h.sub q hq with c | c
  · exact hO q c
  · omega
theorem Grows.of_below (O : Nat → Prop) {w w' : World} (h : Below w.heap.size w w') : Grows O O w w' := ⟨Only.of_below h, fun q hq => Or.inl hq⟩
/-- The work lies in memory; O: all blocks that are its own. -/
def PW (w : World) (O : Nat → Prop) (kb : Nat) (ws : List (Int × Int)) (room : Int) : Prop := ∃ v, w.heap[kb]? = some (.cells #[v, .int .i64 room] 53 (0, 0)) ∧ (O kb ∧ (∀ k, v.ownBlock = some k → O k) ∧ ∀ q, O q → q < w.heap.size) ∧ w.ownsRow 0 56 2 v ws.length (flatP ws)
variable {w w' w4 wA : World} {B kb n : Nat} {O : Nat → Prop} {ws : List (Int × Int)} {room x y : Int} {v v' : Value} {xs xs' : List Value}
theorem own_under {e : TypeId} {size : Nat} (h : w.ownsRow B e size v n xs) (k : Below w.heap.size w w') : w'.ownsRow B e size v n xs := by
  obtain ⟨h1, h2⟩ := h
  refine ⟨h1, h2.imp id ?_⟩
  rintro ⟨g, cap, cur, e1, e2, e3, e4⟩
  exact ⟨g, cap, cur, e1, e2, (k.block g (lt_of_some e3)).trans e3, e4⟩
theorem PW.under (h : PW w O kb ws room) (k : Below w.heap.size w w') : PW w' O kb ws room := by
  obtain ⟨v, h1, ⟨h2, h4, h5⟩, h3⟩ := h
  exact ⟨v, (k.block kb (lt_of_some h1)).trans h1, ⟨h2, h4, fun q hq => Nat.lt_of_lt_of_le (h5 q hq) k.size⟩, own_under h3 k⟩
theorem own_sl {e : TypeId} {size : Nat} (h : w.ownsRow B e size v n xs) : ∃ ao c, v = .slice ao n c ∧ n ≤ c ∧ c ≤ maxLen := by
  rcases h.2 with ⟨rfl, rfl⟩ | ⟨g, cap, cur, rfl, _, _, h4, h5, _⟩
  · exact ⟨none, 0, rfl, Nat.le_refl _, Nat.zero_le _⟩
  · exact ⟨_, cap, rfl, h4, h5⟩
theorem own_ne {e e2 : TypeId} {size : Nat} {cs : Array Value} (h : w.ownsRow B e size v n xs) (hk : w.heap[kb]? = some (.cells cs e2 (0, 0))) (hne : e2 ≠ e) : some kb ≠ v.ownBlock := by
  intro c
  rcases h.2 with ⟨rfl, _⟩ | ⟨g, cap, cur, rfl, _, hg, _⟩
  · cases c
  · have : kb = g := by simpa [Value.ownBlock] using c
    subst this
    rw [hk] at hg
    simp at hg
    exact hne hg.2
theorem below_of_grown {row : Option Nat} (g : wA.grownBy w4 row) (hB : B ≤ wA.heap.size) (hr : ∀ k, row = some k → B ≤ k) : Below B wA w4 :=
  ⟨g.os, g.tape, g.output, g.size, fun i hi => g.block i (by omega) (fun e => by have := hr i e.symm; omega)⟩
/-- The row has grown, and is the work's. -/
theorem work_end {gq cq : Nat} (hk : wA.heap[kb]? = some (.cells #[v, .int .i64 room] 53 (0, 0))) (ho : wA.ownsRow 0 56 2 v n xs) (gr : wA.grownBy w4 v.ownBlock) (hO : O kb ∧ (∀ k, v.ownBlock = some k → O k) ∧ ∀ q, O q → q < wA.heap.size) (hat : v.ownBlock = some gq ∨ gq = wA.heap.size) (hlt : gq < w4.heap.size)
    (ho4 : w4.ownsRow 0 56 2 (.slice (some ⟨gq, 0, none⟩) ws.length cq) ws.length (flatP ws)) :
    (w4.cell? ⟨kb, 0, none⟩ = some v ∧ ∀ o, w4.frozen? ⟨kb, o, none⟩ = false) ∧ ∃ O', PW (w4.setCell ⟨kb, 0, none⟩ (.slice (some ⟨gq, 0, none⟩) ws.length cq)) O' kb ws room ∧ Grows O O' wA (w4.setCell ⟨kb, 0, none⟩ (.slice (some ⟨gq, 0, none⟩) ws.length cq)) := by
  have hk4 : w4.heap[kb]? = some (.cells #[v, .int .i64 room] 53 (0, 0)) := (gr.block kb (lt_of_some hk) (own_ne ho hk (by decide))).trans hk
  have hb4 : Only O wA w4 := ⟨gr.os, gr.tape, gr.output, gr.size, fun i hi hs => gr.block i hi (fun e => hs (hO.2.1 i e.symm))⟩
  have hsz : (w4.setCell ⟨kb, 0, none⟩ (.slice (some ⟨gq, 0, none⟩) ws.length cq)).heap.size = w4.heap.size := nblk_setCell _ _ _
  refine ⟨⟨by simp [World.cell?, hk4], fun o => by simp [World.frozen?, hk4]⟩, fun q => O q ∨ q = gq, ⟨.slice (some ⟨gq, 0, none⟩) ws.length cq, ?_, ⟨Or.inl hO.1, fun k e => Or.inr (by simpa [Value.ownBlock] using e.symm), fun q hq => ?_⟩, ?_⟩, hb4.setCell (Or.inr hO.1) _, fun q hq => ?_⟩
  · simp [World.setCell, Array.getElem?_modify, hk4]
  · rw [hsz]
    rcases hq with c | rfl
    · exact Nat.lt_of_lt_of_le (hO.2.2 q c) gr.size
    · exact hlt
  · obtain ⟨h1, h2⟩ := ho4
    refine ⟨h1, h2.imp id ?_⟩
    rintro ⟨g, cap, cur, e1, e2, e3, e4⟩
    refine ⟨g, cap, cur, e1, e2, (blk_setCell_other _ _ _ _ ?_).trans e3, e4⟩
    show g ≠ kb
    rintro rfl
    rw [hk4] at e3
    simp at e3
  · rcases hq with c | rfl
    · exact Or.inl c
    · rcases hat with c | c
      · exact Or.inl (hO.2.1 _ c)
      · exact Or.inr (by omega)
theorem infoP : (Try.prog.info? 56).map (fun i => (i.zero, i.size, i.bytes)) = some (some (.agg #[.int .u64 0, .int .u64 0]), 2, 16) := by kernel_rfl
theorem step_append_pp {ops : Array Oper} {o : Oper} {a : Act} {w : World} {K : Act → World → Prop} {Q : Exit → Act → World → Prop} {E : Prop} (hg : o.guard = none) (s x : Operand)
    (hop : o.op = Op.call { callee := Callee.builtin Builtin.append, args := #[s, x], argTypes := #[51, 51] }) (B : Nat) (ao : Option Addr) (n cap : Nat) (xs : List Value) (hs : a.eval s = .slice ao n cap) (hown : w.ownsRow B 56 2 (.slice ao n cap) n xs)
    (ad : Addr) (c : Nat) (u0 u1 : Int) (hx : a.eval x = .slice (some ad) 1 c) (h0 : w.cell? (ad.add 0) = some (.int .u64 u0)) (h1 : w.cell? (ad.add 1) = some (.int .u64 u1)) (hn : n ≤ 400000000) (hB : B ≤ w.heap.size)
    (hK : ∀ g' cap' w', w'.ownsRow B 56 2 (.slice (some ⟨g', 0, none⟩) (n + 1) cap') (n + 1) (xs ++ [.int .u64 u0, .int .u64 u1]) → w.grownBy w' (Value.slice ao n cap).ownBlock → ((Value.slice ao n cap).ownBlock = some g' ∨ g' = w.heap.size) → g' < w'.heap.size → K (a.put o.dst (.slice (some ⟨g', 0, none⟩) (n + 1) cap')) w') :
    if Region.wanted o (yielded ops a.tmps) = true then Oper.wp Try.prog o a w K Q else E := by
  have hw : Region.wanted o (yielded ops a.tmps) = true := by simp [Region.wanted, hg]
  rw [if_pos hw]
  obtain ⟨i0, hi, hz0, hz1, hz2⟩ := info_parts infoP
  refine wp_append_lies w s x 51 hop B 56 i0 _ 2 16 Try.underlying51 hi hz0 hz1 hz2 rfl (by decide) _ n xs hs hown ad 1 c [.int .u64 u0, .int .u64 u1] hx rfl ?_ ?_ (by omega) (by unfold maxLen; omega) (by omega) hB _ rfl ?_
  · intro j y hy
    match j, hy with
    | 0, hy => simp at hy; subst hy; exact h0
    | 1, hy => simp at hy; subst hy; exact h1
  · intro y hy
    simp at hy
    rcases hy with rfl | rfl
    · rfl
    · rfl
  · intro g cap' w' q1 q2 hat hlt
    exact hK g cap' w' q1 q2 hat hlt
theorem put_end {x y : Int} {wB : World} {ao : Option Addr} {gq cq c : Nat} {o : Obj} (hk : wB.heap[kb]? = some (.cells #[.slice ao ws.length c, .int .i64 room] 53 (0, 0))) (ho : wB.ownsRow 0 56 2 (.slice ao ws.length c) ws.length (flatP ws)) (gr : (wB.alloc o).grownBy w4 (Value.slice ao ws.length c).ownBlock) (hO : O kb ∧ (∀ k, (Value.slice ao ws.length c).ownBlock = some k → O k) ∧ ∀ q, O q → q < wB.heap.size) (hat : (Value.slice ao ws.length c).ownBlock = some gq ∨ gq = wB.heap.size + 1) (hlt : gq < w4.heap.size)
    (ho4 : w4.ownsRow 0 56 2 (.slice (some ⟨gq, 0, none⟩) (ws.length + 1) cq) (ws.length + 1) (flatP ws ++ [.int .u64 x, .int .u64 y])) :
    (w4.cell? ⟨kb, 0, none⟩ = some (.slice ao ws.length c) ∧ ∀ o, w4.frozen? ⟨kb, o, none⟩ = false) ∧ ∃ O', PW (w4.setCell ⟨kb, 0, none⟩ (.slice (some ⟨gq, 0, none⟩) (ws.length + 1) cq)) O' kb ((x, y) :: ws) room ∧ Grows O O' wB (w4.setCell ⟨kb, 0, none⟩ (.slice (some ⟨gq, 0, none⟩) (ws.length + 1) cq)) := by
  obtain ⟨h1, O', h2, h3⟩ := work_end (O := O) (ws := (x, y) :: ws) ((blk_alloc_lt _ o _ (lt_of_some hk)).trans hk) (ho.alloc o) gr ⟨hO.1, hO.2.1, fun q hq => by rw [nblk_alloc]; have := hO.2.2 q hq; omega⟩ (by rw [nblk_alloc]; exact hat) hlt ho4
  exact ⟨h1, O', h2, (Grows.of_below O ((Below.refl _ _).alloc (Nat.le_refl _) o)).trans h3⟩
set_option maxRecDepth 20000 in
theorem put_no (x y : Int) (w : World) (h : PW w O kb ws room) (hl : ws.length ≤ 400000000) (hr : room < 2 * (ws.length + 1)) :
    Calls Try.prog 17 #[.pointer (some ⟨kb, 0, none⟩), .agg #[.int .u64 x, .int .u64 y]] w fun e w' => e = .returned (.int .i64 11) ∧ Below w.heap.size w w' := by
  have H0 := hidden h
  obtain ⟨v, hk, hO, ho⟩ := h
  obtain ⟨ao, c, rfl, hnc, hcm⟩ := own_sl ho
  have hkl := lt_of_some hk
  have c0 : w.cell? ⟨kb, 0, none⟩ = some (.slice ao ws.length c) := by simp [World.cell?, hk]
  have c1 : w.cell? ⟨kb, 1, none⟩ = some (.int .i64 room) := by simp [World.cell?, hk]
  have e1 := wrapId ((ws.length : Int) + 1) (by omega) (by omega)
  have e2 := wrapId (2 * ((ws.length : Int) + 1)) (by omega) (by omega)
  clear hk ho
  go_enter Try.func17, Try.ntmps17
  go_wp2_with fail
  go_quiet (fail)
  go_wp2_with fail
  all_goals go_ret
  all_goals exact ⟨rfl, ((Below.refl _ _).alloc (Nat.le_refl _) _).trans (below_drews (w.alloc _) nq |>.mono (by rw [nblk_alloc]; omega))⟩
set_option maxRecDepth 20000 in
theorem put_yes (x y : Int) (w : World) (h : PW w O kb ws room) (hl : ws.length ≤ 400000000) (hr : 2 * ((ws.length : Int) + 1) ≤ room) :
    Calls Try.prog 17 #[.pointer (some ⟨kb, 0, none⟩), .agg #[.int .u64 x, .int .u64 y]] w fun e w' => e = .returned (.int .i64 0) ∧ ∃ O', PW w' O' kb ((x, y) :: ws) room ∧ Grows O O' w w' := by
  have H0 := hidden h
  obtain ⟨v, hk, hO, ho⟩ := h
  obtain ⟨ao, c, rfl, hnc, hcm⟩ := own_sl ho
  have hkl := lt_of_some hk
  have c0 : w.cell? ⟨kb, 0, none⟩ = some (.slice ao ws.length c) := by simp [World.cell?, hk]
  have c1 : w.cell? ⟨kb, 1, none⟩ = some (.int .i64 room) := by simp [World.cell?, hk]
  have e1 := wrapId ((ws.length : Int) + 1) (by omega) (by omega)
  have e2 := wrapId (2 * ((ws.length : Int) + 1)) (by omega) (by omega)
  have HK := hidden hk
  have HO := hidden ho
  have OK := hidden hO
  clear hk ho hO
  go_enter Try.func17, Try.ntmps17
  go_wp2_with fail
  go_quiet (fail)
  go_wp2_with fail
  have KB : Hid (((w.alloc (.cells #[.int .u64 x, .int .u64 y] 56)).drewN nq).heap[kb]? = some (.cells #[.slice ao ws.length c, .int .i64 room] 53 (0, 0))) := (blk_alloc_lt _ _ _ hkl).trans HK.out
  have BX : Hid (((w.alloc (.cells #[.int .u64 x, .int .u64 y] 56)).drewN nq).heap[w.heap.size]? = some (.cells #[.int .u64 x, .int .u64 y] 56 (0, 0))) := blk_alloc_new _ _
  have OB : Hid (((w.alloc (.cells #[.int .u64 x, .int .u64 y] 56)).drewN nq).ownsRow 0 56 2 (.slice ao ws.length c) ws.length (flatP ws)) := HO.out.alloc _
  have BB : Hid (Below w.heap.size w ((w.alloc (.cells #[.int .u64 x, .int .u64 y] 56)).drewN nq)) := ((Below.refl _ _).alloc (Nat.le_refl _) _).trans (below_drews (w.alloc _) nq |>.mono (by rw [nblk_alloc]; omega))
  clear HK HO c0 c1 H0
  generalize (w.alloc (.cells #[.int .u64 x, .int .u64 y] 56)).drewN nq = wB at *
  have q0 := BB.out.size
  have q1 := lt_of_some BX.out
  have c0 : wB.cell? ⟨kb, 0, none⟩ = some (.slice ao ws.length c) := by simp [World.cell?, KB.out]
  have b0 : wB.cell? ⟨w.heap.size, 0, none⟩ = some (.int .u64 x) := by simp [World.cell?, BX.out]
  have b1 : wB.cell? ⟨w.heap.size, 1, none⟩ = some (.int .u64 y) := by simp [World.cell?, BX.out]
  have q2 := lt_of_some KB.out
  have c0a : ∀ o, (wB.alloc o).cell? ⟨kb, 0, none⟩ = some (.slice ao ws.length c) := fun o => (World.cell?_of_block (w := wB) (blk_alloc_lt _ _ _ q2)).trans c0
  go_region_law (refine step_append_pp rfl (.tmp 21) (.tmp 23) rfl 0 ao ws.length c (flatP ws) (by simp [Act.eval]) (by exact OB.out.alloc _) ⟨wB.heap.size, 0, none⟩ 1 x y (by simp [Act.eval]) (by simp [Addr.add]) (by simp [Addr.add]) hl (Nat.zero_le _) ?_; intro g' cap' w4 ho4 gr4 hat hlt; obtain ⟨⟨m1, m2⟩, m3⟩ := put_end (x := x) (y := y) KB.out OB.out (grown_of_drew gr4) ⟨OK.out.1, OK.out.2.1, fun q hq => Nat.lt_of_lt_of_le (OK.out.2.2 q hq) q0⟩ (by simpa [nblk_alloc] using hat) hlt ho4; have M3 := hidden m3; clear gr4 ho4 m3 hat hlt)
  all_goals
    go_wp2_with fail
    go_ret
    exact ⟨rfl, M3.out.imp (fun O' h => ⟨h.1, (Grows.of_below O BB.out).trans h.2⟩)⟩
end Go.Proofs.Ytcbgjkedmboifab
