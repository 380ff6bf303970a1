/-
  Several texts in one; each tells at its head what it proves, and on what condition. The last one: whatever is handed to MemMore, it returns true. No condition.
-/
import Derived.Test.YtjnlfnecmiklhaaL4Mach
import Derived.Test.YtjnlfnecmiklhaaL4ModelDoes
import Derived.Test.YtjnlfnecmiklhaaPlainIso
import Derived.Test.YtjnlfnecmiklhaaL3Lay
import Derived.Test.YtjnlfnecmiklhaaRefOwn
import Derived.Test.YtjnlfnecmiklhaaR3Any
import Derived.Deep.AppendLies
import Derived.Deep.RegionHeld3
import Derived.Deep.CutRange
import Derived.BigQuiet
import Derived.Test.YtjnlfnecmiklhaaP4Real
import Derived.Test.YtjnlfnecmiklhaaP4Awake
import Derived.Test.YtjnlfnecmiklhaaL4Play
import Derived.Deep.Slices
import Derived.OpenShut
import Derived.Test.YtjnlfnecmiklhaaRows
import Derived.WalkKit
import Derived.ProofKit
import Derived.ShutString
import Derived.ChangeOld
import Derived.Below

/-
  Layer 4's statements: a copy of steps, in a row of its own. No condition but that they lie in memory.
-/
namespace Go.Proofs.Ytjnlfnecmiklhaa
open Go.ChangeShapes Go.WideShapes Go.ChangeAt Go.RowKit Go.Deep
set_option linter.unusedVariables false
set_option maxHeartbeats 1000000

/-- Block g begins with the m steps T. -/
def OwnS (w : World) (g m : Nat) (T : Nat → St4) : Prop := ∃ cur : Array Value, w.heap[g]? = some (.cells cur 62 (0, 0)) ∧ ∀ i, i < m → cur[i * 4]? = some (.int .i64 (T i).k) ∧ cur[i * 4 + 1]? = some (.int .i64 (T i).a) ∧ cur[i * 4 + 2]? = some (.int .i64 (T i).b) ∧ cur[i * 4 + 3]? = some (.int .i64 (T i).c)
section
variable {w w' : World} {g m : Nat} {T : Nat → St4}
theorem OwnS.lt (h : OwnS w g m T) : g < w.heap.size := by obtain ⟨cur, hc, _⟩ := h; exact lt_of_some hc
theorem OwnS.of_block (h : OwnS w g m T) (e : w'.heap[g]? = w.heap[g]?) : OwnS w' g m T := by obtain ⟨cur, hc, hn⟩ := h; exact ⟨cur, e.trans hc, hn⟩
theorem OwnS.frame {S : Nat → Prop} (h : OwnS w g m T) (k : Only S w w') (hs : ¬ S g) : OwnS w' g m T := h.of_block (k.block _ h.lt hs)
theorem OwnS.cells (h : OwnS w g m T) {i : Nat} (hi : i < m) : w.cell? ⟨g, i * 4, none⟩ = some (.int .i64 (T i).k) ∧ w.cell? ⟨g, i * 4 + 1, none⟩ = some (.int .i64 (T i).a) ∧ w.cell? ⟨g, i * 4 + 2, none⟩ = some (.int .i64 (T i).b) ∧ w.cell? ⟨g, i * 4 + 3, none⟩ = some (.int .i64 (T i).c) ∧ ∀ o, w.frozen? ⟨g, o, none⟩ = false := by
  obtain ⟨cur, hc, hn⟩ := h
  obtain ⟨h1, h2, h3, h4⟩ := hn i hi
  simp [World.cell?, World.frozen?, hc, h1, h2, h3, h4]
def setA (T : Nat → St4) (j : Nat) (v : Int) (i : Nat) : St4 := if i = j then ⟨(T i).k, v, (T i).b, (T i).c⟩ else T i
theorem OwnS.set (h : OwnS w g m T) (j : Nat) (v : Int) : OwnS (w.setCell ⟨g, j * 4 + 1, none⟩ (.int .i64 v)) g m (setA T j v) := by
  obtain ⟨cur, hc, hn⟩ := h
  refine ⟨cur.setIfInBounds (j * 4 + 1) (.int .i64 v), by simp [World.setCell, Array.getElem?_modify, hc], fun i hi => ?_⟩
  obtain ⟨h1, h2, h3, h4⟩ := hn i hi
  unfold setA
  by_cases e : i = j
  · subst e
    rw [if_pos rfl]
    refine ⟨?_, ?_, ?_, ?_⟩
    · rw [Array.getElem?_setIfInBounds_ne (by omega)]; exact h1
    · have hl : i * 4 + 1 < cur.size := by
        rcases Nat.lt_or_ge (i * 4 + 1) cur.size with hh | hh
        · exact hh
        · rw [Array.getElem?_eq_none hh] at h2; cases h2
      rw [Array.getElem?_setIfInBounds_self_of_lt hl]
    · rw [Array.getElem?_setIfInBounds_ne (by omega)]; exact h3
    · rw [Array.getElem?_setIfInBounds_ne (by omega)]; exact h4
  · rw [if_neg e]
    refine ⟨?_, ?_, ?_, ?_⟩ <;> rw [Array.getElem?_setIfInBounds_ne (by omega)] <;> assumption
theorem OwnS.ss (h : OwnS w g m T) (c : Nat) (hr : ∀ i, i < m → RI (T i).k ∧ RI (T i).a ∧ RI (T i).b ∧ RI (T i).c) : SS4 w (some ⟨g, 0, none⟩) m c T := by
  refine ⟨(fun e => by cases e), fun i hi => ⟨_, rfl, ?_⟩, hr⟩
  obtain ⟨h1, h2, h3, h4, _⟩ := h.cells hi
  have e : (Addr.mk g 0 none).add (i * 4) = ⟨g, i * 4, none⟩ := by
    unfold Addr.add
    split
    · rename_i h; rw [h]
    · simp
  rw [e]
  exact ⟨h1, h2, h3, h4⟩
end
/-- The cells of m steps. -/
def flat4 (T : Nat → St4) : Nat → List Value
  | 0 => []
  | m + 1 => flat4 T m ++ [.int .i64 (T m).k, .int .i64 (T m).a, .int .i64 (T m).b, .int .i64 (T m).c]
theorem flat4_len (T : Nat → St4) : ∀ m, (flat4 T m).length = m * 4
  | 0 => rfl
  | m + 1 => by rw [flat4, List.length_append, flat4_len T m]; simp; omega
theorem flat4_at (T : Nat → St4) : ∀ m i, i < m → (flat4 T m)[i * 4]? = some (.int .i64 (T i).k) ∧ (flat4 T m)[i * 4 + 1]? = some (.int .i64 (T i).a) ∧ (flat4 T m)[i * 4 + 2]? = some (.int .i64 (T i).b) ∧ (flat4 T m)[i * 4 + 3]? = some (.int .i64 (T i).c)
  | 0, i, h => absurd h (Nat.not_lt_zero _)
  | m + 1, i, h => by
    rw [flat4]
    have hl := flat4_len T m
    by_cases e : i < m
    · obtain ⟨h1, h2, h3, h4⟩ := flat4_at T m i e
      rw [List.getElem?_append_left (by omega), List.getElem?_append_left (by omega), List.getElem?_append_left (by omega), List.getElem?_append_left (by omega)]
      exact ⟨h1, h2, h3, h4⟩
    · have : i = m := by omega
      subst this
      rw [List.getElem?_append_right (by omega), List.getElem?_append_right (by omega), List.getElem?_append_right (by omega), List.getElem?_append_right (by omega), hl]
      refine ⟨?_, ?_, ?_, ?_⟩
      · rw [Nat.sub_self]; rfl
      · rw [show i * 4 + 1 - i * 4 = 1 from by omega]; rfl
      · rw [show i * 4 + 2 - i * 4 = 2 from by omega]; rfl
      · rw [show i * 4 + 3 - i * 4 = 3 from by omega]; rfl
theorem flat4_one (T : Nat → St4) : ∀ m v, v ∈ flat4 T m → ∃ x, v = .int .i64 x
  | 0, v, h => by simp [flat4] at h
  | m + 1, v, h => by
    rw [flat4, List.mem_append] at h
    rcases h with h | h
    · exact flat4_one T m v h
    · simp at h
      rcases h with rfl | rfl | rfl | rfl <;> exact ⟨_, rfl⟩
theorem add_off (y : Addr) (i j : Nat) (h : 0 < j) : (⟨(y.add i).block, (y.add i).off + j, none⟩ : Addr) = y.add (i + j) := by
  unfold Addr.add
  rw [if_neg (show ¬ (i + j = 0) by omega)]
  split
  · rename_i e; subst e; simp
  · simp; omega
theorem infoS4 : (Try.prog.info? 62).map (fun i => (i.zero, i.size, i.bytes)) = some (some (.agg #[.int .i64 0, .int .i64 0, .int .i64 0, .int .i64 0]), 4, 32) := by kernel_rfl
theorem ss4_cells {w : World} {al : Option Addr} {m c : Nat} {T : Nat → St4} {ad : Addr} (h : SS4 w al m c T) (e : al = some ad) {N : Nat} (hN : N ≤ m) : ∀ j u, (flat4 T N)[j]? = some u → w.cell? (ad.add j) = some u := by
  intro j u hu
  have hj : j < N * 4 := by rw [← flat4_len T N]; exact (List.getElem?_eq_some_iff.1 hu).1
  have hi : j / 4 < N := by omega
  obtain ⟨x, e2, c1, c2, c3, c4⟩ := h.cell (j / 4) (by omega)
  rw [e] at e2
  cases e2
  obtain ⟨f1, f2, f3, f4⟩ := flat4_at T N (j / 4) hi
  rw [add_off _ _ 1 (by omega)] at c2
  rw [add_off _ _ 2 (by omega)] at c3
  rw [add_off _ _ 3 (by omega)] at c4
  rcases (show j = j / 4 * 4 ∨ j = j / 4 * 4 + 1 ∨ j = j / 4 * 4 + 2 ∨ j = j / 4 * 4 + 3 by omega) with e | e | e | e
  · rw [e] at hu ⊢; rw [f1] at hu; rw [c1]; exact hu
  · rw [e] at hu ⊢; rw [f2] at hu; rw [c2]; exact hu
  · rw [e] at hu ⊢; rw [f3] at hu; rw [c3]; exact hu
  · rw [e] at hu ⊢; rw [f4] at hu; rw [c4]; exact hu
theorem append_steps {w : World} {ops : Array Oper} {rest : List Oper} {o : Oper} {a : Act} {Q : Exit → Act → World → Prop} (hgd : o.guard = none) (s x : Operand)
    (ho : o.op = .call { callee := .builtin .append, args := #[s, x], argTypes := #[22, 22] }) (g0 : Nat) (hs : a.eval s = .slice (some ⟨g0, 0, none⟩) 0 0) (hg0 : w.heap[g0]? = some (.cells #[] 62 (0, 0)))
    (ao : Option Addr) (m c : Nat) (T : Nat → St4) (hx : a.eval x = .slice ao m c) (hn : ao = none → m = 0 ∧ c = 0) (hcell : ∀ ad, ao = some ad → ∀ j u, (flat4 T m)[j]? = some u → w.cell? (ad.add j) = some u) (hm : m ≤ 1000000)
    (h : ∀ g cap w', OwnS w' g m T → w.grownBy w' (some g0) → g0 ≤ g → wpList Try.prog ops Q rest (a.put o.dst (.slice (some ⟨g, 0, none⟩) m cap)) w') : wpList Try.prog ops Q (o :: rest) a w := by
  obtain ⟨i0, hi, hz0, hz1, hz2⟩ := info_parts infoS4
  have hg : g0 < w.heap.size := lt_of_some hg0
  have hown : w.ownsRow g0 62 4 (.slice (some ⟨g0, 0, none⟩) 0 0) 0 [] := ⟨rfl, .inr ⟨g0, 0, #[], rfl, Nat.le_refl _, hg0, Nat.le_refl _, Nat.zero_le _, rfl, rfl⟩⟩
  cases ao with
  | none =>
    obtain ⟨rfl, rfl⟩ := hn rfl
    refine wpList_append_own_none hgd s x 22 ho g0 62 i0 4 Try.underlying22 hi _ 0 [] hs hown hx ?_
    exact h g0 0 w ⟨#[], hg0, fun i hi => by omega⟩ ⟨rfl, rfl, rfl, Nat.le_refl _, fun _ _ _ => rfl⟩ (Nat.le_refl _)
  | some ad =>
    refine wpList_append_own w hgd s x 22 ho g0 62 i0 _ 4 32 Try.underlying22 hi hz0 hz1 hz2 rfl (by decide) _ 0 [] hs hown ad m c (flat4 T m) hx (by rw [flat4_len]) (hcell ad rfl) ?_ (by unfold maxLen; omega) (by omega) (by omega) ?_
    · intro u hu
      obtain ⟨x, rfl⟩ := flat4_one T m u hu
      rfl
    · intro v' w' h1 h2 h3
      rw [Nat.zero_add, List.nil_append] at h1
      rcases h1.2 with ⟨e, e0⟩ | ⟨g, cap, cur, hv, hb, hg, hnc, _, hcs, htake⟩
      · have := (h3.1 e).1
        simp at this
      · subst hv
        refine h g cap w' ⟨cur, hg, fun i hi => ?_⟩ h2 hb
        obtain ⟨f1, f2, f3, f4⟩ := flat4_at T m i hi
        rw [← htake] at f1 f2 f3 f4
        rw [List.getElem?_take, if_pos (by omega)] at f1 f2 f3 f4
        exact ⟨by simpa using f1, by simpa using f2, by simpa using f3, by simpa using f4⟩
end Go.Proofs.Ytjnlfnecmiklhaa

/-
  Layer 4: plays of the same steps with other numbers of cells, and with collections forced or not: what is held tells the same. Plain; no program.
-/
namespace Go.Proofs.Ytjnlfnecmiklhaa
open Go.RowKit Go.Deep
set_option linter.unusedVariables false
set_option maxHeartbeats 1000000

/-- What is held tells the same. -/
def Sim (r r' : RS) (X X' : Nat → Int) : Prop := ∃ R, Iso r r' R ∧ ∀ i, i < 8 → WR r r' R (X i) (X' i)
section
variable {s s' : St} {r r' : RS} {X X' : Nat → Int} {R : Nat → Nat → Prop}
theorem Good.top_le (h : Good s r) : s.top ≤ 100000 := by
  have h1 := h.t2
  have h2 := h.n2
  have h3 := h.rep.base
  have h4 := h.rep.wh
  have h5 := h.rep.n
  have h6 : s.base ≤ s.n := by
    rcases Nat.le_one_iff_eq_zero_or_eq_one.1 h4 with e | e
    · rw [h3, e]; simp
    · rw [h3, e, h5]; simp
  omega
theorem Sim.symm (h : Sim r r' X X') : Sim r' r X' X := by
  obtain ⟨R, hI, hw⟩ := h
  exact ⟨_, hI.symm, fun i hi => (hw i hi).symm⟩
theorem sim_new (n n' : Nat) : Sim ⟨n, 0, []⟩ ⟨n', 0, []⟩ (fun _ => 1) (fun _ => 1) := ⟨_, iso_nil _ _, fun i _ => Or.inl ⟨rfl, (by decide : addrW 1 = 0)⟩⟩
theorem listX_at (X : Nat → Int) {m k : Nat} (hk : k < m) : (listX X m)[k]? = some (X k) := by unfold listX; simp [hk]
theorem sim_wrs (hw : ∀ i, i < 8 → WR r r' R (X i) (X' i)) : WRs r r' R (listX X 8) (listX X' 8) := by
  refine ⟨by unfold listX; simp, fun k x x' hx hx' => ?_⟩
  have hk : k < 8 := by have := (List.getElem?_eq_some_iff.1 hx).1; simpa [listX] using this
  rw [listX_at X hk] at hx
  rw [listX_at X' hk] at hx'
  cases hx; cases hx'
  exact hw k hk
/-- What is in reach takes as many cells. -/
theorem sim_len (hs : Good s r) (hs' : Good s' r') (h : Sim r r' X X') : lenG r (reachG s r (listX X 8)) = lenG r' (reachG s' r' (listX X' 8)) := by
  obtain ⟨R, hI, hw⟩ := h
  exact par_len hI (par_reach hI hs.rep hs.top_le hs'.rep hs'.top_le (sim_wrs hw))
theorem sim_coll (hs : Good s r) (h : Sim r r' X X') : Sim (collR s r (listX X 8)) r' (fun i => collW s r (listX X 8) (X i)) X' := by
  obtain ⟨R, hI, hw⟩ := h
  refine ⟨_, iso_coll hI hs.rep hs.top_le (listX X 8), fun i hi => coll_wr hI hs.rep hs.top_le (hw i hi) (fun j hj => ?_)⟩
  exact reach_root hs.rep (xs := listX X 8) (by unfold listX; exact List.mem_map.2 ⟨i, List.mem_range.2 hi, rfl⟩) hj
theorem putX_wr {x x' : Int} {p : Nat} (hw : ∀ i, i < 8 → WR r r' R (X i) (X' i)) (hx : WR r r' R x x') : ∀ i, i < 8 → WR r r' R (putX X p x i) (putX X' p x' i) := fun i hi => by
  unfold putX
  split
  · exact hx
  · exact hw i hi
theorem sim_put {x x' : Int} {p : Nat} (hI : Iso r r' R) (hw : ∀ i, i < 8 → WR r r' R (X i) (X' i)) (hx : WR r r' R x x') : Sim r r' (putX X p x) (putX X' p x') := ⟨R, hI, putX_wr hw hx⟩
theorem sim_alloc {t z : Int} {p : Nat} (h : Sim r r' X X') (ht : t ≠ 202) : Sim (r.alloc s t z) (r'.alloc s' t z) (putX X p (2 * ((s.top : Int) + 1))) (putX X' p (2 * ((s'.top : Int) + 1))) := by
  obtain ⟨R, hI, hw⟩ := h
  exact sim_put (iso_alloc hI ht) (fun i hi => alloc_wr hI (hw i hi)) alloc_word
end
/-- What is wrong with a tag or a size. -/
def argE (t z : Int) : Int := if St.mayLie t = false then 1 else if z < 0 ∨ 4096 < z then 2 else 0
theorem allocE_arg (s : St) (t z : Int) : s.allocE t z = if argE t z = 0 then (if (s.base : Int) + s.n < s.top + z + 1 then 10 else 0) else argE t z := by
  unfold St.allocE argE
  split
  · simp
  · split
    · simp
    · simp
theorem argE_ne (t z : Int) : argE t z ≠ 10 := by unfold argE; split; decide; split <;> decide
/-- What may come of a request. -/
theorem al_cases {s : St} {r : RS} {k t z E W : Int} {X Y : Nat → Int} {b : RS × Int} (hs : Good s r) (hx : RX X) (h : MM.al (r, k) t z X E W Y b) :
    (argE t z ≠ 0 ∧ E = argE t z ∧ b.1 = r) ∨
    (argE t z = 0 ∧ (r.n : Int) < (lenG r (reachG s r (listX X 8)) : Nat) + z + 1 ∧ E = 10 ∧ b.1 = r) ∨
    (argE t z = 0 ∧ ¬ (r.n : Int) < (lenG r (reachG s r (listX X 8)) : Nat) + z + 1 ∧ E = 0 ∧ RX Y ∧ ∃ r1 s1, Good s1 r1 ∧ r1.n = r.n ∧ s1.allocE t z = 0 ∧ b.1 = r1.alloc s1 t z ∧ W = 2 * ((s1.top : Int) + 1) ∧ ∀ (r' : RS) (X' : Nat → Int), Sim r r' X X' → Sim r1 r' Y X') := by
  have hp := pick_good hs
  have hg := (goodG_len (reach_good hs.rep (listX X 8))).1
  have e1 := hs.rep.top
  have e2 := hs.rep.n
  obtain ⟨w0, _, _⟩ : ∃ w : World, True ∧ True := ⟨default, trivial, trivial⟩
  unfold MM at h; dsimp only at h
  rw [← agree_allocE hs hp, ← agree_reach hs hp] at h
  have hE := allocE_arg s t z
  by_cases ha : argE t z = 0
  · rw [if_pos ha] at hE
    split at h
    · rename_i g
      split at h
      · rename_i g2
        exact Or.inr (Or.inl ⟨ha, g2, h.1, by rw [h.2]⟩)
      · rename_i g2
        obtain ⟨h1, h2, h3, h4⟩ := h
        obtain ⟨s1, hs1⟩ := good_coll hp w0 (xs := listX X 8)
        have hq := pick_good hs1
        rw [← agree_collR hs hp] at h2 h4 hq hs1
        have hr0 := (MM_al_room (k := k) hs g g2 hq).1
        refine Or.inr (Or.inr ⟨ha, g2, h1, ?_, collR s r (listX X 8), pick (collR s r (listX X 8)), hq, rfl, hr0, ?_, ?_, fun r' X' hS => ?_⟩)
        · rw [h3]
          obtain ⟨wa, haa⟩ := good_ar hp w0
          exact fun i hi => newW_rng haa hp.rep (reach_good hp.rep (listX X 8)) (X i) (hx i hi).1 (hx i hi).2
        · rw [h4]; show RS.after _ _ _ _ = _; unfold RS.after; rw [if_pos hr0]
        · rw [h2]; unfold St.allocW; rw [if_pos hr0]
        · have h5 := sim_coll hs hS
          have h6 : Y = fun i => collW s r (listX X 8) (X i) := by rw [h3]; exact funext (fun i => (agree_collW hs hp _ _).symm)
          rw [h6]; exact h5
    · rename_i g
      obtain ⟨h1, h2, h3⟩ := h
      have g0 : s.allocE t z = 0 := by
        rw [hE]
        split
        · rename_i g2
          rw [hE, if_pos g2] at g
          exact absurd rfl g
        · rfl
      have hE0 : E = 0 := h1.trans g0
      obtain ⟨h4, h5⟩ := h2 hE0
      refine Or.inr (Or.inr ⟨ha, ?_, hE0, by rw [h5]; exact hx, r, s, hs, rfl, g0, ?_, ?_, fun r' X' hS => by rw [h5]; exact hS⟩)
      · rw [g0] at hE
        split at hE
        · omega
        · omega
      · rw [h3]; show RS.after _ _ _ _ = _; rw [← agree_after hs hp]; unfold RS.after; rw [if_pos g0]
      · rw [h4, ← agree_allocW hs hp]; unfold St.allocW; rw [if_pos g0]
  · rw [if_neg ha] at hE
    have g : s.allocE t z ≠ 10 := by rw [hE]; exact argE_ne t z
    rw [if_neg g] at h
    refine Or.inl ⟨ha, h.1.trans hE, ?_⟩
    rw [h.2.2]; show RS.after _ _ _ _ = _; rw [← agree_after hs hp]; unfold RS.after; rw [if_neg (by rw [hE]; exact ha)]
section
variable {s s' : St} {r r' : RS} {X X' : Nat → Int} {R : Nat → Nat → Prop}
theorem wr_size (hs : Good s r) (hs' : Good s' r') (hI : Iso r r' R) {x x' : Int} (hw : WR r r' R x x') : s.size x = s'.size x' := by
  rcases WR.lead hI hs.rep hs.top_le hs'.rep hs'.top_le hw with ⟨e, e', _⟩ | ⟨i, j, hR, e, e', _⟩
  · have f : (s.find x).1 = 0 := by
      rcases lead_cases hs.rep x with ⟨h, _⟩ | ⟨i, b, _, _, h⟩
      · exact h
      · rw [e] at h; cases h
    have f' : (s'.find x').1 = 0 := by
      rcases lead_cases hs'.rep x' with ⟨h, _⟩ | ⟨i, b, _, _, h⟩
      · exact h
      · rw [e'] at h; cases h
    unfold St.size; rw [if_pos f, if_pos f']
  · rcases hw with ⟨ex, h0⟩ | ⟨i2, j2, hR2, e1, e2⟩
    · rw [num_lead hs.rep h0] at e; cases e
    · rw [e1, e2, (hs.rep.word (blkAt_some (hI.lt hR2).1) hs.top_le).2, (hs'.rep.word (blkAt_some (hI.lt hR2).2) hs'.top_le).2, hI.len hR2]
/-- Where a word's size is at least 1 it is a block's word. -/
theorem wr_block (hs : Good s r) {x x' : Int} (hw : WR r r' R x x') (h : ¬ s.size x ≤ 0) : ∃ i j, R i j ∧ x = 2 * ((blkAt r i).ad : Int) ∧ x' = 2 * ((blkAt r' j).ad : Int) := by
  rcases hw with ⟨_, h0⟩ | h1
  · exfalso
    apply h
    unfold St.size
    rw [if_pos (by rw [hs.rep.find0 h0])]
    decide
  · exact h1
theorem fld_at (hs : Good s r) {i : Nat} (hi : i < r.L.length) {k : Int} (h0 : 0 ≤ k) (h1 : k < s.size (2 * ((blkAt r i).ad : Int))) : s.fieldE (2 * ((blkAt r i).ad : Int)) k = 0 ∧ s.get (2 * ((blkAt r i).ad : Int)) k = (blkAt r i).F.getD k.toNat 0 ∧ k.toNat < (blkAt r i).F.length := by
  have hb := blkAt_some hi
  rw [(hs.rep.word hb hs.top_le).2] at h1
  have hk : k.toNat < (blkAt r i).F.length := by omega
  have h2 := hs.rep.fieldOf hb hs.top_le hk
  have e : ((k.toNat : Nat) : Int) = k := by omega
  rw [e] at h2
  exact ⟨h2.2, h2.1, hk⟩
theorem setR_at (hs : Good s r) {i : Nat} (hi : i < r.L.length) {k v : Int} (h0 : 0 ≤ k) (h1 : k < s.size (2 * ((blkAt r i).ad : Int))) : r.setR (2 * ((blkAt r i).ad : Int)) k v = r.put i (blkAt r i) k.toNat v := by
  have hp := pick_good hs
  unfold RS.setR
  rw [← agree_fieldE hs hp, if_pos (fld_at hs hi h0 h1).1, (word_lead hp.rep hp.top_le hi).1]
end
theorem intW_num (a : Int) : addrW (intW a) = 0 := by
  unfold addrW intW
  split
  · rfl
  · omega
/-- A state that may be, with what is held. -/
structure OkS (n : Nat) (r : RS) (X : Nat → Int) : Prop where
  good : ∃ s, Good s r
  rx : RX X
  n : r.n = n
theorem putX_rx {X : Nat → Int} {p : Nat} {v : Int} (h : RX X) (hv : R64 v) : RX (putX X p v) := fun i hi => by
  unfold putX; split
  · exact hv
  · exact h i hi
theorem coll_ok {n : Nat} {s : St} {r : RS} {X : Nat → Int} (h : OkS n r X) (hs : Good s r) : OkS n (collR s r (listX X 8)) (fun i => collW s r (listX X 8) (X i)) := by
  obtain ⟨wa, haa⟩ := good_ar hs default
  exact ⟨good_coll hs default, fun i hi => newW_rng haa hs.rep (reach_good hs.rep (listX X 8)) (X i) (h.rx i hi).1 (h.rx i hi).2, h.n⟩
theorem setR_n (r : RS) (x k v : Int) : (r.setR x k v).n = r.n := by
  unfold RS.setR
  split <;> first | rfl | (split <;> rfl)
theorem step_ok {n : Nat} {st : St4} {a b : RS × Int} {X Y : Nat → Int} {E : Int} (h : OkS n a.1 X) (hst : stepR MM st a X E b Y) : OkS n b.1 Y := by
  obtain ⟨s, hs⟩ := h.good
  have hp := pick_good hs
  unfold stepR at hst
  split at hst
  · obtain ⟨W, Z, h1, rfl⟩ := hst
    rcases al_cases hs h.rx h1 with ⟨e1, e2, e3⟩ | ⟨e1, _, e2, e3⟩ | ⟨e1, _, e2, hY, r1, s1, g1, n1, a1, e3, e4, _⟩
    · rw [if_neg (by rw [e2]; exact e1), e3]; exact h
    · rw [if_neg (by rw [e2]; decide), e3]; exact h
    · rw [if_pos e2, e3, e4]
      have hga := good_alloc g1 st.a st.b
      have e5 : r1.after s1 st.a st.b = r1.alloc s1 st.a st.b := by unfold RS.after; rw [if_pos a1]
      have hw := allocW_r64 g1 st.a st.b
      unfold St.allocW at hw
      rw [if_pos a1] at hw
      rw [e5] at hga
      exact ⟨⟨_, hga⟩, putX_rx hY hw, n1.trans h.n⟩
  · split at hst
    · split at hst
      · obtain ⟨_, rfl, rfl⟩ := hst; exact h
      · split at hst
        · obtain ⟨_, rfl, rfl⟩ := hst
          exact ⟨h.good, putX_rx h.rx (good_get hp _ _), h.n⟩
        · obtain ⟨⟨_, rfl⟩, rfl⟩ := hst
          refine ⟨⟨_, good_put hs _ _ _ ?_⟩, h.rx, (setR_n _ _ _ _).trans h.n⟩
          split
          · exact h.rx _ (placeN_lt _)
          · exact ⟨intW_lo _, intW_hi _⟩
    · split at hst
      · obtain ⟨⟨rfl, rfl⟩, _⟩ := hst
        exact coll_ok h hp
      · split at hst
        · obtain ⟨_, rfl, rfl⟩ := hst
          exact ⟨h.good, putX_rx h.rx ⟨by decide, by decide⟩, h.n⟩
        · obtain ⟨_, rfl, rfl⟩ := hst; exact h
/-- One step more: the same goes wrong, and what is held tells the same. -/
theorem step_sim {n n' : Nat} {st : St4} {a b a' b' : RS × Int} {X Y X' Y' : Nat → Int} {E E' : Int} (h : OkS n a.1 X) (h' : OkS n' a'.1 X') (hn : n ≤ n') (hS : Sim a.1 a'.1 X X') (ht : st.k = 0 → st.a ≠ 202) (hst : stepR MM st a X E b Y) (hst' : stepR MM st a' X' E' b' Y') (hE : E ≠ 10 ∨ n = n') : E = E' ∧ Sim b.1 b'.1 Y Y' := by
  obtain ⟨s, hs⟩ := h.good
  obtain ⟨s', hs'⟩ := h'.good
  have hp := pick_good hs
  have hp' := pick_good hs'
  obtain ⟨R, hI, hw⟩ := hS
  have hS : Sim a.1 a'.1 X X' := ⟨R, hI, hw⟩
  have hn1 := h.n
  have hn2 := h'.n
  have hxb := hw _ (placeN_lt st.b)
  have hsz := wr_size hp hp' hI hxb
  unfold stepR at hst hst'
  by_cases c0 : st.k = 0
  · rw [if_pos c0] at hst hst'
    obtain ⟨W, Z, h1, rfl⟩ := hst
    obtain ⟨W', Z', h1', rfl⟩ := hst'
    have hl := sim_len hs hs' hS
    rcases al_cases hs h.rx h1 with ⟨e1, e2, e3⟩ | ⟨e1, q1, e2, e3⟩ | ⟨e1, q1, e2, hY, r1, s1, g1, n1, a1, e3, e4, m1⟩
    · rcases al_cases hs' h'.rx h1' with ⟨f1, f2, f3⟩ | ⟨f1, _⟩ | ⟨f1, _⟩
      · rw [if_neg (by rw [e2]; exact e1), if_neg (by rw [f2]; exact e1), e3, f3]
        exact ⟨e2.trans f2.symm, hS⟩
      · exact absurd f1 e1
      · exact absurd f1 e1
    · have hnn : n = n' := by rcases hE with e | e; exact absurd e2 e; exact e
      rcases al_cases hs' h'.rx h1' with ⟨f1, _⟩ | ⟨f1, _, f2, f3⟩ | ⟨f1, q2, _⟩
      · exact absurd e1 f1
      · rw [if_neg (by rw [e2]; decide), if_neg (by rw [f2]; decide), e3, f3]
        exact ⟨e2.trans f2.symm, hS⟩
      · exact absurd (by rw [hn2, ← hnn, ← hl, ← hn1]; exact q1) q2
    · rcases al_cases hs' h'.rx h1' with ⟨f1, _⟩ | ⟨f1, q2, f2, f3⟩ | ⟨f1, _, f2, hY', r2, s2, g2, n2, a2, f3, f4, m2⟩
      · exact absurd e1 f1
      · exact absurd q2 (by rw [hn2, ← hl]; rw [hn1] at q1; omega)
      · refine ⟨e2.trans f2.symm, ?_⟩
        rw [if_pos e2, if_pos f2, e3, f3, e4, f4]
        exact sim_alloc (m2 _ _ (m1 _ _ hS).symm).symm (ht c0)
  · rw [if_neg c0] at hst hst'
    by_cases c1 : st.k = 1 ∨ st.k = 2 ∨ st.k = 5
    · rw [if_pos c1] at hst hst'
      have hsz2 : MM.sz a (X (placeN st.b)) = MM.sz a' (X' (placeN st.b)) := hsz
      by_cases c2 : MM.sz a (X (placeN st.b)) ≤ 0
      · rw [if_pos c2] at hst
        rw [if_pos (by rw [← hsz2]; exact c2)] at hst'
        obtain ⟨rfl, rfl, rfl⟩ := hst
        obtain ⟨rfl, rfl, rfl⟩ := hst'
        exact ⟨rfl, hS⟩
      · rw [if_neg c2] at hst
        rw [if_neg (by rw [← hsz2]; exact c2), ← hsz2] at hst'
        obtain ⟨i, j, hR, ex, ex'⟩ := wr_block hp hxb c2
        obtain ⟨li, lj⟩ := hI.lt hR
        obtain ⟨kk, hkk⟩ : ∃ kk, kk = st.a % 18446744073709551616 % MM.sz a (X (placeN st.b)) := ⟨_, rfl⟩
        rw [← hkk] at hst hst'
        have hpos : 0 < MM.sz a (X (placeN st.b)) := by omega
        have k0 : 0 ≤ kk := by rw [hkk]; exact Int.emod_nonneg _ (by omega)
        have k1 : kk < MM.sz a (X (placeN st.b)) := by rw [hkk]; exact Int.emod_lt_of_pos _ hpos
        have k2 : kk < (pick a.1).size (2 * ((blkAt a.1 i).ad : Int)) := by rw [← ex]; exact k1
        have k3 : kk < (pick a'.1).size (2 * ((blkAt a'.1 j).ad : Int)) := by rw [← ex', ← hsz]; exact k1
        obtain ⟨p1, p2, p3⟩ := fld_at hp li k0 k2
        obtain ⟨p1', p2', p3'⟩ := fld_at hp' lj k0 k3
        have hfw := hI.fld hR kk.toNat p3
        by_cases c3 : st.k = 5
        · rw [if_pos c3] at hst hst'
          obtain ⟨q1, eb, eY⟩ := hst
          obtain ⟨q1', eb', eY'⟩ := hst'
          rw [eb, eb', eY, eY']
          have r1 : E = 0 := by rw [q1]; show (pick a.1).fieldE _ _ = 0; rw [ex]; exact p1
          have r1' : E' = 0 := by rw [q1']; show (pick a'.1).fieldE _ _ = 0; rw [ex']; exact p1'
          refine ⟨r1.trans r1'.symm, sim_put hI hw ?_⟩
          show WR a.1 a'.1 R ((pick a.1).get _ _) ((pick a'.1).get _ _)
          rw [ex, ex', p2, p2']
          exact hfw
        · rw [if_neg c3] at hst hst'
          obtain ⟨⟨q1, eb⟩, eY⟩ := hst
          obtain ⟨⟨q1', eb'⟩, eY'⟩ := hst'
          rw [eb, eb', eY, eY']
          have r1 : E = 0 := by rw [q1, ex]; exact p1
          have r1' : E' = 0 := by rw [q1', ex']; exact p1'
          refine ⟨r1.trans r1'.symm, ?_⟩
          have hv : WR a.1 a'.1 R (if st.k = 1 then X (placeN st.c) else intW st.a) (if st.k = 1 then X' (placeN st.c) else intW st.a) := by
            split
            · exact hw _ (placeN_lt _)
            · exact Or.inl ⟨rfl, intW_num _⟩
          show Sim (a.1.setR _ _ _) (a'.1.setR _ _ _) X X'
          rw [ex, ex', setR_at hp li k0 k2, setR_at hp' lj k0 k3]
          exact ⟨R, iso_put hI hR hv, fun i hi => put_wr hI hR (hw i hi)⟩
    · rw [if_neg c1] at hst hst'
      by_cases c2 : st.k = 3
      · rw [if_pos c2] at hst hst'
        obtain ⟨⟨rfl, rfl⟩, rfl⟩ := hst
        obtain ⟨⟨rfl, rfl⟩, rfl⟩ := hst'
        exact ⟨rfl, (sim_coll hp' (sim_coll hp hS).symm).symm⟩
      · rw [if_neg c2] at hst hst'
        by_cases c3 : st.k = 4
        · rw [if_pos c3] at hst hst'
          obtain ⟨rfl, rfl, rfl⟩ := hst
          obtain ⟨rfl, rfl, rfl⟩ := hst'
          exact ⟨rfl, sim_put hI hw (Or.inl ⟨rfl, by decide⟩)⟩
        · rw [if_neg c3] at hst hst'
          obtain ⟨rfl, rfl, rfl⟩ := hst
          obtain ⟨rfl, rfl, rfl⟩ := hst'
          exact ⟨rfl, hS⟩
theorem force_ok {f : Bool} {n : Nat} {a a1 : RS × Int} {X X1 : Nat → Int} (h : OkS n a.1 X) (hf : if f then MM.fo a X X1 a1 else a1 = a ∧ X1 = X) : OkS n a1.1 X1 := by
  cases f with
  | false => obtain ⟨rfl, rfl⟩ : a1 = a ∧ X1 = X := hf; exact h
  | true =>
    obtain ⟨s, hs⟩ := h.good
    obtain ⟨rfl, rfl⟩ : MM.fo a X X1 a1 := hf
    exact coll_ok h (pick_good hs)
theorem force_sim {f : Bool} {n : Nat} {a a1 : RS × Int} {r' : RS} {X X1 X' : Nat → Int} (h : OkS n a.1 X) (hS : Sim a.1 r' X X') (hf : if f then MM.fo a X X1 a1 else a1 = a ∧ X1 = X) : Sim a1.1 r' X1 X' := by
  cases f with
  | false => obtain ⟨rfl, rfl⟩ : a1 = a ∧ X1 = X := hf; exact hS
  | true =>
    obtain ⟨s, hs⟩ := h.good
    obtain ⟨rfl, rfl⟩ : MM.fo a X X1 a1 := hf
    exact sim_coll (pick_good hs) hS
theorem new_ok {n : Nat} (h1 : 2 ≤ n) (h2 : n ≤ 32768) : OkS n ⟨n, 0, []⟩ (fun _ => 1) :=
  ⟨valid_good ⟨Nat.zero_le _, h1, h2, Nat.zero_le _, fun i b hb => by simp at hb, fun i b hb => by simp at hb, fun i b hb => by simp at hb, fun i b hb => by simp at hb⟩, fun _ _ => ⟨by decide, by decide⟩, rfl⟩
theorem play_ok {f : Bool} {T : Nat → St4} {n : Nat} (h1 : 2 ≤ n) (h2 : n ≤ 32768) : ∀ {N : Nat} {E : Nat → Int} {a : RS × Int} {X : Nat → Int}, playR MM f T (⟨n, 0, []⟩, 0) N E a X → OkS n a.1 X
  | 0, _, _, _, ⟨e1, e2⟩ => by rw [e1, e2]; exact new_ok h1 h2
  | N + 1, _, _, _, ⟨a1, X1, p1, a2, X2, k1, k2⟩ => step_ok (force_ok (play_ok h1 h2 p1) k1) k2
/-- The same steps, in fewer cells or as many: as long as there was room, the same goes wrong, and what is held tells the same. -/
theorem play_sim {f f' : Bool} {T : Nat → St4} {n n' : Nat} (h1 : 2 ≤ n) (hn : n ≤ n') (h2 : n' ≤ 32768) : ∀ {N : Nat} {E E' : Nat → Int} {a a' : RS × Int} {X X' : Nat → Int}, playR MM f T (⟨n, 0, []⟩, 0) N E a X → playR MM f' T (⟨n', 0, []⟩, 0) N E' a' X' → (∀ i, i < N → (T i).k = 0 → (T i).a ≠ 202) → (∀ i, i < N → E i ≠ 10 ∨ n = n') → (∀ i, i < N → E i = E' i) ∧ Sim a.1 a'.1 X X'
  | 0, _, _, _, _, _, _, ⟨e1, e2⟩, ⟨e1', e2'⟩, _, _ => ⟨fun i hi => absurd hi (Nat.not_lt_zero _), by rw [e1, e2, e1', e2']; exact sim_new n n'⟩
  | N + 1, _, _, _, _, _, _, ⟨a1, X1, p1, a2, X2, k1, k2⟩, ⟨a1', X1', p1', a2', X2', k1', k2'⟩, hT, hE => by
    obtain ⟨ih1, ih2⟩ := play_sim h1 hn h2 p1 p1' (fun i hi => hT i (by omega)) (fun i hi => hE i (by omega))
    have o1 := play_ok h1 (by omega) p1
    have o1' := play_ok (by omega) h2 p1'
    have o2 := force_ok o1 k1
    have o2' := force_ok o1' k1'
    have S2 := (force_sim o1' (force_sim o1 ih2 k1).symm k1').symm
    obtain ⟨e, S3⟩ := step_sim o2 o2' hn S2 (hT N (by omega)) k2 k2' (hE N (by omega))
    refine ⟨fun i hi => ?_, S3⟩
    by_cases c : i = N
    · subst c; exact e
    · exact ih1 i (by omega)
/-- Some of the first steps. -/
theorem play_pre {f : Bool} {T : Nat → St4} {a0 : RS × Int} {M : Nat} : ∀ {N : Nat} {E : Nat → Int} {a : RS × Int} {X : Nat → Int}, playR MM f T a0 N E a X → M ≤ N → ∃ a1 X1, playR MM f T a0 M E a1 X1
  | 0, _, a, X, h, hM => by
    have : M = 0 := by omega
    subst this; exact ⟨a, X, h⟩
  | N + 1, _, a, X, h, hM => by
    by_cases c : M = N + 1
    · subst c; exact ⟨a, X, h⟩
    · obtain ⟨a1, X1, p1, _⟩ := h
      exact play_pre p1 (by omega)
end Go.Proofs.Ytjnlfnecmiklhaa

/-
  Layer 4's statements: what their seen tells, plain; where what is held tells the same, it is the same. No program.
-/
namespace Go.Proofs.Ytjnlfnecmiklhaa
open Go.RowKit Go.Deep
set_option linter.unusedVariables false
set_option maxHeartbeats 1000000

/-- What is told of a node, in two numbers. -/
def two4 (n : Int × Int × Int) : List Int := if n.1 < 0 then [-1, numW n.2.2] else [n.1, n.2.1]
theorem two4_len (n : Int × Int × Int) : (two4 n).length = 2 := by unfold two4; split <;> rfl
/-- What is told of words; of a block. -/
def outF (s : St) (r : RS) (RG : List Nat) : List Int → List Int
  | [] => []
  | x :: F => two4 (gNode s r RG x) ++ outF s r RG F
def outB (s : St) (r : RS) (RG : List Nat) (g : Nat) : List Int := [(blkAt r g).tag, ((blkAt r g).F.length : Int)] ++ outF s r RG (blkAt r g).F
def outBs (s : St) (r : RS) (RG : List Nat) : List Nat → List Int
  | [] => []
  | g :: G => outB s r RG g ++ outBs s r RG G
variable {s s' : St} {r r' : RS}
theorem outF_append (RG : List Nat) : ∀ (F F' : List Int), outF s r RG (F ++ F') = outF s r RG F ++ outF s r RG F'
  | [], _ => rfl
  | x :: F, F' => by show two4 _ ++ outF s r RG (F ++ F') = _; rw [outF_append RG F F']; show _ = (two4 _ ++ _) ++ _; rw [List.append_assoc]
theorem outBs_append (RG : List Nat) : ∀ (G G' : List Nat), outBs s r RG (G ++ G') = outBs s r RG G ++ outBs s r RG G'
  | [], _ => rfl
  | x :: F, F' => by show outB s r RG x ++ outBs s r RG (F ++ F') = _; rw [outBs_append RG F F']; show _ = (outB s r RG x ++ _) ++ _; rw [List.append_assoc]
theorem outF_len (RG : List Nat) : ∀ (F : List Int), (outF s r RG F).length = 2 * F.length
  | [] => rfl
  | x :: F => by show (two4 _ ++ outF s r RG F).length = _; rw [List.length_append, two4_len, outF_len RG F, List.length_cons]; omega
theorem outBs_len (RG : List Nat) : ∀ (G : List Nat), (outBs s r RG G).length = 2 * lenG r G
  | [] => by simp [outBs, lenG, lenB]
  | g :: G => by
    show (outB s r RG g ++ outBs s r RG G).length = _
    rw [List.length_append, outBs_len RG G]
    unfold outB
    rw [List.length_append, outF_len]
    have e : lenG r (g :: G) = ((blkAt r g).F.length + 1) + lenG r G := by unfold lenG; simp [lenB]; omega
    rw [e]
    simp
    omega
/-- What seen tells. -/
def seenL (s : St) (r : RS) (xs : List Int) : List Int := outF s r (reachG s r xs) xs ++ outBs s r (reachG s r xs) (reachG s r xs)
section
variable {R : Nat → Nat → Prop} (hI : Iso r r' R) (hs : Good s r) (hs' : Good s' r')
include hI hs hs'
theorem outF_eq {G G' : List Nat} (h : Par R G G') (hn : G.Nodup) (hn' : G'.Nodup) : ∀ (F F' : List Int), WRs r r' R F F' → outF s r G F = outF s' r' G' F'
  | [], [], _ => rfl
  | [], _ :: _, hw => by have := hw.1; simp at this
  | _ :: _, [], hw => by have := hw.1; simp at this
  | x :: F, x' :: F', hw => by
    show two4 _ ++ outF s r G F = two4 _ ++ outF s' r' G' F'
    rw [par_node hI hs.rep hs.top_le hs'.rep hs'.top_le h hn hn' hw.tail.1, outF_eq h hn hn' F F' hw.tail.2]
theorem outB_eq {G G' : List Nat} (h : Par R G G') (hn : G.Nodup) (hn' : G'.Nodup) {i j : Nat} (hR : R i j) : outB s r G i = outB s' r' G' j := by
  have hw := words_wrs hI hR
  have h1 := hI.tag hR
  unfold wordsOf at hw
  rw [if_neg h1.2, if_neg (by rw [← h1.1]; exact h1.2)] at hw
  unfold outB
  rw [outF_eq hI hs hs' h hn hn' _ _ hw, h1.1, hI.len hR]
theorem outBs_eq {G G' : List Nat} (h : Par R G G') (hn : G.Nodup) (hn' : G'.Nodup) : ∀ (L L' : List Nat), L.length = L'.length → (∀ (k i j : Nat), L[k]? = some i → L'[k]? = some j → R i j) → outBs s r G L = outBs s' r' G' L'
  | [], [], _, _ => rfl
  | [], _ :: _, e, _ => by simp at e
  | _ :: _, [], e, _ => by simp at e
  | i :: L, j :: L', e, hp => by
    show outB s r G i ++ outBs s r G L = outB s' r' G' j ++ outBs s' r' G' L'
    rw [outB_eq hI hs hs' h hn hn' (hp 0 i j rfl rfl), outBs_eq h hn hn' L L' (by simpa using e) (fun k a b ha hb => hp (k + 1) a b (by simpa using ha) (by simpa using hb))]
theorem seen_eq {xs xs' : List Int} (hw : WRs r r' R xs xs') : seenL s r xs = seenL s' r' xs' := by
  have h := par_reach hI hs.rep hs.top_le hs'.rep hs'.top_le hw
  have hn := (reach_good hs.rep xs).1
  have hn' := (reach_good hs'.rep xs').1
  unfold seenL
  rw [outF_eq hI hs hs' h hn hn' xs xs' hw, outBs_eq hI hs hs' h hn hn' _ _ h.1 h.2]
/-- No text is in reach of what tells the same. -/
theorem reach_tag {xs xs' : List Int} (hw : WRs r r' R xs xs') : ∀ i, i ∈ reachG s r xs → (blkAt r i).tag ≠ 202 := by
  intro i hi
  have h := par_reach hI hs.rep hs.top_le hs'.rep hs'.top_le hw
  obtain ⟨k, hk⟩ := List.getElem?_of_mem hi
  obtain ⟨j, _, hR⟩ := h.at hk
  exact (hI.tag hR).2
end
theorem sim_seen {X X' : Nat → Int} (hs : Good s r) (hs' : Good s' r') (h : Sim r r' X X') : seenL s r (listX X 8) = seenL s' r' (listX X' 8) := by
  obtain ⟨R, hI, hw⟩ := h
  exact seen_eq hI hs hs' (sim_wrs hw)
theorem sim_tag {X X' : Nat → Int} (hs : Good s r) (hs' : Good s' r') (h : Sim r r' X X') : ∀ i, i ∈ reachG s r (listX X 8) → (blkAt r i).tag ≠ 202 := by
  obtain ⟨R, hI, hw⟩ := h
  exact reach_tag hI hs hs' (sim_wrs hw)

/-! ### What was told, and met, on the way -/
theorem gNode_ext5 {G T : List Nat} {x : Int} (h : ∀ i, leadI s r x = some i → i ∈ G) : gNode s r (G ++ T) x = gNode s r G x := by
  cases e : leadI s r x with
  | none => rw [gNode_none e, gNode_none e]
  | some i => rw [gNode_some e, gNode_some e, List.idxOf_append, if_pos (h i e)]
theorem gNode_see5 {G T RG : List Nat} {x : Int} (h : RG = visit s r G x ++ T) : gNode s r (visit s r G x) x = gNode s r RG x := by
  rw [h]; exact (gNode_ext5 (fun i e => visit_has e)).symm
/-- What was met behind k fields of a block. -/
def in5 (s : St) (r : RS) (G0 : List Nat) (b : Blk) (k : Nat) : List Nat := visits s r G0 (b.F.take k)
theorem in5_zero (G0 : List Nat) (b : Blk) : in5 s r G0 b 0 = G0 := rfl
theorem in5_succ {G0 : List Nat} {b : Blk} {k : Nat} (hk : k < b.F.length) : in5 s r G0 b (k + 1) = visit s r (in5 s r G0 b k) (b.F.getD k 0) := by
  unfold in5
  rw [List.take_add_one, visits_append, List.getElem?_eq_getElem hk, List.getD_eq_getElem?_getD, List.getElem?_eq_getElem hk]
  rfl
theorem in5_ext (G0 : List Nat) (b : Blk) (k : Nat) : ∃ T, in5 s r G0 b k = G0 ++ T := visits_ext _ _
theorem in5_good (hr : Rep s r) {G0 : List Nat} (hG : GoodG r G0) (b : Blk) (k : Nat) : GoodG r (in5 s r G0 b k) := visits_good hr _ hG
theorem in5_end {xs : List Int} {i g : Nat} (hg : (scans s r xs i)[i]? = some g) (ht : (blkAt r g).tag ≠ 202) : in5 s r (scans s r xs i) (blkAt r g) (blkAt r g).F.length = scans s r xs (i + 1) := by
  rw [scans_succ]
  unfold scan1 in5
  rw [hg]
  show _ = visits s r _ (wordsOf (blkAt r g))
  unfold wordsOf
  rw [if_neg ht, List.take_length]
theorem in5_pre (hr : Rep s r) {xs : List Int} {i g : Nat} (hg : (scans s r xs i)[i]? = some g) (ht : (blkAt r g).tag ≠ 202) (k : Nat) : ∃ T, reachG s r xs = in5 s r (scans s r xs i) (blkAt r g) k ++ T := by
  have hi := (List.getElem?_eq_some_iff.1 hg).1
  have hl := (goodG_len (scans_good hr xs i)).2
  obtain ⟨T1, h1⟩ := scans_ext (s := s) (r := r) xs (show i + 1 ≤ r.L.length by omega)
  have h2 : ∃ T2, in5 s r (scans s r xs i) (blkAt r g) (blkAt r g).F.length = in5 s r (scans s r xs i) (blkAt r g) k ++ T2 := by
    unfold in5
    rw [List.take_length]
    have e : (blkAt r g).F = (blkAt r g).F.take k ++ (blkAt r g).F.drop k := (List.take_append_drop k _).symm
    obtain ⟨T2, h3⟩ := visits_ext (s := s) (r := r) ((blkAt r g).F.drop k) (visits s r (scans s r xs i) ((blkAt r g).F.take k))
    exact ⟨T2, by rw [← h3, ← visits_append, ← e]⟩
  obtain ⟨T2, h2⟩ := h2
  rw [in5_end hg ht] at h2
  exact ⟨T2 ++ T1, by show scans s r xs r.L.length = _; rw [h1, h2, List.append_assoc]⟩
theorem first_pre5 (X : Nat → Int) {j m : Nat} (h : j ≤ m) : ∃ T, reachG s r (listX X m) = visits s r [] (listX X j) ++ T := by
  have h1 : ∃ T, visits s r [] (listX X m) = visits s r [] (listX X j) ++ T := by
    have e : listX X m = listX X j ++ (listX X m).drop j := by
      have : (listX X m).take j = listX X j := by unfold listX; rw [← List.map_take, List.take_range, Nat.min_eq_left h]
      rw [← this, List.take_append_drop]
    rw [e, visits_append]
    exact visits_ext _ _
  obtain ⟨T, hT⟩ := h1
  obtain ⟨T2, hT2⟩ := scans_ext (s := s) (r := r) (listX X m) (Nat.zero_le r.L.length)
  exact ⟨T ++ T2, by show scans s r (listX X m) r.L.length = _; rw [hT2, scans_zero, hT, List.append_assoc]⟩
theorem pre_take {G T RG : List Nat} (h : RG = G ++ T) {i g : Nat} (hg : G[i]? = some g) : RG.take (i + 1) = RG.take i ++ [g] := by
  have hl := (List.getElem?_eq_some_iff.1 hg).1
  rw [List.take_add_one, h, List.getElem?_append_left hl, hg]; rfl
theorem listX_step5 (X : Nat → Int) (j : Nat) : listX X (j + 1) = listX X j ++ [X j] := by unfold listX; rw [List.range_succ, List.map_append]; rfl
theorem visits_step5 (s : St) (r : RS) (G : List Nat) (X : Nat → Int) (j : Nat) : visits s r G (listX X (j + 1)) = visit s r (visits s r G (listX X j)) (X j) := by rw [listX_step5, visits_append]; rfl
theorem outF_step (RG : List Nat) (X : Nat → Int) (j : Nat) : outF s r RG (listX X (j + 1)) = outF s r RG (listX X j) ++ two4 (gNode s r RG (X j)) := by
  rw [listX_step5, outF_append]
  have e : outF s r RG [X j] = two4 (gNode s r RG (X j)) := by show two4 _ ++ [] = _; rw [List.append_nil]
  rw [e]
theorem outF_take (RG : List Nat) {F : List Int} {k : Nat} (hk : k < F.length) : outF s r RG (F.take (k + 1)) = outF s r RG (F.take k) ++ two4 (gNode s r RG (F.getD k 0)) := by
  rw [List.take_add_one, outF_append, List.getElem?_eq_getElem hk, List.getD_eq_getElem?_getD, List.getElem?_eq_getElem hk]
  show _ = _ ++ (two4 _)
  congr 1
  show two4 _ ++ [] = _
  rw [List.append_nil]; rfl
/-- What was told behind i blocks. -/
def outU (s : St) (r : RS) (xs : List Int) (i : Nat) : List Int := outF s r (reachG s r xs) xs ++ outBs s r (reachG s r xs) ((reachG s r xs).take i)
theorem outU_len (hr : Rep s r) {xs : List Int} (i : Nat) : (outU s r xs i).length ≤ 2 * xs.length + 2 * lenB r.L := by
  unfold outU
  rw [List.length_append, outF_len, outBs_len]
  have h1 := (goodG_len (reach_good hr xs)).1
  have h2 : lenG r (reachG s r xs) = lenG r ((reachG s r xs).take i) + lenG r ((reachG s r xs).drop i) := by rw [← lenG_append, List.take_append_drop]
  omega
theorem outU_end (xs : List Int) : outU s r xs (reachG s r xs).length = seenL s r xs := by unfold outU seenL; rw [List.take_length]
theorem outU_succ {xs : List Int} {i g : Nat} {G T : List Nat} (h : reachG s r xs = G ++ T) (hg : G[i]? = some g) : outU s r xs (i + 1) = outU s r xs i ++ outB s r (reachG s r xs) g := by
  unfold outU
  rw [pre_take h hg, outBs_append, List.append_assoc]
  congr 2
  show outB _ _ _ _ ++ [] = _
  rw [List.append_nil]
end Go.Proofs.Ytjnlfnecmiklhaa

/-
  Layer 4's statements: what their seen's closure notes of a word. Condition: the arena, what was met and what was told lie in memory.
-/
namespace Go.Proofs.Ytjnlfnecmiklhaa
open Go.ChangeShapes Go.WideShapes Go.ChangeAt Go.RowKit Go.Deep
set_option linter.unusedVariables false
set_option maxHeartbeats 2000000

def nums (O : List Int) : List Value := O.map fun x => .int .i64 x
/-- What was met, and what was told, lies in memory, beside the arena. -/
structure Sn (w : World) (B ba bm bo : Nat) (p : Pl) (s : St) (r : RS) (G : List Nat) (v vo : Value) (O : List Int) : Prop where
  ha : w.heap[ba]? = some (.cells #[.pointer (some ⟨p.a, 0, none⟩)] 47 (0, 0))
  hm : w.heap[bm]? = some (.cells #[v] 28 (0, 0))
  ho : w.heap[bo]? = some (.cells #[vo] 64 (0, 0))
  hv : w.ownsRow B 54 1 v G.length (G.map fun i : Nat => Value.int .u64 (2 * ((blkAt r i).ad : Int)))
  hvo : w.ownsRow B 2 1 vo O.length (nums O)
  ar : Ar w p s
  below : p.a < B ∧ p.h < B ∧ p.c < B ∧ p.b < B
  lo : B ≤ bm ∧ B ≤ bo ∧ B ≤ ba
variable {w w' : World} {B ba bm bo : Nat} {p : Pl} {s : St} {r : RS} {G : List Nat} {v vo : Value} {O : List Int}
theorem one_cell5 {w : World} {b : Nat} {x : Value} {t : TypeId} (h : w.heap[b]? = some (.cells #[x] t (0, 0))) : w.cell? ⟨b, 0, none⟩ = some x ∧ w.frozen? ⟨b, 0, none⟩ = false := by
  simp [World.cell?, World.frozen?, h]
theorem owns_keep5 {w w' : World} {B : Nat} {e : TypeId} {sz : Nat} {v : Value} {n : Nat} {xs : List Value} (h : w.ownsRow B e sz v n xs) (hk : ∀ g, v.ownBlock = some g → w'.heap[g]? = w.heap[g]?) : w'.ownsRow B e sz v n xs := by
  refine ⟨h.1, ?_⟩
  rcases h.2 with h2 | ⟨g, c, cur, hv, hge, hh, rest⟩
  · exact .inl h2
  · exact .inr ⟨g, c, cur, hv, hge, (hk g (by rw [hv]; rfl)).trans hh, rest⟩
theorem Sn.drewN (h : Sn w B ba bm bo p s r G v vo O) (n : Nat) : Sn (w.drewN n) B ba bm bo p s r G v vo O := ⟨h.ha, h.hm, h.ho, h.hv, h.hvo, h.ar.drewN n, h.below, h.lo⟩
theorem Sn.is (h : Sn w B ba bm bo p s r G v vo O) {n : Nat} (e : w' = w.drewN n) : Sn w' B ba bm bo p s r G v vo O := by rw [e]; exact h.drewN n
/-- Other blocks are made, or written: of other types than these, and none of the arena's. -/
theorem Sn.frame {S : Nat → Prop} (h : Sn w B ba bm bo p s r G v vo O) (k : Only S w w') (hS : ∀ q cur t, w.heap[q]? = some (.cells cur t (0, 0)) → S q → B ≤ q ∧ t ≠ 47 ∧ t ≠ 28 ∧ t ≠ 64 ∧ t ≠ 54 ∧ t ≠ 2) : Sn w' B ba bm bo p s r G v vo O := by
  obtain ⟨b1, b2, b3, b4⟩ := h.below
  obtain ⟨cc, hcc, _, _⟩ := h.ar.hc
  obtain ⟨cb, hcb, _, _⟩ := h.ar.hb
  refine ⟨(k.block _ (lt_of_some h.ha) (fun hs => (hS _ _ _ h.ha hs).2.1 rfl)).trans h.ha, (k.block _ (lt_of_some h.hm) (fun hs => (hS _ _ _ h.hm hs).2.2.1 rfl)).trans h.hm, (k.block _ (lt_of_some h.ho) (fun hs => (hS _ _ _ h.ho hs).2.2.2.1 rfl)).trans h.ho, owns_keep5 h.hv (fun g hg => ?_), owns_keep5 h.hvo (fun g hg => ?_), h.ar.frame k (fun hs => ?_) (fun hs => ?_) (fun hs => ?_) (fun hs => ?_), h.below, h.lo⟩
  · obtain ⟨cur, hc⟩ := own_row h.hv g hg
    exact k.block _ (lt_of_some hc) (fun hs => (hS _ _ _ hc hs).2.2.2.2.1 rfl)
  · obtain ⟨cur, hc⟩ := own_row h.hvo g hg
    exact k.block _ (lt_of_some hc) (fun hs => (hS _ _ _ hc hs).2.2.2.2.2 rfl)
  · have := (hS _ _ _ h.ar.ha hs).1; omega
  · have := (hS _ _ _ h.ar.hh hs).1; omega
  · have := (hS _ _ _ hcc hs).1; omega
  · have := (hS _ _ _ hcb hs).1; omega
theorem Sn.below' (h : Sn w B ba bm bo p s r G v vo O) (hb : Below w.heap.size w w') : Sn w' B ba bm bo p s r G v vo O := h.frame (S := fun _ => False) (Only.of_below hb) (fun _ _ _ _ hs => hs.elim)
theorem nums_append (O : List Int) (l : List Int) : nums (O ++ l) = nums O ++ nums l := by unfold nums; rw [List.map_append]
theorem infoI64 : (Try.prog.info? 2).map (fun i => (i.zero, i.size, i.bytes)) = some (some (.int .i64 0), 1, 8) := by kernel_rfl
/-- Two numbers more were told. -/
theorem Sn.told {w5 w6 : World} {g6 cap6 : Nat} {o : Obj} {a b : Int} (h : Sn w5 B ba bm bo p s r G v vo O) (ho6 : w6.ownsRow B 2 1 (.slice (some ⟨g6, 0, none⟩) (O.length + 2) cap6) (O.length + 2) (nums O ++ [.int .i64 a, .int .i64 b])) (gr : (w5.alloc o).grownBy w6 vo.ownBlock) :
    Sn (w6.setCell ⟨bo, 0, none⟩ (.slice (some ⟨g6, 0, none⟩) (O.length + 2) cap6)) B ba bm bo p s r G v (.slice (some ⟨g6, 0, none⟩) (O.length + 2) cap6) (O ++ [a, b]) ∧ Below B w5 (w6.setCell ⟨bo, 0, none⟩ (.slice (some ⟨g6, 0, none⟩) (O.length + 2) cap6)) ∧ w6.heap[bo]? = some (.cells #[vo] 64 (0, 0)) := by
  have hge := own_ge h.hvo
  have hrow := own_row h.hvo
  have keep : ∀ q : Nat, q < w5.heap.size → vo.ownBlock ≠ some q → w6.heap[q]? = w5.heap[q]? := fun q hq hne => (gr.block q (by rw [nblk_alloc]; omega) (fun e => hne e.symm)).trans (blk_alloc_lt _ _ _ hq)
  have tne : ∀ (q : Nat) (cur : Array Value) (t : TypeId), w5.heap[q]? = some (.cells cur t (0, 0)) → t ≠ 2 → vo.ownBlock ≠ some q := by
    intro q cur t hq ht e
    obtain ⟨cur', hc'⟩ := hrow q e
    rw [hq] at hc'
    simp at hc'
    exact ht hc'.2
  have e1 := (keep bo (lt_of_some h.ho) (tne bo _ _ h.ho (by decide))).trans h.ho
  have hO : Only (fun q => q = bo ∨ vo.ownBlock = some q) w5 (w6.setCell ⟨bo, 0, none⟩ (.slice (some ⟨g6, 0, none⟩) (O.length + 2) cap6)) := by
    refine Only.setCell (w := w5) (w' := w6) (S := fun q => q = bo ∨ vo.ownBlock = some q) ⟨gr.os, gr.tape, gr.output, Nat.le_trans (by rw [nblk_alloc]; omega) gr.size, fun q hq hs => keep q hq (fun e => hs (Or.inr e))⟩ (Or.inr (Or.inl rfl)) _
  have ne : ∀ (q : Nat) (cur : Array Value) (t : TypeId), w5.heap[q]? = some (.cells cur t (0, 0)) → t ≠ 64 → t ≠ 2 → ¬ (q = bo ∨ vo.ownBlock = some q) := by
    rintro q cur t hq h1 h2 (e | e)
    · subst e
      have h3 := h.ho
      rw [hq] at h3; simp at h3; exact h1 h3.2
    · exact tne q cur t hq h2 e
  obtain ⟨b1, b2, b3, b4⟩ := h.below
  obtain ⟨cc, hcc, _, _⟩ := h.ar.hc
  obtain ⟨cb, hcb, _, _⟩ := h.ar.hb
  refine ⟨⟨?_, ?_, ?_, owns_keep5 h.hv (fun g hg => ?_), ?_, h.ar.frame hO (ne _ _ _ h.ar.ha (by decide) (by decide)) (ne _ _ _ h.ar.hh (by decide) (by decide)) (ne _ _ _ hcc (by decide) (by decide)) (ne _ _ _ hcb (by decide) (by decide)), h.below, h.lo⟩, ?_, e1⟩
  · exact (hO.block _ (lt_of_some h.ha) (ne _ _ _ h.ha (by decide) (by decide))).trans h.ha
  · exact (hO.block _ (lt_of_some h.hm) (ne _ _ _ h.hm (by decide) (by decide))).trans h.hm
  · simp [World.setCell, Array.getElem?_modify, e1]
  · obtain ⟨cur, hc⟩ := own_row h.hv g hg
    exact hO.block _ (lt_of_some hc) (ne _ _ _ hc (by decide) (by decide))
  · rw [List.length_append, nums_append]
    refine owns_keep5 ho6 (fun g hg => blk_setCell_other _ _ _ _ ?_)
    obtain ⟨cur, hc⟩ := own_row ho6 g hg
    rintro rfl
    rw [e1] at hc
    simp at hc
  · have hsz : B ≤ w5.heap.size := by have := lt_of_some h.ho; have := h.lo.2.1; omega
    refine hO.below hsz (fun q hq hs => ?_)
    rcases hs with e | e
    · have := h.lo.2.1; omega
    · have := hge q e; omega
/-- One more that was met. -/
theorem Sn.noted {w5 w6 : World} {g6 cap6 i : Nat} {o : Obj} (h : Sn w5 B ba bm bo p s r G v vo O) (ho6 : w6.ownsRow B 54 1 (.slice (some ⟨g6, 0, none⟩) (G.length + 1) cap6) (G.length + 1) ((G.map fun i : Nat => Value.int .u64 (2 * ((blkAt r i).ad : Int))) ++ [.int .u64 (2 * ((blkAt r i).ad : Int))])) (gr : (w5.alloc o).grownBy w6 v.ownBlock) :
    Sn (w6.setCell ⟨bm, 0, none⟩ (.slice (some ⟨g6, 0, none⟩) (G.length + 1) cap6)) B ba bm bo p s r (G ++ [i]) (.slice (some ⟨g6, 0, none⟩) (G.length + 1) cap6) vo O ∧ Below B w5 (w6.setCell ⟨bm, 0, none⟩ (.slice (some ⟨g6, 0, none⟩) (G.length + 1) cap6)) ∧ w6.heap[bm]? = some (.cells #[v] 28 (0, 0)) := by
  have hge := own_ge h.hv
  have hrow := own_row h.hv
  have keep : ∀ q : Nat, q < w5.heap.size → v.ownBlock ≠ some q → w6.heap[q]? = w5.heap[q]? := fun q hq hne => (gr.block q (by rw [nblk_alloc]; omega) (fun e => hne e.symm)).trans (blk_alloc_lt _ _ _ hq)
  have tne : ∀ (q : Nat) (cur : Array Value) (t : TypeId), w5.heap[q]? = some (.cells cur t (0, 0)) → t ≠ 54 → v.ownBlock ≠ some q := by
    intro q cur t hq ht e
    obtain ⟨cur', hc'⟩ := hrow q e
    rw [hq] at hc'
    simp at hc'
    exact ht hc'.2
  have e1 := (keep bm (lt_of_some h.hm) (tne bm _ _ h.hm (by decide))).trans h.hm
  have hO : Only (fun q => q = bm ∨ v.ownBlock = some q) w5 (w6.setCell ⟨bm, 0, none⟩ (.slice (some ⟨g6, 0, none⟩) (G.length + 1) cap6)) := by
    refine Only.setCell (w := w5) (w' := w6) (S := fun q => q = bm ∨ v.ownBlock = some q) ⟨gr.os, gr.tape, gr.output, Nat.le_trans (by rw [nblk_alloc]; omega) gr.size, fun q hq hs => keep q hq (fun e => hs (Or.inr e))⟩ (Or.inr (Or.inl rfl)) _
  have ne : ∀ (q : Nat) (cur : Array Value) (t : TypeId), w5.heap[q]? = some (.cells cur t (0, 0)) → t ≠ 28 → t ≠ 54 → ¬ (q = bm ∨ v.ownBlock = some q) := by
    rintro q cur t hq h1 h2 (e | e)
    · subst e
      have h3 := h.hm
      rw [hq] at h3; simp at h3; exact h1 h3.2
    · exact tne q cur t hq h2 e
  obtain ⟨b1, b2, b3, b4⟩ := h.below
  have lowA : ∀ q, q < B → w5.heap[q]? ≠ none → ∀ cur t, w5.heap[q]? = some (.cells cur t (0, 0)) → t ≠ 28 → ¬ (q = bm ∨ v.ownBlock = some q) := by
    rintro q hq _ cur t hqc h1 (e | e)
    · subst e
      have := h.lo.1; omega
    · have := hge q e; omega
  obtain ⟨cc, hcc, _, _⟩ := h.ar.hc
  obtain ⟨cb, hcb, _, _⟩ := h.ar.hb
  refine ⟨⟨?_, ?_, ?_, ?_, owns_keep5 h.hvo (fun g hg => ?_), h.ar.frame hO (ne _ _ _ h.ar.ha (by decide) (by decide)) (ne _ _ _ h.ar.hh (by decide) (by decide)) (lowA _ b3 (by rw [hcc]; simp) _ _ hcc (by decide)) (ne _ _ _ hcb (by decide) (by decide)), h.below, h.lo⟩, ?_, e1⟩
  · exact (hO.block _ (lt_of_some h.ha) (ne _ _ _ h.ha (by decide) (by decide))).trans h.ha
  · simp [World.setCell, Array.getElem?_modify, e1]
  · exact (hO.block _ (lt_of_some h.ho) (ne _ _ _ h.ho (by decide) (by decide))).trans h.ho
  · rw [List.length_append, List.map_append]
    refine owns_keep5 ho6 (fun g hg => blk_setCell_other _ _ _ _ ?_)
    obtain ⟨cur, hc⟩ := own_row ho6 g hg
    rintro rfl
    rw [e1] at hc
    simp at hc
  · obtain ⟨cur, hc⟩ := own_row h.hvo g hg
    exact hO.block _ (lt_of_some hc) (ne _ _ _ hc (by decide) (by decide))
  · have hsz : B ≤ w5.heap.size := by have := lt_of_some h.hm; have := h.lo.1; omega
    refine hO.below hsz (fun q hq hs => ?_)
    rcases hs with e | e
    · have := h.lo.1; omega
    · have := hge q e; omega
theorem two_new5 (w : World) (a b : Value) (t : TypeId) : ∀ j u, [a, b][j]? = some u → (w.alloc (.cells #[a, b] t)).cell? ((Addr.mk w.heap.size 0 none).add j) = some u := World.news_of_block (cs := #[a, b]) (blk_alloc_new w _)
theorem append_two {w : World} {ops : Array Oper} {rest : List Oper} {o : Oper} {a : Act} {Q : Exit → Act → World → Prop} (hgd : o.guard = none) (s x : Operand)
    (ho : o.op = .call { callee := .builtin .append, args := #[s, x], argTypes := #[64, 64] }) (B : Nat) (v : Value) (O : List Int) (hs : a.eval s = v) (hown : w.ownsRow B 2 1 v O.length (nums O))
    (gx c : Nat) (u1 u2 : Int) (hx : a.eval x = .slice (some ⟨gx, 0, none⟩) 2 c) (hu : ∀ j u, [Value.int .i64 u1, Value.int .i64 u2][j]? = some u → w.cell? ((Addr.mk gx 0 none).add j) = some u) (hn : O.length ≤ 1000000) (hB : B ≤ w.heap.size)
    (h : ∀ g cap w', w'.ownsRow B 2 1 (.slice (some ⟨g, 0, none⟩) (O.length + 2) cap) (O.length + 2) (nums O ++ [.int .i64 u1, .int .i64 u2]) → w.grownBy w' v.ownBlock → wpList Try.prog ops Q rest (a.put o.dst (.slice (some ⟨g, 0, none⟩) (O.length + 2) cap)) w') : wpList Try.prog ops Q (o :: rest) a w := by
  obtain ⟨i0, hi, hz0, hz1, hz2⟩ := info_parts infoI64
  refine wpList_append_lies w hgd s x 64 ho B 2 i0 _ 1 8 Try.underlying64 hi hz0 hz1 hz2 rfl (by decide) v O.length (nums O) hs hown ⟨gx, 0, none⟩ 2 c [.int .i64 u1, .int .i64 u2] hx rfl hu ?_ (by omega) (by unfold maxLen; omega) (by omega) hB _ rfl ?_
  · intro y hy; simp at hy; rcases hy with rfl | rfl <;> rfl
  · intro g cap w' h1 h2 _ _
    exact h g cap w' h1 h2
theorem step_two {w : World} {ops : Array Oper} {o : Oper} {a : Act} {K : Act → World → Prop} {Q : Exit → Act → World → Prop} {E : Prop} (hgd : o.guard = none) (s x : Operand)
    (ho : o.op = .call { callee := .builtin .append, args := #[s, x], argTypes := #[64, 64] }) (B : Nat) (v : Value) (O : List Int) (hs : a.eval s = v) (hown : w.ownsRow B 2 1 v O.length (nums O))
    (gx c : Nat) (u1 u2 : Int) (hx : a.eval x = .slice (some ⟨gx, 0, none⟩) 2 c) (hu : ∀ j u, [Value.int .i64 u1, Value.int .i64 u2][j]? = some u → w.cell? ((Addr.mk gx 0 none).add j) = some u) (hn : O.length ≤ 1000000) (hB : B ≤ w.heap.size)
    (h : ∀ g cap w', w'.ownsRow B 2 1 (.slice (some ⟨g, 0, none⟩) (O.length + 2) cap) (O.length + 2) (nums O ++ [.int .i64 u1, .int .i64 u2]) → w.grownBy w' v.ownBlock → K (a.put o.dst (.slice (some ⟨g, 0, none⟩) (O.length + 2) cap)) w') : if Region.wanted o (yielded ops a.tmps) = true then o.wp Try.prog a w K Q else E := by
  obtain ⟨i0, hi, hz0, hz1, hz2⟩ := info_parts infoI64
  refine step_append_lies (w := w) (E := E) hgd s x 64 ho B 2 i0 _ 1 8 Try.underlying64 hi hz0 hz1 hz2 rfl (by decide) v O.length (nums O) hs hown ⟨gx, 0, none⟩ 2 c [.int .i64 u1, .int .i64 u2] hx rfl hu ?_ (by omega) (by unfold maxLen; omega) (by omega) hB _ rfl ?_
  · intro y hy; simp at hy; rcases hy with rfl | rfl <;> rfl
  · intro g cap w' h1 h2 _ _
    exact h g cap w' h1 h2
theorem rnum4 (x : Int) (w : World) (h : 0 ≤ x) (h' : x ≤ 18446744073709551615) :
    Calls Try.prog 50 #[.int .u64 x] w fun e w' => e = .returned (.int .i64 (numW x)) ∧ w' = w := by
  go_enter Try.func50, Try.ntmps50
  go_wp2
  all_goals go_ret
  all_goals exact ⟨ret_int (by unfold numW; split <;> omega), rfl⟩
/-- What the closure leaves. -/
def SeeAs (B ba bm bo : Nat) (p : Pl) (s : St) (r : RS) (G : List Nat) (O : List Int) (w : World) (e : Ending) (w' : World) : Prop := e = .returned (.tuple #[]) ∧ ∃ v' vo', Sn w' B ba bm bo p s r G v' vo' O ∧ Below B w w'
theorem Sn.size (h : Sn w B ba bm bo p s r G v vo O) : B ≤ w.heap.size := by
  have := lt_of_some h.hm
  have := h.lo.1
  omega
set_option maxRecDepth 100000 in
theorem see4_none (x : Int) (w : World) (h : Sn w B ba bm bo p s r G v vo O) (h0 : 0 ≤ x) (h1 : x ≤ 18446744073709551615) (g : (s.find x).1 = 0) (hol : O.length ≤ 1000000) :
    Calls Try.prog 48 #[.int .u64 x, .pointer (some ⟨ba, 0, none⟩), .pointer (some ⟨bo, 0, none⟩), .pointer (some ⟨bm, 0, none⟩)] w fun e w' => SeeAs B ba bm bo p s r G (O ++ two4 (-1, 0, x)) w e w' := by
  obtain ⟨c0, _⟩ := one_cell5 h.ha
  have HG : Hid (2 * (s.find x).1 = 0) := by show _ = _; omega
  have HH := hidden h
  have ht : two4 (-1, 0, x) = [-1, numW x] := rfl
  rw [ht]
  clear g h ht
  go_enter Try.func48, Try.ntmps48
  go_wp2_with (go_at_call 49; refine (leads_at x 0 _ _ HH.out.ar h0 h1 HG.out rfl).mono ?_; rintro e w1 ⟨rfl, m, hw1⟩; have H1 := hidden (HH.out.is hw1); have B1 : Hid (Below B w w1) := (by rw [hw1]; exact below_drewN (Below.refl _ _) m); obtain ⟨d0, d1⟩ := one_cell5 H1.out.ho; clear hw1)
  have HNX : Hid (∀ w : World, Calls Try.prog 50 #[.int .u64 x] w fun e w' => e = .returned (.int .i64 (numW x)) ∧ w' = w) := fun w => rnum4 x w h0 h1
  generalize hnx : numW x = nx at *
  have HNE := hidden hnx
  clear hnx
  refine region_till (S := (fun w' => w'.cell? ⟨bo, 0, none⟩ = some vo)) (kz := 5) (by kernel_rfl) d0 (fun hHeld => ?_)
  refine AnyTill.take (i := 0) (oi := { dst := some 17, op := Op.load 64 (Operand.tmp 2), type := 64, pos := "law.go:161", after := #[], guard := none }) (v := ?_) rfl (by kernel_rfl) (by kernel_rfl) (by kernel_rfl) (by kernel_rfl) (fun _ _ _ h => h) (Or.inl ⟨by rfl, ?_⟩) hHeld ?_
  rotate_left
  · (intro w hSw; (try dsimp only at hSw); go_simp; (try with_reducible rfl))
  (try simp only [Act.put, List.setIfInBounds_toArray, List.set_cons_zero, List.set_cons_succ])
  refine AnyTill.take (i := 1) (oi := { dst := some 18, op := Op.move (Operand.tmp 0), type := 54, pos := "law.go:161", after := #[], guard := none }) (v := ?_) rfl (by kernel_rfl) (by kernel_rfl) (by kernel_rfl) (by kernel_rfl) (fun _ _ _ h => h) (Or.inl ⟨by rfl, ?_⟩) hHeld ?_
  rotate_left
  · (intro w hSw; (try dsimp only at hSw); go_simp; (try with_reducible rfl))
  (try simp only [Act.put, List.setIfInBounds_toArray, List.set_cons_zero, List.set_cons_succ])
  refine AnyTill.one (i := 2) (o := { dst := some 19, op := Op.call { callee := Callee.value (Operand.func 50), args := #[Operand.tmp 18], argTypes := #[54] }, type := 2, pos := "law.go:161", after := #[{ on := 1, ground := Ground.data }], guard := none }) (by kernel_rfl) rfl (fun K hK => ?_)
  go_simp
  refine (HNX.out _).mono ?_
  rintro e w2 ⟨rfl, hw2⟩
  have H2 := hidden (H1.out.is (n := 1) hw2)
  have B2 : Hid (Below B w w2) := (by rw [hw2]; exact below_drewN B1.out 1)
  clear hw2 hHeld
  obtain ⟨s20, s21⟩ := one_cell5 H2.out.ho
  have hs2 := H2.out.size
  refine hK.out _ _ (fun _ => s20) ?_
  clear hK K
  (try simp only [Act.put, List.setIfInBounds_toArray, List.set_cons_zero, List.set_cons_succ])
  refine AnyTill.one (i := 3) (o := { dst := some 20, op := Op.buildSlice 64 2 #[(0, Operand.const (Value.int IntKind.i64 (-1))), (1, Operand.tmp 19)], type := 64, pos := "law.go:161", after := #[{ on := 2, ground := Ground.data }], guard := none }) (by kernel_rfl) rfl (fun K hK => ?_)
  go_simp
  have s30 := (one_cell5 (H2.out.below' ((Below.refl _ _).alloc (Nat.le_refl _) (.cells #[.int .i64 (-1), .int .i64 nx] 2))).ho).1
  refine hK.out _ _ (fun _ => s30) ?_
  clear hK K
  (try simp only [Act.put, List.setIfInBounds_toArray, List.set_cons_zero, List.set_cons_succ])
  refine AnyTill.one (i := 4) (o := { dst := some 21, op := Op.call { callee := Callee.builtin Builtin.append, args := #[Operand.tmp 17, Operand.tmp 20], argTypes := #[64, 64] }, type := 64, pos := "law.go:161", after := #[{ on := 0, ground := Ground.data }, { on := 3, ground := Ground.data }, { on := 2, ground := Ground.chain }], guard := none }) (by kernel_rfl) rfl (fun K hK => ?_)
  refine step_two rfl (.tmp 17) (.tmp 20) rfl B vo O (by simp [Act.eval]) (by exact H2.out.hvo.alloc _) w2.heap.size 2 (-1) nx (by simp [Act.eval]) (by exact two_new5 _ _ _ _) hol (by rw [nblk_alloc]; omega) ?_
  intro g6 c6 w6 hr6 gr6
  obtain ⟨n7, b7, e7⟩ := H2.out.told hr6 gr6
  obtain ⟨m0, m1⟩ := one_cell5 e7
  have N7 := hidden n7
  have B7 := hidden (B2.out.trans b7)
  clear hr6 gr6 n7 b7 e7
  refine hK.out _ _ (fun _ => m0) ?_
  clear hK K
  (try simp only [Act.put, List.setIfInBounds_toArray, List.set_cons_zero, List.set_cons_succ])
  refine AnyTill.one (i := 5) (o := { dst := none, op := Op.store 64 (Operand.tmp 2) (Operand.tmp 21), type := 0, pos := "law.go:161", after := #[{ on := 4, ground := Ground.data }, { on := 4, ground := Ground.chain }, { on := 0, ground := Ground.phase }, { on := 1, ground := Ground.phase }, { on := 2, ground := Ground.phase }, { on := 3, ground := Ground.phase }, { on := 4, ground := Ground.phase }], guard := none }) (by kernel_rfl) rfl (fun K hK => ?_)
  go_simp
  refine hK.out _ _ (fun h => absurd rfl h) ?_
  clear hK K
  refine AnyTill.done (by kernel_rfl) ?_ _
  (try simp only [Act.put, List.setIfInBounds_toArray, List.set_cons_zero, List.set_cons_succ])
  go_wp2_with fail
  go_end0
  rw [HNE.out]
  exact ⟨rfl, v, _, N7.out, B7.out⟩
theorem met_cell5 {w : World} {B : Nat} {v : Value} {G : List Nat} {f : Nat → Int} (h : w.ownsRow B 54 1 v G.length (G.map fun i : Nat => Value.int .u64 (f i))) : ∃ (al : Option Addr) (c : Nat), v = .slice al G.length c ∧ ∀ (k i : Nat), G[k]? = some i → ∃ g, al = some ⟨g, 0, none⟩ ∧ w.cell? ⟨g, k, none⟩ = some (.int .u64 (f i)) := by
  rcases h.2 with ⟨e, e0⟩ | ⟨g, cap, cur, hv, hb, hg, hnc, _, hcs, htake⟩
  · refine ⟨none, 0, by rw [e, e0], fun k i hk => ?_⟩
    have := (List.getElem?_eq_some_iff.1 hk).1
    omega
  · refine ⟨some ⟨g, 0, none⟩, cap, hv, fun k i hk => ⟨g, rfl, ?_⟩⟩
    have hl := (List.getElem?_eq_some_iff.1 hk).1
    have : (cur.toList.take (G.length * 1))[k]? = some (.int .u64 (f i)) := by rw [htake]; simp [hk]
    rw [List.getElem?_take, if_pos (by omega)] at this
    have e2 : cur[k]? = some (.int .u64 (f i)) := by simpa using this
    simp [World.cell?, hg, e2]
theorem idx_spec5 : ∀ (G : List Nat) (i : Nat), i ∈ G → G[G.idxOf i]? = some i := by
  intro G i h
  have hl := List.idxOf_lt_length_iff.2 h
  rw [List.getElem?_eq_getElem hl]; simp
set_option maxRecDepth 100000 in
theorem see4_old (x : Int) (i k A : Nat) (w : World) (h : Sn w B ba bm bo p s r G v vo O) (h0 : 0 ≤ x) (h1 : x ≤ 18446744073709551615) (hA : (blkAt r i).ad = A) (hA1 : 1 ≤ A) (hA2 : A ≤ 100000) (g : (s.find x).1 = A) (hk : G[k]? = some i) (hj : ∀ j u, j ≠ k → G[j]? = some u → (blkAt r u).ad ≠ A) (hgl : G.length ≤ 100000) (hol : O.length ≤ 1000000) :
    Calls Try.prog 48 #[.int .u64 x, .pointer (some ⟨ba, 0, none⟩), .pointer (some ⟨bo, 0, none⟩), .pointer (some ⟨bm, 0, none⟩)] w fun e w' => SeeAs B ba bm bo p s r G (O ++ [(k : Int), (s.find x).2]) w e w' := by
  obtain ⟨c0, _⟩ := one_cell5 h.ha
  have HG : Hid (2 * (s.find x).1 = 2 * (A : Int)) := by show _ = _; omega
  have HH := hidden h
  have HK := hidden hk
  have HJ := hidden hj
  have HAA := hidden hA
  have hkl := (List.getElem?_eq_some_iff.1 hk).1
  have hz : ((2 * (A : Int)) == 0) = false := by rw [beq_eq_false_iff_ne]; omega
  clear g hk hj hA h
  go_enter Try.func48, Try.ntmps48
  go_wp2_with (go_at_call 49; refine (leads_at x (2 * (A : Int)) _ _ HH.out.ar h0 h1 HG.out rfl).mono ?_; rintro e w1 ⟨rfl, m, hw1⟩; have H1 := hidden (HH.out.is hw1); have B1 : Hid (Below B w w1) := (by rw [hw1]; exact below_drewN (Below.refl _ _) m); obtain ⟨d0, d1⟩ := one_cell5 H1.out.hm; obtain ⟨f0, f1⟩ := one_cell5 H1.out.ho; obtain ⟨al, cg, hvv, hcell⟩ := met_cell5 H1.out.hv; have HV := hidden hvv; rw [hvv] at d0; have HC := hidden hcell; clear hw1 hvv hcell)
  generalize hD : (s.find x).2 = D at *
  have HD := hidden hD
  clear hD
  go_loop [7, 24] (fun kv v => ∃ j : Nat, j ≤ G.length ∧ v = .int .i64 j ∧ kv = .int .i64 (if k < j then (k : Int) else -1)) (fun _ v => G.length - (intOf v).toNat)
  case atStart => exact ⟨0, Nat.zero_le _, rfl, rfl⟩
  case round =>
    obtain ⟨j, hj, rfl, rfl⟩ := hrel
    by_cases hlt : j < G.length
    · obtain ⟨gg, rfl, hcg⟩ := HC.out j _ (List.getElem?_eq_getElem hlt)
      have x1 : (0 : Int) ≤ (j : Int) := by omega
      have x2 : (j : Int) < (G.length : Int) := by omega
      by_cases ej : j = k
      · subst ej
        have e2 : (blkAt r G[j]).ad = A := by
          have h2 := HK.out
          rw [List.getElem?_eq_getElem hlt] at h2
          have h3 : G[j] = i := by simpa using h2
          rw [h3]; exact HAA.out
        rw [e2] at hcg
        have heq : ((2 * (A : Int)) == 2 * (A : Int)) = true := by rw [beq_iff_eq]
        have hi : (if j < j + 1 then (j : Int) else -1) = j := if_pos (by omega)
        have HI := hidden hi
        clear hi
        go_wp2
        go_round
        case rel => exact ⟨j + 1, by omega, by go_num, by rw [HI.out]⟩
        case measure => simp [intOf]; omega
      · have hne : ((2 * ((blkAt r G[j]).ad : Int)) == 2 * (A : Int)) = false := by
          rw [beq_eq_false_iff_ne]
          intro e
          exact HJ.out j _ ej (List.getElem?_eq_getElem hlt) (by omega)
        have hi : (if k < j + 1 then (k : Int) else -1) = (if k < j then (k : Int) else -1) := by
          by_cases c : k < j
          · rw [if_pos c, if_pos (by omega)]
          · rw [if_neg c, if_neg (by omega)]
        have HI := hidden hi
        clear hi
        generalize (if k < j then (k : Int) else -1) = kk at *
        generalize (blkAt r G[j]).ad = u at *
        go_wp2
        go_round
        case rel => exact ⟨j + 1, by omega, by go_num, by rw [HI.out]⟩
        case measure => simp [intOf]; omega
    · have hi : (if k < j then (k : Int) else -1) = k := if_pos (by omega)
      rw [hi]
      have k0 : ¬ ((k : Int) < 0) := by omega
      have hs1 := H1.out.size
      clear hi d0 d1
      go_wp2_with (at_builtin; refine append_two rfl (.tmp 43) (.tmp 46) rfl B vo O rfl (H1.out.hvo.alloc _) w1.heap.size 2 (k : Int) D rfl (two_new5 _ _ _ _) hol (by rw [nblk_alloc]; omega) ?_; intro g6 c6 w6 hr6 gr6; obtain ⟨n7, b7, e7⟩ := H1.out.told hr6 gr6; obtain ⟨m0, m1⟩ := one_cell5 e7; have N7 := hidden n7; have B7 := hidden (B1.out.trans b7); clear hr6 gr6 n7 b7 e7)
      go_end0
      rw [HD.out]
      exact ⟨rfl, v, _, N7.out, B7.out⟩
set_option maxRecDepth 100000 in
theorem see4_new (x : Int) (i A : Nat) (w : World) (h : Sn w B ba bm bo p s r G v vo O) (h0 : 0 ≤ x) (h1 : x ≤ 18446744073709551615) (hA : (blkAt r i).ad = A) (hA1 : 1 ≤ A) (hA2 : A ≤ 100000) (g : (s.find x).1 = A) (hj : ∀ (j u : Nat), G[j]? = some u → (blkAt r u).ad ≠ A) (hgl : G.length ≤ 100000) (hol : O.length ≤ 1000000) :
    Calls Try.prog 48 #[.int .u64 x, .pointer (some ⟨ba, 0, none⟩), .pointer (some ⟨bo, 0, none⟩), .pointer (some ⟨bm, 0, none⟩)] w fun e w' => SeeAs B ba bm bo p s r (G ++ [i]) (O ++ [(G.length : Int), (s.find x).2]) w e w' := by
  obtain ⟨al, cg, rfl, hdel⟩ := met_cell5 h.hv
  clear hdel
  obtain ⟨c0, _⟩ := one_cell5 h.ha
  have HG : Hid (2 * (s.find x).1 = 2 * (A : Int)) := by show _ = _; omega
  have HH := hidden h
  have HJ := hidden hj
  have HAA := hidden hA
  have hz : ((2 * (A : Int)) == 0) = false := by rw [beq_eq_false_iff_ne]; omega
  clear g hj hA h
  go_enter Try.func48, Try.ntmps48
  go_wp2_with (go_at_call 49; refine (leads_at x (2 * (A : Int)) _ _ HH.out.ar h0 h1 HG.out rfl).mono ?_; rintro e w1 ⟨rfl, m, hw1⟩; have H1 := hidden (HH.out.is hw1); have B1 : Hid (Below B w w1) := (by rw [hw1]; exact below_drewN (Below.refl _ _) m); obtain ⟨d0, d1⟩ := one_cell5 H1.out.hm; clear hw1)
  obtain ⟨al', cg', hvv, hcell⟩ := met_cell5 H1.out.hv
  have ev : al' = al := by simp at hvv; exact hvv.1.symm
  subst ev
  have HC := hidden hcell
  clear hcell hvv
  generalize hD : (s.find x).2 = D at *
  have HD := hidden hD
  clear hD
  go_loop [7, 24] (fun kv v => ∃ j : Nat, j ≤ G.length ∧ v = .int .i64 j ∧ kv = .int .i64 (-1)) (fun _ v => G.length - (intOf v).toNat)
  case atStart => exact ⟨0, Nat.zero_le _, rfl, rfl⟩
  case round =>
    obtain ⟨j, hj, rfl, rfl⟩ := hrel
    by_cases hlt : j < G.length
    · obtain ⟨gg, rfl, hcg⟩ := HC.out j _ (List.getElem?_eq_getElem hlt)
      have x1 : (0 : Int) ≤ (j : Int) := by omega
      have x2 : (j : Int) < (G.length : Int) := by omega
      have hne : ((2 * ((blkAt r G[j]).ad : Int)) == 2 * (A : Int)) = false := by
        rw [beq_eq_false_iff_ne]
        intro e
        exact HJ.out j _ (List.getElem?_eq_getElem hlt) (by omega)
      generalize (blkAt r G[j]).ad = u at *
      go_wp2
      go_round
      case rel => exact ⟨j + 1, by omega, by go_num, rfl⟩
      case measure => simp [intOf]; omega
    · have hs1 := H1.out.size
      go_upto_region 13 with (at_builtin; refine wpList_append_one rfl (.tmp 39) (.tmp 41) rfl B _ G.length _ rfl (H1.out.hv.alloc _) ⟨w1.heap.size, 0, none⟩ 1 (2 * (A : Int)) rfl (by simp [Addr.add]) (by omega) (by rw [nblk_alloc]; omega) ?_; intro g6 cap6 w6 ho6 gr6 hg6; obtain ⟨n7, b7, e7⟩ := Sn.noted (i := i) H1.out (by rw [HAA.out]; exact ho6) gr6; obtain ⟨m0, m1⟩ := one_cell5 e7; have N7 := hidden n7; have B7 := hidden (B1.out.trans b7); clear ho6 gr6 n7 b7 e7)
      clear m0 m1 d0 d1
      generalize w6.setCell ⟨bm, 0, none⟩ (.slice (some ⟨g6, 0, none⟩) (G.length + 1) cap6) = w7 at *
      have hs7 := N7.out.size
      obtain ⟨f0, f1⟩ := one_cell5 N7.out.ho
      go_wp2_with (at_builtin; refine append_two rfl (.tmp 43) (.tmp 46) rfl B vo O rfl (N7.out.hvo.alloc _) w7.heap.size 2 (G.length : Int) D rfl (two_new5 _ _ _ _) hol (by rw [nblk_alloc]; omega) ?_; intro g8 c8 w8 hr8 gr8; obtain ⟨n9, b9, e9⟩ := N7.out.told hr8 gr8; obtain ⟨p0, p1⟩ := one_cell5 e9; have N9 := hidden n9; have B9 := hidden (B7.out.trans b9); clear hr8 gr8 n9 b9 e9)
      go_end0
      rw [HD.out]
      exact ⟨rfl, _, _, N9.out, B9.out⟩
/-- What the closure tells of any word, and what it notes. -/
theorem see4_any (x : Int) (w : World) (hr : Rep s r) (hG : GoodG r G) (h : Sn w B ba bm bo p s r G v vo O) (h0 : 0 ≤ x) (h1 : x ≤ 18446744073709551615) (hol : O.length ≤ 1000000) :
    Calls Try.prog 48 #[.int .u64 x, .pointer (some ⟨ba, 0, none⟩), .pointer (some ⟨bo, 0, none⟩), .pointer (some ⟨bm, 0, none⟩)] w fun e w' => SeeAs B ba bm bo p s r (visit s r G x) (O ++ two4 (gNode s r (visit s r G x) x)) w e w' := by
  have t2 := h.ar.t2; have n2 := h.ar.n2; have bb := h.ar.b1
  have hgl : G.length ≤ 100000 := by
    have := (goodG_len hG).2
    have := lenB_length' r.L
    have := hr.top
    omega
  rcases lead_cases hr x with ⟨hf, e⟩ | ⟨i, b, hb, hf, e⟩
  · rw [visit_none e, gNode_none e]
    exact see4_none x w h h0 h1 hf hol
  · have hin := hr.inside hb
    have hbk := blkAt_of hb
    by_cases hi : i ∈ G
    · rw [visit_old e hi, gNode_some e]
      have ht : two4 (((G.idxOf i : Nat) : Int), (s.find x).2, 0) = [((G.idxOf i : Nat) : Int), (s.find x).2] := by unfold two4; rw [if_neg (by simp)]
      rw [ht]
      refine see4_old x i (G.idxOf i) b.ad w h h0 h1 (by rw [hbk]) (by omega) (by omega) hf (idx_spec5 G i hi) ?_ hgl hol
      intro j u hj hu e2
      have hul := hG.2 u (List.mem_of_getElem? hu)
      have := hr.inj (blkAt_some hul) hb e2
      subst this
      exact hj (idxOf_at hG.1 hu).symm
    · rw [visit_new e hi, gNode_some e]
      have hx : (G ++ [i]).idxOf i = G.length := by rw [List.idxOf_append, if_neg hi, List.idxOf_cons_self]; omega
      rw [hx]
      have ht : two4 (((G.length : Nat) : Int), (s.find x).2, 0) = [((G.length : Nat) : Int), (s.find x).2] := by unfold two4; rw [if_neg (by simp)]
      rw [ht]
      refine see4_new x i b.ad w h h0 h1 (by rw [hbk]) (by omega) (by omega) hf ?_ hgl hol
      intro j u hu e2
      have hul := hG.2 u (List.mem_of_getElem? hu)
      have := hr.inj (blkAt_some hul) hb e2
      subst this
      exact hi (List.mem_of_getElem? hu)
end Go.Proofs.Ytjnlfnecmiklhaa

/-
  Layer 4's statements: what their comparisons say of rows that hold the same.
-/
namespace Go.Proofs.Ytjnlfnecmiklhaa
open Go.ChangeShapes Go.WideShapes Go.ChangeAt Go.RowKit Go.Deep
set_option linter.unusedVariables false
set_option maxHeartbeats 1000000

/-- A slice of numbers lies in memory. -/
structure IS (w : World) (al : Option Addr) (m : Nat) (X : Nat → Int) : Prop where
  cell : ∀ i, i < m → ∃ ad, al = some ad ∧ w.cell? (ad.add i) = some (.int .i64 (X i))
theorem IS.frame {w w' : World} {al : Option Addr} {m : Nat} {X : Nat → Int} {S : Nat → Prop} (h : IS w al m X) (k : Only S w w') (hs : ∀ ad, al = some ad → 0 < m → ¬ S ad.block) : IS w' al m X := by
  refine ⟨fun i hi => ?_⟩
  obtain ⟨ad, e, hc⟩ := h.cell i hi
  refine ⟨ad, e, (World.cell?_of_block (w := w) (k.block _ (cell_lt hc) ?_)).trans hc⟩
  rw [add_block]; exact hs ad e (by omega)
/-- What went wrong, in a row. -/
theorem is_of_row {w : World} {B g n c : Nat} {e : TypeId} {E : Nat → Int} (h : w.ownsRow B e 1 (.slice (some ⟨g, 0, none⟩) n c) n (rowE E n)) : IS w (some ⟨g, 0, none⟩) n E := by
  rcases h.2 with ⟨h', _⟩ | ⟨g', cap', cur, h', hb, hg, hnc, _, hcs, htake⟩
  · simp at h'
  · simp only [Value.slice.injEq, Option.some.injEq, Addr.mk.injEq, and_true, true_and] at h'
    obtain ⟨rfl, rfl⟩ := h'
    refine ⟨fun i hi => ⟨_, rfl, ?_⟩⟩
    have : (cur.toList.take (n * 1))[i]? = some (.int .i64 (E i)) := by rw [htake]; unfold rowE; simp [hi]
    rw [List.getElem?_take, if_pos (by omega)] at this
    have e : (Addr.mk g 0 none).add i = ⟨g, i, none⟩ := by
      cases i with
      | zero => rfl
      | succ i => simp [Addr.add]
    rw [e]
    have h2 : cur[i]? = some (.int .i64 (E i)) := by simpa using this
    simp [World.cell?, hg, h2]
theorem same4_yes {a1 a2 : Option Addr} {m c1 c2 : Nat} {X Y : Nat → Int} (w : World) (h1 : WS w a1 m c1 X) (h2 : WS w a2 m c2 Y) (hm : m ≤ maxLen) (he : ∀ i, i < m → X i = Y i) :
    Calls Try.prog 13 #[.slice a1 m c1, .slice a2 m c2] w fun e w' => e = .returned (.bool true) ∧ ∃ k, w' = w.drewN k := by
  unfold maxLen at hm
  have HE : Hid _ := he
  clear he
  go_enter Try.func13, Try.ntmps13
  go_wp2
  go_loopw [13] (fun i wr => ∃ j k : Nat, j ≤ m ∧ i = .int .i64 j ∧ wr = w.drewN k) (fun i _ => m - (intOf i).toNat)
  case atStart => exact ⟨0, 0, Nat.zero_le _, rfl, rfl⟩
  case round =>
    obtain ⟨j, k, hj, rfl, hw⟩ := hrel
    have HW : Hid _ := hw
    by_cases hlt : j < m
    · obtain ⟨x, rfl, hx⟩ := h1.cell j hlt
      obtain ⟨y, rfl, hy⟩ := h2.cell j hlt
      have hx' : wr.cell? (x.add j) = some (.int .u64 (X j)) := by rw [hw]; exact hx
      have hy' : wr.cell? (y.add j) = some (.int .u64 (X j)) := by rw [hw, HE.out j hlt]; exact hy
      have x1 : (0 : Int) ≤ (j : Int) := by omega
      have x2 : (j : Int) < (m : Int) := by omega
      clear hw hx hy
      go_wp2
      go_quiet (fail)
      go_wp2
      go_roundw
      case rel => exact ⟨j + 1, _, by omega, by go_num, by rw [HW.out]; exact World.drewN_drewN _ _ _⟩
      case measure => simp [intOf]; omega
    · clear hw
      go_wp2
      go_ret
      exact ⟨rfl, k, HW.out⟩
theorem sameErrs_yes {a1 a2 : Option Addr} {m c1 c2 : Nat} {X Y : Nat → Int} (w : World) (h1 : IS w a1 m X) (h2 : IS w a2 m Y) (hm : m ≤ maxLen) (he : ∀ i, i < m → X i = Y i) :
    Calls Try.prog 14 #[.slice a1 m c1, .slice a2 m c2] w fun e w' => e = .returned (.bool true) ∧ ∃ k, w' = w.drewN k := by
  unfold maxLen at hm
  have HE : Hid _ := he
  clear he
  go_enter Try.func14, Try.ntmps14
  go_wp2
  go_loopw [13] (fun i wr => ∃ j k : Nat, j ≤ m ∧ i = .int .i64 j ∧ wr = w.drewN k) (fun i _ => m - (intOf i).toNat)
  case atStart => exact ⟨0, 0, Nat.zero_le _, rfl, rfl⟩
  case round =>
    obtain ⟨j, k, hj, rfl, hw⟩ := hrel
    have HW : Hid _ := hw
    by_cases hlt : j < m
    · obtain ⟨x, rfl, hx⟩ := h1.cell j hlt
      obtain ⟨y, rfl, hy⟩ := h2.cell j hlt
      have hx' : wr.cell? (x.add j) = some (.int .i64 (X j)) := by rw [hw]; exact hx
      have hy' : wr.cell? (y.add j) = some (.int .i64 (X j)) := by rw [hw, HE.out j hlt]; exact hy
      have x1 : (0 : Int) ≤ (j : Int) := by omega
      have x2 : (j : Int) < (m : Int) := by omega
      clear hw hx hy
      go_wp2
      go_quiet (fail)
      go_wp2
      go_roundw
      case rel => exact ⟨j + 1, _, by omega, by go_num, by rw [HW.out]; exact World.drewN_drewN _ _ _⟩
      case measure => simp [intOf]; omega
    · clear hw
      go_wp2
      go_ret
      exact ⟨rfl, k, HW.out⟩
theorem sameNums_yes {a1 a2 : Option Addr} {m c1 c2 : Nat} {X Y : Nat → Int} (w : World) (h1 : IS w a1 m X) (h2 : IS w a2 m Y) (hm : m ≤ maxLen) (he : ∀ i, i < m → X i = Y i) :
    Calls Try.prog 24 #[.slice a1 m c1, .slice a2 m c2] w fun e w' => e = .returned (.bool true) ∧ ∃ k, w' = w.drewN k := by
  unfold maxLen at hm
  have HE : Hid _ := he
  clear he
  go_enter Try.func24, Try.ntmps24
  go_wp2
  go_loopw [13] (fun i wr => ∃ j k : Nat, j ≤ m ∧ i = .int .i64 j ∧ wr = w.drewN k) (fun i _ => m - (intOf i).toNat)
  case atStart => exact ⟨0, 0, Nat.zero_le _, rfl, rfl⟩
  case round =>
    obtain ⟨j, k, hj, rfl, hw⟩ := hrel
    have HW : Hid _ := hw
    by_cases hlt : j < m
    · obtain ⟨x, rfl, hx⟩ := h1.cell j hlt
      obtain ⟨y, rfl, hy⟩ := h2.cell j hlt
      have hx' : wr.cell? (x.add j) = some (.int .i64 (X j)) := by rw [hw]; exact hx
      have hy' : wr.cell? (y.add j) = some (.int .i64 (X j)) := by rw [hw, HE.out j hlt]; exact hy
      have x1 : (0 : Int) ≤ (j : Int) := by omega
      have x2 : (j : Int) < (m : Int) := by omega
      clear hw hx hy
      go_wp2
      go_quiet (fail)
      go_wp2
      go_roundw
      case rel => exact ⟨j + 1, _, by omega, by go_num, by rw [HW.out]; exact World.drewN_drewN _ _ _⟩
      case measure => simp [intOf]; omega
    · clear hw
      go_wp2
      go_ret
      exact ⟨rfl, k, HW.out⟩
end Go.Proofs.Ytjnlfnecmiklhaa

/-
  Layer 4's statements: what their seen tells of the held words: of each whether it is a number or a block, and of each block in reach, in the order in which they are met, its tag, its size and what its fields are. Condition: the arena lies in memory, in one state with a list of blocks, and no text is in reach.
-/
namespace Go.Proofs.Ytjnlfnecmiklhaa
open Go.ChangeShapes Go.WideShapes Go.ChangeAt Go.RowKit Go.Deep
set_option linter.unusedVariables false
set_option maxHeartbeats 2000000
variable {p : Pl} {s : St} {r : RS}

/-- The world in which seen begins. -/
def sW (w : World) (pa : Nat) : World := ((((w.alloc (.cells #[.pointer (some ⟨pa, 0, none⟩)] 47)).alloc (.cells #[] 54)).alloc (.cells #[.slice (some ⟨w.heap.size + 1, 0, none⟩) 0 0] 28)).alloc (.cells #[] 2)).alloc (.cells #[.slice (some ⟨w.heap.size + 1 + 1 + 1, 0, none⟩) 0 0] 64)
theorem five_new (w : World) (o0 o1 o2 o3 o4 : Obj) : let W := ((((w.alloc o0).alloc o1).alloc o2).alloc o3).alloc o4
    W.heap[w.heap.size]? = some o0 ∧ W.heap[w.heap.size + 1]? = some o1 ∧ W.heap[w.heap.size + 2]? = some o2 ∧ W.heap[w.heap.size + 3]? = some o3 ∧ W.heap[w.heap.size + 4]? = some o4 ∧ Below w.heap.size w W := by
  intro W
  refine ⟨?_, ?_, ?_, ?_, ?_, ((((((Below.refl w.heap.size w).alloc (Nat.le_refl _) _).alloc (by rw [nblk_alloc]; omega) _).alloc (by rw [nblk_alloc, nblk_alloc]; omega) _).alloc (by rw [nblk_alloc, nblk_alloc, nblk_alloc]; omega) _).alloc (by rw [nblk_alloc, nblk_alloc, nblk_alloc, nblk_alloc]; omega) _)⟩
  · show (((((w.alloc o0).alloc o1).alloc o2).alloc o3).alloc o4).heap[_]? = _
    rw [blk_alloc_lt _ _ _ (by simp only [nblk_alloc]; omega), blk_alloc_lt _ _ _ (by simp only [nblk_alloc]; omega), blk_alloc_lt _ _ _ (by simp only [nblk_alloc]; omega), blk_alloc_lt _ _ _ (by simp only [nblk_alloc]; omega)]
    exact blk_alloc_new _ _
  · show (((((w.alloc o0).alloc o1).alloc o2).alloc o3).alloc o4).heap[_]? = _
    rw [blk_alloc_lt _ _ _ (by simp only [nblk_alloc]; omega), blk_alloc_lt _ _ _ (by simp only [nblk_alloc]; omega), blk_alloc_lt _ _ _ (by simp only [nblk_alloc]; omega)]
    have := blk_alloc_new (w.alloc o0) o1
    rw [nblk_alloc] at this; exact this
  · show (((((w.alloc o0).alloc o1).alloc o2).alloc o3).alloc o4).heap[_]? = _
    rw [blk_alloc_lt _ _ _ (by simp only [nblk_alloc]; omega), blk_alloc_lt _ _ _ (by simp only [nblk_alloc]; omega)]
    have := blk_alloc_new ((w.alloc o0).alloc o1) o2
    rw [nblk_alloc, nblk_alloc] at this; exact this
  · show (((((w.alloc o0).alloc o1).alloc o2).alloc o3).alloc o4).heap[_]? = _
    rw [blk_alloc_lt _ _ _ (by simp only [nblk_alloc]; omega)]
    have := blk_alloc_new (((w.alloc o0).alloc o1).alloc o2) o3
    rw [nblk_alloc, nblk_alloc, nblk_alloc] at this; exact this
  · show (((((w.alloc o0).alloc o1).alloc o2).alloc o3).alloc o4).heap[_]? = _
    have := blk_alloc_new ((((w.alloc o0).alloc o1).alloc o2).alloc o3) o4
    rw [nblk_alloc, nblk_alloc, nblk_alloc, nblk_alloc] at this; exact this
theorem empty_row5 {w : World} {B g : Nat} {e : TypeId} {sz : Nat} (h : w.heap[g]? = some (.cells #[] e (0, 0))) (hB : B ≤ g) : w.ownsRow B e sz (.slice (some ⟨g, 0, none⟩) 0 0) 0 [] :=
  ⟨by simp, .inr ⟨g, 0, #[], rfl, hB, h, Nat.le_refl _, Nat.zero_le _, by simp, by simp⟩⟩
theorem sW_sn {w : World} (h : Ar w p s) (r : RS) : Sn (sW w p.a) w.heap.size w.heap.size (w.heap.size + 2) (w.heap.size + 4) p s r [] (.slice (some ⟨w.heap.size + 1, 0, none⟩) 0 0) (.slice (some ⟨w.heap.size + 3, 0, none⟩) 0 0) [] ∧ Below w.heap.size w (sW w p.a) := by
  obtain ⟨h0, h1, h2, h3, h4, hb⟩ := five_new w (.cells #[.pointer (some ⟨p.a, 0, none⟩)] 47) (.cells #[] 54) (.cells #[.slice (some ⟨w.heap.size + 1, 0, none⟩) 0 0] 28) (.cells #[] 2) (.cells #[.slice (some ⟨w.heap.size + 1 + 1 + 1, 0, none⟩) 0 0] 64)
  exact ⟨⟨h0, h2, h4, empty_row5 h1 (by omega), empty_row5 h3 (by omega), h.frame (S := fun _ => False) (Only.of_below hb) id id id id, ⟨lt_of_some h.ha, lt_of_some h.hh, h.hc.lt, h.hb.lt⟩, by omega, by omega, by omega⟩, hb⟩
/-- What seen hands back. -/
def SeenAs (O : List Int) (w : World) (e : Ending) (w' : World) : Prop := ∃ g c, e = .returned (.slice (some ⟨g, 0, none⟩) O.length c) ∧ IS w' (some ⟨g, 0, none⟩) O.length (fun i => O.getD i 0) ∧ w.heap.size ≤ g ∧ Below w.heap.size w w'
theorem nums_is {w : World} {B g c : Nat} {O : List Int} (h : w.ownsRow B 2 1 (.slice (some ⟨g, 0, none⟩) O.length c) O.length (nums O)) : IS w (some ⟨g, 0, none⟩) O.length (fun i => O.getD i 0) ∧ B ≤ g := by
  refine ⟨is_of_row (B := B) (c := c) (e := 2) ?_, own_ge h g rfl⟩
  have e : rowE (fun i => O.getD i 0) O.length = nums O := by
    unfold rowE nums
    refine List.ext_getElem? (fun k => ?_)
    rw [List.getElem?_map, List.getElem?_map]
    by_cases hk : k < O.length
    · rw [List.getElem?_range hk, List.getElem?_eq_getElem hk]
      simp [List.getD_eq_getElem?_getD, List.getElem?_eq_getElem hk]
    · rw [List.getElem?_eq_none (by simpa using hk), List.getElem?_eq_none (by omega)]; rfl
  rw [e]; exact h
theorem vo_slice {w : World} {B : Nat} {v : Value} {O : List Int} (h : w.ownsRow B 2 1 v O.length (nums O)) (hO : O ≠ []) : ∃ g c, v = .slice (some ⟨g, 0, none⟩) O.length c := by
  rcases h.2 with ⟨e, e0⟩ | ⟨g, cap, cur, hv, _⟩
  · exact absurd (List.length_eq_zero_iff.1 e0) hO
  · exact ⟨g, cap, hv⟩
theorem met_at5 {w : World} {B ba bm bo g c k i : Nat} {vo : Value} {G : List Nat} {O : List Int} (h : Sn w B ba bm bo p s r G (.slice (some ⟨g, 0, none⟩) G.length c) vo O) (hk : G[k]? = some i) : w.cell? ⟨g, k, none⟩ = some (.int .u64 (2 * ((blkAt r i).ad : Int))) := by
  obtain ⟨al, c', e, hc⟩ := met_cell5 h.hv
  simp only [Value.slice.injEq] at e
  obtain ⟨rfl, _, rfl⟩ := e
  obtain ⟨g', e2, hc'⟩ := hc k i hk
  have : g = g' := by simpa using e2
  subst this
  exact hc'
theorem field5 {w : World} (ha : Ar w p s) (h : Rep s r) {i : Nat} (hi : i < r.L.length) (j : Nat) : 0 ≤ (blkAt r i).F.getD j 0 ∧ (blkAt r i).F.getD j 0 ≤ 18446744073709551615 := by
  have hb := blkAt_some hi
  rw [List.getD_eq_getElem?_getD]
  by_cases hj : j < (blkAt r i).F.length
  · have e := h.fld i _ hb j _ (List.getElem?_eq_getElem hj)
    rw [List.getElem?_eq_getElem hj]
    have h1 := ha.lo ((blkAt r i).ad + j)
    have h2 := ha.hi ((blkAt r i).ad + j)
    rw [e] at h1 h2
    exact ⟨h1, h2⟩
  · rw [List.getElem?_eq_none (by omega)]
    exact ⟨Int.le_refl _, by decide⟩
/-- Behind i blocks. -/
def OutR5 (w0 wr : World) (bm bo : Nat) (p : Pl) (s : St) (r : RS) (X : Nat → Int) (m : Nat) (iv : Value) : Prop := ∃ (i : Nat) (v vo : Value), iv = .int .i64 i ∧ i ≤ (scans s r (listX X m) i).length ∧ Sn wr w0.heap.size w0.heap.size bm bo p s r (scans s r (listX X m) i) v vo (outU s r (listX X m) i) ∧ Below w0.heap.size w0 wr
/-- Behind k fields of a block. -/
def InR5 (w0 wr : World) (bm bo : Nat) (p : Pl) (s : St) (r : RS) (X : Nat → Int) (m i g : Nat) (kv : Value) : Prop := ∃ (k : Nat) (v vo : Value), kv = .int .i64 k ∧ k ≤ (blkAt r g).F.length ∧ Sn wr w0.heap.size w0.heap.size bm bo p s r (in5 s r (scans s r (listX X m) i) (blkAt r g) k) v vo (outU s r (listX X m) i ++ ([(blkAt r g).tag, ((blkAt r g).F.length : Int)] ++ outF s r (reachG s r (listX X m)) ((blkAt r g).F.take k))) ∧ Below w0.heap.size w0 wr
set_option maxRecDepth 100000 in
theorem seen_any {al : Option Addr} {m c : Nat} {X : Nat → Int} (w : World) (h : Ar w p s) (hr : Rep s r) (hx : WS w al m c X) (hm : m ≤ 1000) (hm0 : 0 < m) (hnt : ∀ i, i ∈ reachG s r (listX X m) → (blkAt r i).tag ≠ 202) :
    Calls Try.prog 25 #[.pointer (some ⟨p.a, 0, none⟩), .slice al m c] w fun e w' => SeenAs (seenL s r (listX X m)) w e w' := by
  have hmf : ∀ (fn : Fn) (first cap : Array Value) (w : World), (Instr.makeFunc fn first cap).run Try.prog w = .ok (.func fn first cap) w := fun _ _ _ _ => rfl
  have HWS : Hid (∀ wr, Below w.heap.size w wr → WS wr al m c X) := fun wr k => hx.below k
  have HR := hidden hr
  have HNT := hidden hnt
  obtain ⟨hM0, hB0⟩ := sW_sn h r
  have HM0 := hidden hM0
  have HB0 := hidden hB0
  have HLB : Hid (lenB r.L ≤ 32768) := by
    have n2 := h.n2; have t2 := h.t2; have htop := hr.top
    show _ ≤ _
    omega
  have hlx : (listX X m).length = m := by unfold listX; simp
  have HLX := hidden hlx
  clear hx hr hM0 hB0 hnt hlx
  go_enter Try.func25, Try.ntmps25
  go_wp2_with fail
  rw [show ((((w.alloc (.cells #[.pointer (some ⟨p.a, 0, none⟩)] 47)).alloc (.cells #[] 54)).alloc (.cells #[.slice (some ⟨w.heap.size + 1, 0, none⟩) 0 0] 28)).alloc (.cells #[] 2)).alloc (.cells #[.slice (some ⟨w.heap.size + 1 + 1 + 1, 0, none⟩) 0 0] 64) = sW w p.a from rfl, show w.heap.size + 1 + 1 + 1 + 1 = w.heap.size + 4 from rfl, show w.heap.size + 1 + 1 = w.heap.size + 2 from rfl]
  obtain ⟨bm, hbm⟩ : ∃ bm, bm = w.heap.size + 2 := ⟨_, rfl⟩
  obtain ⟨bo, hbo⟩ : ∃ bo, bo = w.heap.size + 4 := ⟨_, rfl⟩
  rw [← hbm, ← hbo] at HM0 ⊢
  clear hbm hbo
  generalize sW w p.a = w0 at *
  go_loopw [18] (fun iv wr => ∃ (j : Nat) (v vo : Value), j ≤ m ∧ iv = .int .i64 j ∧ Sn wr w.heap.size w.heap.size bm bo p s r (visits s r [] (listX X j)) v vo (outF s r (reachG s r (listX X m)) (listX X j)) ∧ Below w.heap.size w wr) (fun i _ => m - (intOf i).toNat)
  case atStart => exact ⟨0, _, _, Nat.zero_le _, rfl, HM0.out, HB0.out⟩
  case round =>
    clear HM0 HB0 h
    obtain ⟨j, v, vo, hj, rfl, hM, hb⟩ := hrel
    by_cases hlt : j < m
    · have hx := HWS.out wr hb
      obtain ⟨x, rfl, hxc⟩ := hx.cell j hlt
      have z0 := hx.lo j hlt
      have z1 := hx.hi j hlt
      have x1 : (0 : Int) ≤ (j : Int) := by omega
      have x2 : (j : Int) < (m : Int) := by omega
      have HG : Hid (GoodG r (visits s r [] (listX X j))) := visits_good HR.out _ (goodG_nil r)
      have HVS : Hid _ := visits_step5 s r [] X j
      have HOS : Hid _ := outF_step (s := s) (r := r) (reachG s r (listX X m)) X j
      have HGN : Hid (gNode s r (visit s r (visits s r [] (listX X j)) (X j)) (X j) = gNode s r (reachG s r (listX X m)) (X j)) := by
        obtain ⟨T, hT⟩ := first_pre5 (s := s) (r := r) X (show j + 1 ≤ m by omega)
        rw [HVS.out] at hT
        exact gNode_see5 hT
      have HOL : Hid ((outF s r (reachG s r (listX X m)) (listX X j)).length ≤ 1000000) := by
        show _ ≤ _
        rw [outF_len]
        have : (listX X j).length = j := by unfold listX; simp
        omega
      have HBR := hidden hb
      have HM := hidden hM
      clear hx hb hM
      go_wp2_with (go_at_call 48; refine (see4_any (X j) _ HR.out HG.out HM.out z0 z1 HOL.out).mono ?_; rintro e w3 ⟨rfl, v3, vo3, hM3, b3⟩; rw [HGN.out, ← HVS.out, ← HOS.out] at hM3; have M3 := hidden hM3; have B3 := hidden (HBR.out.trans b3); clear hM3 b3)
      go_roundw
      case rel => exact ⟨j + 1, v3, vo3, by omega, by go_num, M3.out, B3.out⟩
      case measure => simp [intOf]; omega
    · have ej : j = m := by omega
      have hnl : ¬ ((j : Int) < (m : Int)) := by omega
      have hM0 : OutR5 w wr bm bo p s r X m (.int .i64 0) := by
        subst ej
        refine ⟨0, v, vo, rfl, Nat.zero_le _, ?_, hb⟩
        have e : outU s r (listX X j) 0 = outF s r (reachG s r (listX X j)) (listX X j) := by unfold outU; rw [List.take_zero]; exact List.append_nil _
        rw [e]; exact hM
      have H0 := hidden hM0
      clear hM hb ej hlt hM0 hj
      go_wp2_with fail
      go_loopw [9] (fun iv wr => OutR5 w wr bm bo p s r X m iv) (fun i _ => r.L.length - (intOf i).toNat)
      case atStart => exact H0.out
      case round =>
        clear H0 HWS
        obtain ⟨i, v, vo, rfl, hi, hM, hb⟩ := hrel
        have hG := scans_good HR.out (listX X m) i
        obtain ⟨_, g2⟩ := goodG_len hG
        have hbd : r.L.length ≤ 32768 := by have := HLB.out; have := lenB_length' r.L; omega
        obtain ⟨al', cg, rfl, hcell⟩ := met_cell5 hM.hv
        obtain ⟨c0, c0f⟩ := one_cell5 hM.ha
        obtain ⟨c1, c1f⟩ := one_cell5 hM.hm
        obtain ⟨c2, c2f⟩ := one_cell5 hM.ho
        by_cases hlt : i < (scans s r (listX X m) i).length
        · obtain ⟨g, hg⟩ : ∃ g, (scans s r (listX X m) i)[i]? = some g := ⟨_, List.getElem?_eq_getElem hlt⟩
          obtain ⟨gv, rfl, hc⟩ := hcell i g hg
          have hgl : g < r.L.length := hG.2 g (List.mem_of_getElem? hg)
          have hbk := blkAt_some hgl
          have hin := HR.out.inside hbk
          have n2 := hM.ar.n2; have t2 := hM.ar.t2; have b1 := hM.ar.b1
          have hl2 := (goodG_len (scans_good HR.out (listX X m) i)).2
          obtain ⟨T1, h1⟩ := scans_ext (s := s) (r := r) (listX X m) (show i ≤ r.L.length by omega)
          have HPRE : Hid (reachG s r (listX X m) = scans s r (listX X m) i ++ T1) := h1
          have HNG : Hid ((blkAt r g).tag ≠ 202) := HNT.out g (by rw [HPRE.out]; exact List.mem_append_left _ (List.mem_of_getElem? hg))
          have HOU : Hid (outU s r (listX X m) (i + 1) = outU s r (listX X m) i ++ outB s r (reachG s r (listX X m)) g) := outU_succ HPRE.out hg
          have HUL : Hid ((outU s r (listX X m) i).length ≤ 100000) := by
            have h1 := outU_len HR.out (xs := listX X m) i
            rw [HLX.out] at h1
            have h2 := HLB.out
            show _ ≤ _
            omega
          obtain ⟨y, hy⟩ : ∃ y : Int, y = 2 * ((blkAt r g).ad : Int) := ⟨_, rfl⟩
          rw [← hy] at hc
          have HY : Hid _ := hy
          have y0 : 0 ≤ y := by omega
          have y1 : y ≤ 18446744073709551615 := by omega
          have HTG : Hid (s.tag y = (blkAt r g).tag) := by show _ = _; rw [hy]; exact HR.out.tagOf hbk (by omega)
          have HSZ : Hid (s.size y = ((blkAt r g).F.length : Int)) := by show _ = _; rw [hy]; exact (HR.out.word hbk (by omega)).2
          have HGT : Hid (∀ k, k < (blkAt r g).F.length → s.get y k = (blkAt r g).F.getD k 0 ∧ s.fieldE y k = 0) := fun k hk => by rw [hy]; exact HR.out.fieldOf hbk (by omega) hk
          have HFIT : Hid s.Fits := HR.out.fits
          have HFL : Hid ((blkAt r g).F.length ≤ 4096) := (HR.out.tag g _ hbk).2.2
          have HHG : Hid _ := hg
          have HGG : Hid (GoodG r (scans s r (listX X m) i)) := hG
          have x1 : (0 : Int) ≤ (i : Int) := by omega
          have x2 : (i : Int) < ((scans s r (listX X m) i).length : Int) := by omega
          have HBR : Hid _ := hb
          have HMM : Hid _ := hM
          clear hcell hy hbk hin t2 b1 hg hG hb h1 hM
          obtain ⟨tg, htg⟩ : ∃ tg, tg = (blkAt r g).tag := ⟨_, rfl⟩
          rw [← htg] at HTG
          have HTGE : Hid _ := htg
          clear htg
          obtain ⟨fl, hfl⟩ : ∃ fl, fl = (blkAt r g).F.length := ⟨_, rfl⟩
          rw [← hfl] at HSZ HGT HFL
          have HFLE : Hid _ := hfl
          clear hfl
          go_wp2_with fail
          refine region_till (S := (fun w' => w'.cell? ⟨bo, 0, none⟩ = some vo ∧ w'.cell? ⟨w.heap.size, 0, none⟩ = some (.pointer (some ⟨p.a, 0, none⟩)) ∧ w'.cell? ⟨bm, 0, none⟩ = some (.slice (some ⟨gv, 0, none⟩) (scans s r (listX X m) i).length cg) ∧ w'.cell? ⟨gv, i, none⟩ = some (.int .u64 y))) (kz := 15) (by kernel_rfl) ⟨c2, c0, c1, hc⟩ (fun hHeld => ?_)
          refine AnyTill.take (i := 0) (oi := { dst := some 34, op := Op.load 64 (Operand.tmp 6), type := 64, pos := "law.go:180", after := #[], guard := none }) (v := ?_) rfl (by kernel_rfl) (by kernel_rfl) (by kernel_rfl) (by kernel_rfl) (fun _ _ _ h => h) (Or.inl ⟨by rfl, ?_⟩) hHeld ?_
          rotate_left
          · (intro w hSw; (try dsimp only at hSw); go_simp; (try with_reducible rfl))
          (try simp only [Act.put, List.setIfInBounds_toArray, List.set_cons_zero, List.set_cons_succ])
          refine AnyTill.take (i := 1) (oi := { dst := some 35, op := Op.load 47 (Operand.tmp 2), type := 47, pos := "law.go:180", after := #[], guard := none }) (v := ?_) rfl (by kernel_rfl) (by kernel_rfl) (by kernel_rfl) (by kernel_rfl) (fun _ _ _ h => h) (Or.inl ⟨by rfl, ?_⟩) hHeld ?_
          rotate_left
          · (intro w hSw; (try dsimp only at hSw); go_simp; (try with_reducible rfl))
          (try simp only [Act.put, List.setIfInBounds_toArray, List.set_cons_zero, List.set_cons_succ])
          refine AnyTill.take (i := 2) (oi := { dst := some 36, op := Op.load 28 (Operand.tmp 5), type := 28, pos := "law.go:180", after := #[], guard := none }) (v := ?_) rfl (by kernel_rfl) (by kernel_rfl) (by kernel_rfl) (by kernel_rfl) (fun _ _ _ h => h) (Or.inl ⟨by rfl, ?_⟩) hHeld ?_
          rotate_left
          · (intro w hSw; (try dsimp only at hSw); go_simp; (try with_reducible rfl))
          (try simp only [Act.put, List.setIfInBounds_toArray, List.set_cons_zero, List.set_cons_succ])
          refine AnyTill.take (i := 3) (oi := { dst := some 37, op := Op.move (Operand.tmp 9), type := 3, pos := "law.go:180", after := #[], guard := none }) (v := ?_) rfl (by kernel_rfl) (by kernel_rfl) (by kernel_rfl) (by kernel_rfl) (fun _ _ _ h => h) (Or.inl ⟨by rfl, ?_⟩) hHeld ?_
          rotate_left
          · (intro w hSw; (try dsimp only at hSw); go_simp; (try with_reducible rfl))
          (try simp only [Act.put, List.setIfInBounds_toArray, List.set_cons_zero, List.set_cons_succ])
          refine AnyTill.take (i := 4) (oi := { dst := some 38, op := Op.indexAddr 28 (Operand.tmp 36) (Operand.tmp 37), type := 0, pos := "law.go:180", after := #[{ on := 2, ground := Ground.data }, { on := 3, ground := Ground.data }], guard := none }) (v := ?_) rfl (by kernel_rfl) (by kernel_rfl) (by kernel_rfl) (by kernel_rfl) (fun _ _ _ h => h) (Or.inl ⟨by rfl, ?_⟩) hHeld ?_
          rotate_left
          · (intro w hSw; (try dsimp only at hSw); go_simp; (try with_reducible rfl))
          (try simp only [Act.put, List.setIfInBounds_toArray, List.set_cons_zero, List.set_cons_succ])
          refine AnyTill.take (i := 5) (oi := { dst := some 39, op := Op.load 54 (Operand.tmp 38), type := 54, pos := "law.go:180", after := #[{ on := 4, ground := Ground.data }], guard := none }) (v := ?_) rfl (by kernel_rfl) (by kernel_rfl) (by kernel_rfl) (by kernel_rfl) (fun _ _ _ h => h) (Or.inl ⟨by rfl, ?_⟩) hHeld ?_
          rotate_left
          · (intro w hSw; (try dsimp only at hSw); go_simp; (try with_reducible rfl))
          (try simp only [Act.put, List.setIfInBounds_toArray, List.set_cons_zero, List.set_cons_succ])
          refine AnyTill.take (i := 7) (oi := { dst := some 41, op := Op.load 47 (Operand.tmp 2), type := 47, pos := "law.go:180", after := #[], guard := none }) (v := ?_) rfl (by kernel_rfl) (by kernel_rfl) (by kernel_rfl) (by kernel_rfl) (fun _ _ _ h => h) (Or.inl ⟨by rfl, ?_⟩) hHeld ?_
          rotate_left
          · (intro w hSw; (try dsimp only at hSw); go_simp; (try with_reducible rfl))
          (try simp only [Act.put, List.setIfInBounds_toArray, List.set_cons_zero, List.set_cons_succ])
          refine AnyTill.take (i := 8) (oi := { dst := some 42, op := Op.load 28 (Operand.tmp 5), type := 28, pos := "law.go:180", after := #[], guard := none }) (v := ?_) rfl (by kernel_rfl) (by kernel_rfl) (by kernel_rfl) (by kernel_rfl) (fun _ _ _ h => h) (Or.inl ⟨by rfl, ?_⟩) hHeld ?_
          rotate_left
          · (intro w hSw; (try dsimp only at hSw); go_simp; (try with_reducible rfl))
          (try simp only [Act.put, List.setIfInBounds_toArray, List.set_cons_zero, List.set_cons_succ])
          refine AnyTill.take (i := 9) (oi := { dst := some 43, op := Op.move (Operand.tmp 9), type := 3, pos := "law.go:180", after := #[], guard := none }) (v := ?_) rfl (by kernel_rfl) (by kernel_rfl) (by kernel_rfl) (by kernel_rfl) (fun _ _ _ h => h) (Or.inl ⟨by rfl, ?_⟩) hHeld ?_
          rotate_left
          · (intro w hSw; (try dsimp only at hSw); go_simp; (try with_reducible rfl))
          (try simp only [Act.put, List.setIfInBounds_toArray, List.set_cons_zero, List.set_cons_succ])
          refine AnyTill.take (i := 10) (oi := { dst := some 44, op := Op.indexAddr 28 (Operand.tmp 42) (Operand.tmp 43), type := 0, pos := "law.go:180", after := #[{ on := 8, ground := Ground.data }, { on := 9, ground := Ground.data }], guard := none }) (v := ?_) rfl (by kernel_rfl) (by kernel_rfl) (by kernel_rfl) (by kernel_rfl) (fun _ _ _ h => h) (Or.inl ⟨by rfl, ?_⟩) hHeld ?_
          rotate_left
          · (intro w hSw; (try dsimp only at hSw); go_simp; (try with_reducible rfl))
          (try simp only [Act.put, List.setIfInBounds_toArray, List.set_cons_zero, List.set_cons_succ])
          refine AnyTill.take (i := 11) (oi := { dst := some 45, op := Op.load 54 (Operand.tmp 44), type := 54, pos := "law.go:180", after := #[{ on := 10, ground := Ground.data }], guard := none }) (v := ?_) rfl (by kernel_rfl) (by kernel_rfl) (by kernel_rfl) (by kernel_rfl) (fun _ _ _ h => h) (Or.inl ⟨by rfl, ?_⟩) hHeld ?_
          rotate_left
          · (intro w hSw; (try dsimp only at hSw); go_simp; (try with_reducible rfl))
          (try simp only [Act.put, List.setIfInBounds_toArray, List.set_cons_zero, List.set_cons_succ])
          refine AnyTill.one (i := 6) (o := { dst := some 40, op := Op.call { callee := Callee.value (Operand.func 21), args := #[Operand.tmp 35, Operand.tmp 39], argTypes := #[47, 54] }, type := 3, pos := "law.go:180", after := #[{ on := 1, ground := Ground.data }, { on := 5, ground := Ground.data }], guard := none }) (by kernel_rfl) rfl (fun K hK => ?_)
          go_simp
          refine (tag_is y tg _ (HMM.out.ar.drewN 1) y0 y1 HTG.out).mono ?_
          rintro e w3 ⟨rfl, k3, hw3⟩
          have M3 := hidden ((HMM.out.drewN 1).is hw3)
          have B3 : Hid (Below w.heap.size w w3) := (by rw [hw3]; exact below_drewN (below_drewN HBR.out 1) k3)
          clear hw3 hHeld
          have q30 := (one_cell5 M3.out.ho).1
          have q31 := (one_cell5 M3.out.ha).1
          have q32 := (one_cell5 M3.out.hm).1
          have q33 := met_at5 M3.out HHG.out
          rw [← HY.out] at q33
          refine hK.out _ _ (fun _ => ⟨q30, q31, q32, q33⟩) ?_
          have hHeld : (fun w' => w'.cell? ⟨bo, 0, none⟩ = some vo ∧ w'.cell? ⟨w.heap.size, 0, none⟩ = some (.pointer (some ⟨p.a, 0, none⟩)) ∧ w'.cell? ⟨bm, 0, none⟩ = some (.slice (some ⟨gv, 0, none⟩) (scans s r (listX X m) i).length cg) ∧ w'.cell? ⟨gv, i, none⟩ = some (.int .u64 y)) w3 := ⟨q30, q31, q32, q33⟩
          clear hK K
          (try simp only [Act.put, List.setIfInBounds_toArray, List.set_cons_zero, List.set_cons_succ])
          refine AnyTill.one (i := 12) (o := { dst := some 46, op := Op.call { callee := Callee.value (Operand.func 22), args := #[Operand.tmp 41, Operand.tmp 45], argTypes := #[47, 54] }, type := 3, pos := "law.go:180", after := #[{ on := 7, ground := Ground.data }, { on := 11, ground := Ground.data }, { on := 6, ground := Ground.chain }], guard := none }) (by kernel_rfl) rfl (fun K hK => ?_)
          go_simp
          refine (size_is y (fl : Int) _ M3.out.ar y0 y1 HSZ.out).mono ?_
          rintro e w4 ⟨rfl, k4, hw4⟩
          have M4 := hidden (M3.out.is hw4)
          have B4 : Hid (Below w.heap.size w w4) := (by rw [hw4]; exact below_drewN B3.out k4)
          clear hw4 hHeld
          have q40 := (one_cell5 M4.out.ho).1
          have q41 := (one_cell5 M4.out.ha).1
          have q42 := (one_cell5 M4.out.hm).1
          have q43 := met_at5 M4.out HHG.out
          rw [← HY.out] at q43
          refine hK.out _ _ (fun _ => ⟨q40, q41, q42, q43⟩) ?_
          have hHeld : (fun w' => w'.cell? ⟨bo, 0, none⟩ = some vo ∧ w'.cell? ⟨w.heap.size, 0, none⟩ = some (.pointer (some ⟨p.a, 0, none⟩)) ∧ w'.cell? ⟨bm, 0, none⟩ = some (.slice (some ⟨gv, 0, none⟩) (scans s r (listX X m) i).length cg) ∧ w'.cell? ⟨gv, i, none⟩ = some (.int .u64 y)) w4 := ⟨q40, q41, q42, q43⟩
          clear hK K
          (try simp only [Act.put, List.setIfInBounds_toArray, List.set_cons_zero, List.set_cons_succ])
          refine AnyTill.one (i := 13) (o := { dst := some 47, op := Op.buildSlice 64 2 #[(0, Operand.tmp 40), (1, Operand.tmp 46)], type := 64, pos := "law.go:180", after := #[{ on := 6, ground := Ground.data }, { on := 12, ground := Ground.data }], guard := none }) (by kernel_rfl) rfl (fun K hK => ?_)
          go_simp
          have M4' := M4.out.below' ((Below.refl _ _).alloc (Nat.le_refl _) (.cells #[.int .i64 tg, .int .i64 fl] 2))
          have q50 := (one_cell5 M4'.ho).1
          have q51 := (one_cell5 M4'.ha).1
          have q52 := (one_cell5 M4'.hm).1
          have q53 := met_at5 M4' HHG.out
          rw [← HY.out] at q53
          have hs4 := M4.out.size
          clear hHeld M4'
          refine hK.out _ _ (fun _ => ⟨q50, q51, q52, q53⟩) ?_
          clear hK K
          (try simp only [Act.put, List.setIfInBounds_toArray, List.set_cons_zero, List.set_cons_succ])
          refine AnyTill.one (i := 14) (o := { dst := some 48, op := Op.call { callee := Callee.builtin Builtin.append, args := #[Operand.tmp 34, Operand.tmp 47], argTypes := #[64, 64] }, type := 64, pos := "law.go:180", after := #[{ on := 0, ground := Ground.data }, { on := 13, ground := Ground.data }, { on := 12, ground := Ground.chain }], guard := none }) (by kernel_rfl) rfl (fun K hK => ?_)
          refine step_two rfl (.tmp 34) (.tmp 47) rfl w.heap.size vo (outU s r (listX X m) i) (by simp [Act.eval]) (by exact M4.out.hvo.alloc _) w4.heap.size 2 tg (fl : Int) (by simp [Act.eval]) (by exact two_new5 _ _ _ _) (by have := HUL.out; omega) (by rw [nblk_alloc]; omega) ?_
          intro g6 c6 w6 hr6 gr6
          obtain ⟨n7, b7, e7⟩ := M4.out.told hr6 gr6
          obtain ⟨m0, m1⟩ := one_cell5 e7
          have N7 := hidden n7
          have B7 := hidden (B4.out.trans b7)
          have kA : w6.heap[w.heap.size]? = w4.heap[w.heap.size]? := (gr6.block _ (by rw [nblk_alloc]; have := lt_of_some M4.out.ha; omega) (fun e => by
            obtain ⟨cur, hcu⟩ := own_row M4.out.hvo _ e.symm
            exact ty_two M4.out.ha hcu (by decide) rfl)).trans (blk_alloc_lt _ _ _ (lt_of_some M4.out.ha))
          have kM : w6.heap[bm]? = w4.heap[bm]? := (gr6.block _ (by rw [nblk_alloc]; have := lt_of_some M4.out.hm; omega) (fun e => by
            obtain ⟨cur, hcu⟩ := own_row M4.out.hvo _ e.symm
            exact ty_two M4.out.hm hcu (by decide) rfl)).trans (blk_alloc_lt _ _ _ (lt_of_some M4.out.hm))
          obtain ⟨curg, hcg⟩ := own_row M4.out.hv gv rfl
          have kG : w6.heap[gv]? = w4.heap[gv]? := (gr6.block _ (by rw [nblk_alloc]; have := lt_of_some hcg; omega) (fun e => by
            obtain ⟨cur, hcu⟩ := own_row M4.out.hvo _ e.symm
            exact ty_two hcg hcu (by decide) rfl)).trans (blk_alloc_lt _ _ _ (lt_of_some hcg))
          have q61 := (World.cell?_of_block (w := w4) (a := ⟨w.heap.size, 0, none⟩) kA).trans q41
          have q62 := (World.cell?_of_block (w := w4) (a := ⟨bm, 0, none⟩) kM).trans q42
          have q63 := (World.cell?_of_block (w := w4) (a := ⟨gv, i, none⟩) kG).trans q43
          clear hr6 gr6 n7 b7 e7 kA kM kG hcg
          refine hK.out _ _ (fun _ => ⟨m0, q61, q62, q63⟩) ?_
          clear hK K
          (try simp only [Act.put, List.setIfInBounds_toArray, List.set_cons_zero, List.set_cons_succ])
          refine AnyTill.one (i := 15) (o := { dst := none, op := Op.store 64 (Operand.tmp 6) (Operand.tmp 48), type := 0, pos := "law.go:180", after := #[{ on := 14, ground := Ground.data }, { on := 14, ground := Ground.chain }, { on := 0, ground := Ground.phase }, { on := 1, ground := Ground.phase }, { on := 2, ground := Ground.phase }, { on := 3, ground := Ground.phase }, { on := 4, ground := Ground.phase }, { on := 5, ground := Ground.phase }, { on := 6, ground := Ground.phase }, { on := 7, ground := Ground.phase }, { on := 8, ground := Ground.phase }, { on := 9, ground := Ground.phase }, { on := 10, ground := Ground.phase }, { on := 11, ground := Ground.phase }, { on := 12, ground := Ground.phase }, { on := 13, ground := Ground.phase }, { on := 14, ground := Ground.phase }], guard := none }) (by kernel_rfl) rfl (fun K hK => ?_)
          go_simp
          refine hK.out _ _ (fun h => absurd rfl h) ?_
          clear hK K
          refine AnyTill.done (by kernel_rfl) ?_ _
          (try simp only [Act.put, List.setIfInBounds_toArray, List.set_cons_zero, List.set_cons_succ])
          clear q30 q31 q32 q33 q40 q41 q42 q43 q50 q51 q52 q53 q61 q62 q63 m0 m1 c0 c1 c2 c0f c1f c2f hc HMM HBR
          have HI0 : Hid (InR5 w (w6.setCell ⟨bo, 0, none⟩ (.slice (some ⟨g6, 0, none⟩) ((outU s r (listX X m) i).length + 2) c6)) bm bo p s r X m i g (.int .i64 0)) := by
            have h7 := N7.out
            rw [HTGE.out, HFLE.out] at h7
            exact ⟨0, _, _, rfl, Nat.zero_le _, h7, B7.out⟩
          clear N7 B7 M3 B3 M4 B4
          generalize w6.setCell ⟨bo, 0, none⟩ (.slice (some ⟨g6, 0, none⟩) ((outU s r (listX X m) i).length + 2) c6) = w7 at *
          go_wp2_with fail
          go_loopw [10] (fun kv wr => InR5 w wr bm bo p s r X m i g kv) (fun k _ => fl - (intOf k).toNat)
          case atStart => exact HI0.out
          case round =>
            clear HI0
            obtain ⟨k, v2, vo2, rfl, hk, hM2, hb2⟩ := hrel
            rw [← HFLE.out] at hk
            have HGI : Hid ((in5 s r (scans s r (listX X m) i) (blkAt r g) k)[i]? = some g) := by
              obtain ⟨T, hT⟩ := in5_ext (s := s) (r := r) (scans s r (listX X m) i) (blkAt r g) k
              show _ = _
              rw [hT, List.getElem?_append_left hlt]; exact HHG.out
            have HGG2 : Hid (GoodG r (in5 s r (scans s r (listX X m) i) (blkAt r g) k)) := in5_good HR.out HGG.out _ k
            have hgl2 : i < (in5 s r (scans s r (listX X m) i) (blkAt r g) k).length := (List.getElem?_eq_some_iff.1 HGI.out).1
            have x2 : (i : Int) < ((in5 s r (scans s r (listX X m) i) (blkAt r g) k).length : Int) := by omega
            obtain ⟨al2, cg2, rfl, hcell2⟩ := met_cell5 hM2.hv
            obtain ⟨gv2, rfl, hc2⟩ := hcell2 i g HGI.out
            rw [← HY.out] at hc2
            obtain ⟨c0, c0f⟩ := one_cell5 hM2.ha
            obtain ⟨c1, c1f⟩ := one_cell5 hM2.hm
            have HM2 := hidden hM2
            have HB2 := hidden hb2
            have hfl := HFL.out
            clear hcell2 hM2 hb2
            go_wp2_with fail
            go_quiet ((go_at_call 22; exact Calls.quiet_of (size_is y (fl : Int) _ (HM2.out.ar.drewN _) y0 y1 HSZ.out)))
            have M3 := hidden (HM2.out.drewN nq)
            have B3 := hidden (below_drewN HB2.out nq)
            have c0' : (wr.drewN nq).cell? ⟨w.heap.size, 0, none⟩ = some (.pointer (some ⟨p.a, 0, none⟩)) := c0
            have c1' : (wr.drewN nq).cell? ⟨bm, 0, none⟩ = some (.slice (some ⟨gv2, 0, none⟩) (in5 s r (scans s r (listX X m) i) (blkAt r g) k).length cg2) := c1
            have c2' : (wr.drewN nq).cell? ⟨gv2, i, none⟩ = some (.int .u64 y) := hc2
            generalize wr.drewN nq = w3 at M3 B3 c0' c1' c2' ⊢
            clear HM2 HB2 c0 c1 c0f c1f hc2
            by_cases hkl : k < fl
            · obtain ⟨gt1, ge1⟩ := HGT.out k hkl
              have HG3 := hidden gt1
              have HE3 := hidden ge1
              have v0 : (0 : Int) ≤ (k : Int) := by omega
              have v1 : (k : Int) < (fl : Int) := by omega
              obtain ⟨lo1, hi1⟩ := field5 M3.out.ar HR.out hgl k
              have hkl2 : k < (blkAt r g).F.length := by rw [← HFLE.out]; exact hkl
              have HIN : Hid (in5 s r (scans s r (listX X m) i) (blkAt r g) (k + 1) = visit s r (in5 s r (scans s r (listX X m) i) (blkAt r g) k) ((blkAt r g).F.getD k 0)) := in5_succ hkl2
              have HGN : Hid (gNode s r (visit s r (in5 s r (scans s r (listX X m) i) (blkAt r g) k) ((blkAt r g).F.getD k 0)) ((blkAt r g).F.getD k 0) = gNode s r (reachG s r (listX X m)) ((blkAt r g).F.getD k 0)) := by
                obtain ⟨T, hT⟩ := in5_pre HR.out HHG.out HNG.out (k + 1)
                rw [HIN.out] at hT
                exact gNode_see5 hT
              have HOT : Hid (outF s r (reachG s r (listX X m)) ((blkAt r g).F.take (k + 1)) = outF s r (reachG s r (listX X m)) ((blkAt r g).F.take k) ++ two4 (gNode s r (reachG s r (listX X m)) ((blkAt r g).F.getD k 0))) := outF_take _ hkl2
              have HOL : Hid ((outU s r (listX X m) i ++ ([(blkAt r g).tag, ((blkAt r g).F.length : Int)] ++ outF s r (reachG s r (listX X m)) ((blkAt r g).F.take k))).length ≤ 1000000) := by
                have h1 := HUL.out
                have h2 : ((blkAt r g).F.take k).length ≤ 4096 := by rw [List.length_take]; omega
                show _ ≤ _
                rw [List.length_append, List.length_append, outF_len]
                simp only [List.length_cons, List.length_nil]
                omega
              clear gt1 ge1 hkl2
              generalize (blkAt r g).F.getD k 0 = x at *
              go_wp2_with fail
              go_quiet ((go_at_call 23; exact Calls.quiet_of (get_at y k x 0 _ (M3.out.ar.drewN _) HFIT.out y0 y1 HG3.out HE3.out)))
              have M4 := hidden (M3.out.drewN nq)
              have B4 := hidden (below_drewN B3.out nq)
              generalize w3.drewN nq = w4 at M4 B4 ⊢
              clear M3 B3 c0' c1' c2' HG3 HE3
              go_wp2_with (go_at_call 48; refine (see4_any x _ HR.out HGG2.out M4.out lo1 hi1 HOL.out).mono ?_; rintro e w5 ⟨rfl, v5, vo5, hM5, b5⟩; rw [HGN.out, ← HIN.out, List.append_assoc, List.append_assoc, ← HOT.out] at hM5; have M5 := hidden hM5; have B5 := hidden (B4.out.trans b5); clear hM5 b5)
              go_roundw
              case rel => exact ⟨k + 1, v5, vo5, by go_num, by rw [← HFLE.out]; omega, M5.out, B5.out⟩
              case measure => simp [intOf]; omega
            · have ek : k = fl := by omega
              have hnl : ¬ ((k : Int) < (fl : Int)) := by omega
              have HEND : Hid (OutR5 w w3 bm bo p s r X m (.int .i64 ((i + 1 : Nat) : Int))) := by
                have h3 := M3.out
                rw [ek, HFLE.out, in5_end HHG.out HNG.out, List.take_length, show outU s r (listX X m) i ++ ([(blkAt r g).tag, ((blkAt r g).F.length : Int)] ++ outF s r (reachG s r (listX X m)) (blkAt r g).F) = outU s r (listX X m) (i + 1) from HOU.out.symm] at h3
                have h5 : i + 1 ≤ (scans s r (listX X m) (i + 1)).length := by rw [← in5_end HHG.out HNG.out, ← HFLE.out, ← ek]; exact hgl2
                exact ⟨i + 1, _, _, rfl, h5, h3, B3.out⟩
              clear M3 B3 c0' c1' c2' ek hkl HGT
              go_wp2_with fail
              go_roundw
              case rel =>
                have h3 := HEND.out
                have e3 : (((i + 1 : Nat) : Int)) = wrap64 ((i : Int) + 1) := by unfold wrap64; omega
                first
                  | exact h3
                  | (rw [e3] at h3; exact h3)
              case measure => simp [intOf]; omega
        · have hle : (scans s r (listX X m) i).length ≤ i := by omega
          have ei : i = (reachG s r (listX X m)).length := by rw [reach_end HR.out (listX X m) i hle]; omega
          have hnl2 : ¬ ((i : Int) < ((scans s r (listX X m) i).length : Int)) := by omega
          have hne : outU s r (listX X m) i ≠ [] := by
            intro e
            have h1 := congrArg List.length e
            unfold outU at h1
            rw [List.length_append, outF_len, HLX.out] at h1
            simp only [List.length_nil] at h1
            omega
          obtain ⟨go, co, rfl⟩ := vo_slice hM.hvo hne
          have HE : Hid (outU s r (listX X m) i = seenL s r (listX X m)) := by
            show _ = _
            rw [ei]; exact outU_end _
          obtain ⟨his, hlo⟩ := nums_is hM.hvo
          have HIS := hidden his
          have HLO := hidden hlo
          have HB := hidden hb
          clear hle ei hlt hcell c0 c0f hG hM his hlo hb hne
          go_wp2_with fail
          go_ret
          rw [← HE.out]
          exact ⟨go, co, rfl, HIS.out, HLO.out, HB.out⟩
end Go.Proofs.Ytjnlfnecmiklhaa

/-
  Layer 4's statement MemSame: whatever number of cells and steps are handed in, it returns true.
-/
namespace Go.Proofs.Ytjnlfnecmiklhaa
open Go.ChangeShapes Go.WideShapes Go.ChangeAt Go.RowKit Go.Deep
set_option linter.unusedVariables false
set_option maxHeartbeats 2000000
/-- A step, but with no text laid. -/
def fixT (t : St4) : St4 := if t.k = 0 ∧ t.a = 202 then ⟨t.k, 0, t.b, t.c⟩ else t
def fixes (T : Nat → St4) (j i : Nat) : St4 := if i < j then fixT (T i) else T i
theorem fix_rng {t : St4} (h : RI t.k ∧ RI t.a ∧ RI t.b ∧ RI t.c) : RI (fixT t).k ∧ RI (fixT t).a ∧ RI (fixT t).b ∧ RI (fixT t).c := by
  unfold fixT
  split
  · exact ⟨h.1, ⟨(by decide : (-9223372036854775808 : Int) ≤ 0), (by decide : (0 : Int) ≤ 9223372036854775807)⟩, h.2.2.1, h.2.2.2⟩
  · exact h
theorem fix_no {t : St4} : (fixT t).k = 0 → (fixT t).a ≠ 202 := by
  unfold fixT
  split
  · intro _ h; exact absurd h (by decide : ¬ (0 : Int) = 202)
  · rename_i c
    intro h1 h2; exact c ⟨h1, h2⟩
theorem fixes_zero (T : Nat → St4) : fixes T 0 = T := by funext i; unfold fixes; rw [if_neg (by omega)]
theorem fixes_at (T : Nat → St4) (j : Nat) : fixes T j j = T j := by unfold fixes; rw [if_neg (by omega)]
theorem fixes_yes {T : Nat → St4} {j : Nat} (h : (T j).k = 0 ∧ (T j).a = 202) : setA (fixes T j) j 0 = fixes T (j + 1) := by
  funext i
  unfold setA
  by_cases e : i = j
  · subst e
    rw [if_pos rfl, fixes_at]
    unfold fixes fixT
    rw [if_pos (by omega), if_pos h]
  · rw [if_neg e]
    unfold fixes
    by_cases c : i < j
    · rw [if_pos c, if_pos (by omega)]
    · rw [if_neg c, if_neg (by omega)]
theorem fixes_no {T : Nat → St4} {j : Nat} (h : ¬ ((T j).k = 0 ∧ (T j).a = 202)) : fixes T j = fixes T (j + 1) := by
  funext i
  unfold fixes
  by_cases c : i < j
  · rw [if_pos c, if_pos (by omega)]
  · rw [if_neg c]
    by_cases e : i = j
    · subst e
      rw [if_pos (by omega)]
      unfold fixT
      rw [if_neg h]
    · rw [if_neg (by omega)]
/-- A Mem behind a play: what is held, what went wrong. -/
structure H4 (w : World) (kb : Nat) (p : Pl) (s : St) (a : RS × Int) (X : Nat → Int) (g ge N : Nat) (E : Nat → Int) : Prop where
  pi : PI kb p w s a.1 a.2
  held : Own w g 8 X
  rx : RX X
  errs : IS w (some ⟨ge, 0, none⟩) N E
section
variable {w w' : World} {kb : Nat} {p : Pl} {s : St} {a : RS × Int} {X : Nat → Int} {g ge N : Nat} {E : Nat → Int}
theorem H4.frame {S : Nat → Prop} (h : H4 w kb p s a X g ge N E) (o : Only S w w') (h1 : ∀ q, Pown kb p q → ¬ S q) (h2 : ¬ S g) (h3 : ¬ S ge) : H4 w' kb p s a X g ge N E :=
  ⟨h.pi.frame o h1, h.held.frame o h2, h.rx, h.errs.frame o (fun ad e _ => by cases e; exact h3)⟩
theorem H4.below {B : Nat} (h : H4 w kb p s a X g ge N E) (b : Below B w w') (hB : B = w.heap.size) : H4 w' kb p s a X g ge N E := by
  subst hB; exact h.frame (S := fun _ => False) (Only.of_below b) (fun _ _ => id) id id
theorem H4.drewN (h : H4 w kb p s a X g ge N E) (q : Nat) : H4 (w.drewN q) kb p s a X g ge N E := h.frame (S := fun _ => False) ((Only.refl _ _).drewN q) (fun _ _ => id) id id
theorem H4.is (h : H4 w kb p s a X g ge N E) {q : Nat} (e : w' = w.drewN q) : H4 w' kb p s a X g ge N E := by rw [e]; exact h.drewN q
theorem H4.ws (h : H4 w kb p s a X g ge N E) (c : Nat) : WS w (some ⟨g, 0, none⟩) 8 c X := ws_own h.held (fun i hi => (h.rx i hi).1) (fun i hi => (h.rx i hi).2)
theorem is_at {w : World} {ge N i : Nat} {E : Nat → Int} (h : IS w (some ⟨ge, 0, none⟩) N E) (hi : i < N) : w.cell? ⟨ge, i, none⟩ = some (.int .i64 (E i)) := by
  obtain ⟨ad, e, hc⟩ := h.cell i hi
  cases e
  have e2 : (Addr.mk ge 0 none).add i = ⟨ge, i, none⟩ := by
    unfold Addr.add
    split
    · rename_i h; rw [h]
    · simp
  rw [e2] at hc; exact hc
end
/-- Out of a play. -/
theorem h4_of {w0 w : World} {kb : Nat} {p : Pl} {a0 a : RS × Int} {X E : Nat → Int} {g ge ce N : Nat} (pb : PB (realD kb p) w0 a0 w a g X ge ce N E) : ∃ s, H4 w kb p s a X g ge N E ∧ w0.heap.size ≤ g ∧ w0.heap.size ≤ ge := by
  obtain ⟨s, i5⟩ : ∃ s, PI kb p w s a.1 a.2 := pb.i
  obtain ⟨cur, hce, hge⟩ := row_blk pb.errs
  exact ⟨s, ⟨i5, pb.held, pb.rx, is_of_row pb.errs⟩, pb.lo, hge⟩
theorem seen_len {s : St} {r : RS} {X : Nat → Int} (h : Good s r) : (seenL s r (listX X 8)).length ≤ 100000 := by
  have h1 := outU_len h.rep (xs := listX X 8) (reachG s r (listX X 8)).length
  rw [outU_end] at h1
  have h2 : (listX X 8).length = 8 := by unfold listX; simp
  have h3 := h.rep.top
  have h4 := h.t2
  have h5 := h.n2
  omega
theorem below_made4 {w w' : World} {o : Obj} (gr : (w.alloc o).grownBy w' (some w.heap.size)) : Below w.heap.size w w' := (only_grown gr).below (Nat.le_refl _) (fun k hk e => by omega)
set_option maxRecDepth 100000 in
theorem same4_any (n : Int) {al : Option Addr} {len cap : Nat} {T : Nat → St4} (w : World) (hn : RI n) (hT : SS4 w al len cap T) (hlen : len ≤ maxLen) (hcap : len ≤ cap) : Calls Try.prog 4 #[.int .i64 n, .slice al len cap] w fun e w' => e = .returned (.bool true) ∧ Below w.heap.size w w' := by
  have HT := hidden hT
  go_enter Try.func4, Try.ntmps4
  go_wp2_with fail
  refine (awake4_any _).mono ?_
  rintro e w1 ⟨rfl, b1⟩
  have B1 := hidden b1
  clear b1
  obtain ⟨N, hN⟩ : ∃ N, N = min len 80 := ⟨_, rfl⟩
  have HNN := hidden hN
  clear hN
  go_upto_region 3 with fail
  go_cut [5] from 20 to 26 (fun v wx => ∃ g c, v = .slice (some ⟨g, 0, none⟩) N c ∧ OwnS wx g N T ∧ w1.heap.size ≤ g ∧ Below w1.heap.size w1 wx)
  case first =>
    have HT1 : Hid (SS4 (w1.alloc (.cells #[] 62)) al len cap T) := hT.frame (S := fun _ => False) (Only.of_below (B1.out.alloc B1.out.size _)) (fun _ _ _ => id)
    cases al with
    | none =>
      obtain ⟨rfl, rfl⟩ := hT.nil rfl
      clear hT
      have eN : N = 0 := by have := HNN.out; omega
      go_wp2_with fail
      go_meet
      subst eN
      exact ⟨w1.heap.size, 0, rfl, ⟨#[], blk_alloc_new _ _, fun i hi => absurd hi (Nat.not_lt_zero _)⟩, Nat.le_refl _, (Below.refl _ _).alloc (Nat.le_refl _) _⟩
    | some ad =>
      by_cases h80 : 80 < len
      · have x1 : (80 : Int) < (len : Int) := by omega
        have x2 : (80 : Int) ≤ (cap : Int) := by omega
        have eN : N = 80 := by have := HNN.out; omega
        clear hT
        go_wp2_with (at_builtin; refine append_steps rfl (.tmp 20) (.tmp 25) rfl w1.heap.size rfl (blk_alloc_new _ _) (some ad) 80 cap T rfl (fun h => by cases h) (fun ad' e => ss4_cells HT1.out e (by omega)) (by omega) ?_; intro g2 c2 w2 ho2 gr2 hg2; have O2 := hidden ho2; have B2 := hidden (below_made4 gr2); clear ho2 gr2)
        go_meet
        subst eN
        exact ⟨g2, c2, rfl, O2.out, hg2, B2.out⟩
      · have x1 : ¬ (80 : Int) < (len : Int) := by omega
        have x2 : (len : Int) ≤ (cap : Int) := by omega
        have eN : N = len := by have := HNN.out; omega
        clear hT
        go_wp2_with (at_builtin; refine append_steps rfl (.tmp 20) (.tmp 25) rfl w1.heap.size rfl (blk_alloc_new _ _) (some ad) len cap T rfl (fun h => by cases h) (fun ad' e => ss4_cells HT1.out e (by omega)) (by omega) ?_; intro g2 c2 w2 ho2 gr2 hg2; have O2 := hidden ho2; have B2 := hidden (below_made4 gr2); clear ho2 gr2)
        go_meet
        subst eN
        exact ⟨g2, c2, rfl, O2.out, hg2, B2.out⟩
  case rest =>
    obtain ⟨g, c, rfl, hO, hg, b2⟩ := hcut
    clear hT
    have HN : Hid (N ≤ 80 ∧ N ≤ len) := ⟨by have := HNN.out; omega, by have := HNN.out; omega⟩
    clear HNN
    have hN8 := HN.out.1
    have B2 := hidden (B1.out.trans (b2.mono B1.out.size))
    have HG : Hid (w.heap.size ≤ g) := Nat.le_trans B1.out.size hg
    have HO := hidden hO
    clear hO b2 hg
    go_wp2_with fail
    go_loopw [29] (fun iv wr => ∃ j : Nat, j ≤ N ∧ iv = .int .i64 j ∧ OwnS wr g N (fixes T j) ∧ Below w.heap.size w wr) (fun i _ => N - (intOf i).toNat)
    case atStart => exact ⟨0, Nat.zero_le _, rfl, by rw [fixes_zero]; exact HO.out, B2.out⟩
    case round =>
      clear HO B2
      obtain ⟨j, hj, rfl, hO, hb⟩ := hrel
      by_cases hlt : j < N
      · obtain ⟨k0, k1, _, _, kf⟩ := hO.cells hlt
        rw [fixes_at] at k0 k1
        have kf1 := kf (j * 4 + 1)
        have x1 : (0 : Int) ≤ (j : Int) := by omega
        have x2 : (j : Int) < (N : Int) := by omega
        have HY : Hid ((T j).k = 0 ∧ (T j).a = 202 → setA (fixes T j) j 0 = fixes T (j + 1)) := fixes_yes
        have HZ : Hid (¬ ((T j).k = 0 ∧ (T j).a = 202) → fixes T j = fixes T (j + 1)) := fixes_no
        have HOW := hidden hO
        have HBR := hidden hb
        clear hO hb kf
        generalize T j = tj at *
        by_cases e0 : tj.k = 0
        · have b0 : (tj.k == 0) = true := by rw [e0]; rfl
          by_cases e1 : tj.a = 202
          · have b1 : (tj.a == 202) = true := by rw [e1]; rfl
            have HE := hidden (HY.out ⟨e0, e1⟩)
            have HOS := hidden (HOW.out.set j 0)
            clear HY HZ e0 e1
            go_wp2_with fail
            go_roundw
            case rel => exact ⟨j + 1, by omega, by go_num, by rw [← HE.out]; exact HOS.out, HBR.out.setCell (p := ⟨g, j * 4 + 1, none⟩) HG.out _⟩
            case measure => simp [intOf]; omega
          · have b1 : (tj.a == 202) = false := beq_eq_false_iff_ne.2 e1
            have HE := hidden (HZ.out (fun h => e1 h.2))
            clear HY HZ e0 e1
            go_wp2_with fail
            go_roundw
            case rel => exact ⟨j + 1, by omega, by go_num, by rw [← HE.out]; exact HOW.out, HBR.out⟩
            case measure => simp [intOf]; omega
        · have b0 : (tj.k == 0) = false := beq_eq_false_iff_ne.2 e0
          have HE := hidden (HZ.out (fun h => e0 h.1))
          clear HY HZ e0
          go_wp2_with fail
          go_roundw
          case rel => exact ⟨j + 1, by omega, by go_num, by rw [← HE.out]; exact HOW.out, HBR.out⟩
          case measure => simp [intOf]; omega
      · have ej : j = N := by omega
        have hnl : ¬ ((j : Int) < (N : Int)) := by omega
        rw [ej] at hO
        have hSS : SS4 wr (some ⟨g, 0, none⟩) N c (fixes T N) := hO.ss c (fun i hi => by
          have hi2 : i < len := by have := HN.out; omega
          have e : fixes T N i = fixT (T i) := by unfold fixes; rw [if_pos hi]
          rw [e]; exact fix_rng (HT.out.rng i hi2))
        have HSS := hidden hSS
        have HNO : Hid (∀ i, i < N → (fixes T N i).k = 0 → (fixes T N i).a ≠ 202) := fun i hi => by
          have e : fixes T N i = fixT (T i) := by unfold fixes; rw [if_pos hi]
          rw [e]; exact fix_no
        have HGL := hidden hO.lt
        have B3 := hidden hb
        have HJ := hidden HN.out.1
        clear hO hb hSS HT hlt hj HN hlen hcap ej
        generalize fixes T N = T2 at *
        by_cases hr : n < 2 ∨ 32768 < n
        · clear HSS HNO HGL
          go_wp2_with fail
          refine (mNew_no n _ hr).mono ?_
          rintro e w4 ⟨rfl, hw4⟩
          rw [hw4]
          clear hw4 w4
          go_wp2_with fail
          refine (mNew_no n _ hr).mono ?_
          rintro e w4 ⟨rfl, hw4⟩
          rw [hw4]
          clear hw4 w4
          go_wp2_with fail
          refine (mNew_yes 32768 _ (by omega) (by omega)).mono ?_
          rintro e w6 ⟨kb3, p3, rfl, _, b6, _⟩
          have B6 := hidden (B3.out.trans (b6.mono B3.out.size))
          clear b6
          by_cases c1 : n < 2
          · go_wp2_with fail
            all_goals go_ret
            all_goals exact ⟨rfl, B6.out⟩
          · have c2 : 32768 < n := by omega
            clear hr
            go_wp2_with fail
            all_goals go_ret
            all_goals exact ⟨rfl, B6.out⟩
        · obtain ⟨m, rfl⟩ : ∃ m : Nat, n = m := ⟨n.toNat, by omega⟩
          have h1 : 2 ≤ m := by omega
          have h2 : m ≤ 32768 := by omega
          clear hr hn
          go_wp2_with fail
          refine (mNew_yes m _ h1 h2).mono ?_
          rintro e w4 ⟨kb1, p1, rfl, i4, b4, l4⟩
          have I4 := hidden i4
          have L1 : Hid (∀ q, Pown kb1 p1 q → w.heap.size ≤ q ∧ g < q ∧ q < w4.heap.size) := fun q hq => ⟨Nat.le_trans B3.out.size (l4 q hq), Nat.lt_of_lt_of_le HGL.out (l4 q hq), i4.lt q hq⟩
          have B4 := hidden (B3.out.trans (b4.mono B3.out.size))
          have SS4' := hidden (HSS.out.frame (S := fun _ => False) (Only.of_below b4) (fun _ _ _ => id))
          have GL4 := hidden (Nat.lt_of_lt_of_le HGL.out b4.size)
          clear i4 b4 l4 B3 HSS
          go_wp2_with fail
          refine (mNew_yes m _ h1 h2).mono ?_
          rintro e w5 ⟨kb2, p2, rfl, i5, b5, l5⟩
          have I4' := hidden (I4.out.below b5 rfl)
          have I5 := hidden i5
          have L2 : Hid (∀ q, Pown kb2 p2 q → w4.heap.size ≤ q ∧ q < w5.heap.size) := fun q hq => ⟨l5 q hq, i5.lt q hq⟩
          have B5 := hidden (B4.out.trans (b5.mono B4.out.size))
          have SS5 := hidden (SS4'.out.frame (S := fun _ => False) (Only.of_below b5) (fun _ _ _ => id))
          have Z5 := hidden b5.size
          clear i5 b5 l5 B4 SS4' I4
          go_wp2_with fail
          refine (mNew_yes 32768 _ (by omega) (by omega)).mono ?_
          rintro e w6 ⟨kb3, p3, rfl, i6, b6, l6⟩
          have I4 := hidden (I4'.out.below b6 rfl)
          have I5' := hidden (I5.out.below b6 rfl)
          have I6 := hidden i6
          have L3 : Hid (∀ q, Pown kb3 p3 q → w5.heap.size ≤ q ∧ q < w6.heap.size) := fun q hq => ⟨l6 q hq, i6.lt q hq⟩
          have B6 := hidden (B5.out.trans (b6.mono B5.out.size))
          have SS6 := hidden (SS5.out.frame (S := fun _ => False) (Only.of_below b6) (fun _ _ _ => id))
          have Z6 := hidden b6.size
          clear i6 b6 l6 B5 SS5 I4' I5
          obtain ⟨c0, c1, c2⟩ := I4.out.cells
          have HK1 := hidden (lt_of_some I4.out.mem)
          go_wp2_with fail
          refine (real_any _ c0 HK1.out).mono ?_
          rintro e w7 ⟨rfl, b7⟩
          have I7 := hidden (I4.out.below b7 rfl)
          have K7 := hidden (I5'.out.below b7 rfl)
          have O7 := hidden (I6.out.below b7 rfl)
          have B7 := hidden (B6.out.trans (b7.mono B6.out.size))
          have SS7 := hidden (SS6.out.frame (S := fun _ => False) (Only.of_below b7) (fun _ _ _ => id))
          have Z7 := hidden b7.size
          clear b7 c0 c1 c2 HK1 I4 I5' I6 B6 SS6
          go_wp2_with fail
          refine (play_any (real_does kb1 p1) false _ (⟨m, 0, []⟩, 0) ⟨_, I7.out⟩ SS7.out (fun x e hl => ?_) (by have := HJ.out; unfold maxLen; omega)).mono ?_
          · cases e
            refine ⟨fun hc => ?_, ?_⟩
            · have := (L1.out _ hc).2.1
              simp only at this
              omega
            · have h4 := GL4.out
              have h5 := Z5.out
              have h6 := Z6.out
              have h7 := Z7.out
              simp only
              omega
          rintro e w8 ⟨g1, cc1, ge1, ce1, a1, X1, E1, rfl, pr1, pb1⟩
          have HMN : Hid (min N 80 = N) := Nat.min_eq_left HJ.out
          rw [HMN.out] at pr1 pb1 ⊢
          have PR1 : Hid (playR MM false T2 (⟨m, 0, []⟩, 0) N E1 a1 X1) := pr1
          obtain ⟨s1, h8, lg1, lge1⟩ := h4_of pb1
          have H8 := hidden h8
          have LG1 : Hid (w7.heap.size ≤ g1 ∧ w7.heap.size ≤ ge1) := ⟨lg1, lge1⟩
          have B8 := hidden (only_up B7.out (Nat.le_refl _) pb1.on (fun q hq => (L1.out q hq).1))
          have Z8 := hidden pb1.on.size
          have n12 : ∀ q, Pown kb2 p2 q → ¬ Pown kb1 p1 q := fun q h2 h1 => by
            have := (L1.out q h1).2.2
            have := (L2.out q h2).1
            omega
          have n13 : ∀ q, Pown kb3 p3 q → ¬ Pown kb1 p1 q := fun q h3 h1 => by
            have := (L1.out q h1).2.2
            have := (L3.out q h3).1
            have := Z5.out
            omega
          have n23 : ∀ q, Pown kb3 p3 q → ¬ Pown kb2 p2 q := fun q h3 h2 => by
            have := (L2.out q h2).2
            have := (L3.out q h3).1
            omega
          have N13 := hidden n13
          have N23 := hidden n23
          have N12 := hidden n12
          have K8 := hidden (K7.out.frame pb1.on n12)
          have O8 := hidden (O7.out.frame pb1.on n13)
          have NG1 : Hid (¬ Pown kb1 p1 g ∧ ¬ Pown kb2 p2 g ∧ ¬ Pown kb3 p3 g) := ⟨fun hc => by
            have := (L1.out g hc).2.1; omega, fun hc => by
            have := (L2.out g hc).1; have := GL4.out; omega, fun hc => by
            have := (L3.out g hc).1; have := GL4.out; have := Z5.out; omega⟩
          have SS8 := hidden (SS7.out.frame pb1.on (fun x e _ => by cases e; exact NG1.out.1))
          clear pr1 pb1 h8 lg1 lge1 n12 n13 n23 I7 K7 O7 B7 SS7
          obtain ⟨c0, c1, c2⟩ := K8.out.cells
          have HK1 := hidden (lt_of_some K8.out.mem)
          go_wp2_with fail
          refine (real_any _ c0 HK1.out).mono ?_
          rintro e w9 ⟨rfl, b9⟩
          have H9 := hidden (H8.out.below b9 rfl)
          have K9 := hidden (K8.out.below b9 rfl)
          have O9 := hidden (O8.out.below b9 rfl)
          have B9 := hidden (B8.out.trans (b9.mono B8.out.size))
          have SS9 := hidden (SS8.out.frame (S := fun _ => False) (Only.of_below b9) (fun _ _ _ => id))
          have Z9 := hidden b9.size
          clear b9 c0 c1 c2 HK1 H8 K8 O8 B8 SS8
          go_wp2_with fail
          refine (play_any (real_does kb2 p2) true _ (⟨m, 0, []⟩, 0) ⟨_, K9.out⟩ SS9.out (fun x e hl => ?_) (by have := HJ.out; unfold maxLen; omega)).mono ?_
          · cases e
            refine ⟨NG1.out.2.1, ?_⟩
            have h4 := GL4.out
            have h5 := Z5.out
            have h6 := Z6.out
            have h7 := Z7.out
            have h8 := Z8.out
            have h9 := Z9.out
            simp only
            omega
          rintro e w10 ⟨g2, cc2, ge2, ce2, a2, X2, E2, rfl, pr2, pb2⟩
          rw [HMN.out] at pr2 pb2 ⊢
          have PR2 : Hid (playR MM true T2 (⟨m, 0, []⟩, 0) N E2 a2 X2) := pr2
          obtain ⟨s2, k10, lg2, lge2⟩ := h4_of pb2
          have K10 := hidden k10
          have N2G : Hid (¬ Pown kb2 p2 g1 ∧ ¬ Pown kb2 p2 ge1) := ⟨fun hc => by
            have := (L2.out _ hc).2; have := LG1.out.1; have := Z6.out; have := Z7.out; omega, fun hc => by
            have := (L2.out _ hc).2; have := LG1.out.2; have := Z6.out; have := Z7.out; omega⟩
          have H10 := hidden (H9.out.frame pb2.on (fun q h1 h2 => N12.out q h2 h1) N2G.out.1 N2G.out.2)
          have O10 := hidden (O9.out.frame pb2.on N23.out)
          have B10 := hidden (only_up B9.out (Nat.le_refl _) pb2.on (fun q hq => by
            have := (L2.out q hq).1
            have h4 := GL4.out
            have := HG.out
            omega))
          have SS10 := hidden (SS9.out.frame pb2.on (fun x e _ => by cases e; exact NG1.out.2.1))
          have Z10 := hidden pb2.on.size
          obtain ⟨hEE, hS⟩ := play_sim h1 (Nat.le_refl m) h2 PR1.out PR2.out HNO.out (fun _ _ => Or.inr rfl)
          have HSN := hidden (sim_seen H10.out.pi.good k10.pi.good hS)
          have HT1 := hidden (sim_tag H10.out.pi.good k10.pi.good hS)
          have HT2 := hidden (sim_tag k10.pi.good H10.out.pi.good hS.symm)
          have HEE := hidden hEE
          clear pr2 pb2 k10 lg2 lge2 H9 K9 O9 B9 SS9 hEE hS N12 N2G
          obtain ⟨O1, hO1⟩ : ∃ O1, O1 = seenL s1 a1.1 (listX X1 8) := ⟨_, rfl⟩
          obtain ⟨O2, hO2⟩ : ∃ O2, O2 = seenL s2 a2.1 (listX X2 8) := ⟨_, rfl⟩
          have HO1 := hidden hO1
          have HO2 := hidden hO2
          have HOE : Hid (O1 = O2) := by show _ = _; rw [hO1, hO2]; exact HSN.out
          have HOL : Hid (O1.length ≤ 100000) := by
            show _ ≤ _
            rw [hO1]
            exact seen_len H10.out.pi.good
          clear hO1 hO2 HSN
          go_upto_region 19 with (first
            | (go_at_call 14; refine (sameErrs_yes _ H10.out.errs K10.out.errs (by have := HJ.out; unfold maxLen; omega) HEE.out).mono ?_; rintro e w11 ⟨rfl, q11, hw11⟩; have H11 := hidden (H10.out.is hw11); have K11 := hidden (K10.out.is hw11); have O11 : Hid (PI kb3 p3 w11 (St.new 32768) ⟨32768, 0, []⟩ 0) := (by rw [hw11]; exact O10.out.drewN q11); have B11 : Hid (Below w.heap.size w w11) := (by rw [hw11]; exact below_drewN B10.out q11); have S11 : Hid (SS4 w11 (some ⟨g, 0, none⟩) N c T2) := (by rw [hw11]; exact SS10.out.frame (S := fun _ => False) ((Only.refl _ _).drewN _) (fun _ _ _ => id)); have Z11 : Hid (w10.heap.size ≤ w11.heap.size) := (by rw [hw11]; exact Nat.le_refl _); clear hw11; obtain ⟨a0, _, _⟩ := H11.out.pi.cells)
            | (go_at_call 16; first | (refine (mArena (p := p2) (kb := kb2) _ b0).mono ?_; rintro e w' ⟨rfl, hw'⟩; rw [hw']; clear hw' w') | (refine (mArena (p := p1) (kb := kb1) _ a0).mono ?_; rintro e w' ⟨rfl, hw'⟩; rw [hw']; clear hw' w'))
            | (go_at_call 25; refine (seen_any (X := X2) (m := 8) _ K12.out.pi.ar K12.out.pi.rep (K12.out.ws cc2) (by omega) (by omega) HT2.out).mono ?_; rintro e w13 ⟨go2, co2, rfl, is2, lo2, b13⟩; have H13 := hidden (H12.out.below b13 rfl); have O13 := hidden (O12.out.below b13 rfl); have B13 := hidden (B12.out.trans (b13.mono B12.out.size)); have S13 := hidden (S12.out.frame (S := fun _ => False) (Only.of_below b13) (fun _ _ _ => id)); have Z13 := hidden b13.size; rw [← HO2.out, ← HOE.out] at is2 ⊢; have IS2 := hidden is2; have IS1' := hidden (IS1.out.frame (S := fun _ => False) (Only.of_below b13) (fun _ _ _ => id)); clear is2 lo2 b13)
            | (go_at_call 25; refine (seen_any (X := X1) (m := 8) _ H11.out.pi.ar H11.out.pi.rep (H11.out.ws cc1) (by omega) (by omega) HT1.out).mono ?_; rintro e w12 ⟨go1, co1, rfl, is1, lo1, b12⟩; have H12 := hidden (H11.out.below b12 rfl); have K12 := hidden (K11.out.below b12 rfl); have O12 := hidden (O11.out.below b12 rfl); have B12 := hidden (B11.out.trans (b12.mono B11.out.size)); have S12 := hidden (S11.out.frame (S := fun _ => False) (Only.of_below b12) (fun _ _ _ => id)); have Z12 := hidden b12.size; rw [← HO1.out] at is1 ⊢; have IS1 := hidden is1; clear is1 lo1 b12; obtain ⟨b0, _, _⟩ := K12.out.pi.cells)
            | (go_at_call 24; refine (sameNums_yes _ IS1'.out IS2.out (by have := HOL.out; unfold maxLen; omega) (fun _ _ => rfl)).mono ?_; rintro e w14 ⟨rfl, q14, hw14⟩; have H14 := hidden (H13.out.is hw14); have O14 : Hid (PI kb3 p3 w14 (St.new 32768) ⟨32768, 0, []⟩ 0) := (by rw [hw14]; exact O13.out.drewN q14); have B14 : Hid (Below w.heap.size w w14) := (by rw [hw14]; exact below_drewN B13.out q14); have S14 : Hid (SS4 w14 (some ⟨g, 0, none⟩) N c T2) := (by rw [hw14]; exact S13.out.frame (S := fun _ => False) ((Only.refl _ _).drewN _) (fun _ _ _ => id)); have Z14 : Hid (w13.heap.size ≤ w14.heap.size) := (by rw [hw14]; exact Nat.le_refl _); clear hw14))
          clear H10 K10 O10 B10 SS10 H11 K11 O11 B11 S11 H12 K12 O12 B12 S12 H13 O13 B13 S13 IS1 IS2 IS1' a0 b0 HO2 HOE HT1 HT2 HEE PR2 N23 L2
          go_wp2_with fail
          go_loop [104] (fun iv => ∃ j : Nat, j ≤ N ∧ iv = .int .i64 j ∧ Hid (∀ i, i < j → E1 i ≠ 10)) (fun i => N - (intOf i).toNat)
          case atStart => exact ⟨0, Nat.zero_le _, rfl, fun i hi => absurd hi (Nat.not_lt_zero _)⟩
          case round =>
            obtain ⟨j2, hj2, rfl, HNE⟩ := hrel
            by_cases hlt2 : j2 < N
            · have hc := is_at H14.out.errs hlt2
              have x1 : (0 : Int) ≤ (j2 : Int) := by omega
              have x2 : (j2 : Int) < (N : Int) := by omega
              have HNX : Hid (E1 j2 ≠ 10 → ∀ i, i < j2 + 1 → E1 i ≠ 10) := fun h i hi => by
                by_cases e : i = j2
                · subst e; exact h
                · exact HNE.out i (by omega)
              generalize E1 j2 = ej at *
              by_cases e10 : ej = 10
              · have bb : (ej == 10) = true := by rw [e10]; rfl
                clear HNX e10
                go_wp2_with fail
                go_ret
                exact ⟨rfl, B14.out⟩
              · have bb : (ej == 10) = false := beq_eq_false_iff_ne.2 e10
                have HN2 := hidden (HNX.out e10)
                clear HNX e10
                go_wp2_with fail
                go_round
                case rel => exact ⟨j2 + 1, by omega, by go_num, HN2⟩
                case measure => simp [intOf]; omega
            · have ej2 : j2 = N := by omega
              have hnl2 : ¬ ((j2 : Int) < (N : Int)) := by omega
              have HNA : Hid (∀ i, i < N → E1 i ≠ 10) := by rw [← ej2]; exact HNE.out
              clear HNE hlt2 hj2 ej2
              obtain ⟨c0, c1, c2⟩ := O14.out.cells
              have HK1 := hidden (lt_of_some O14.out.mem)
              go_wp2_with fail
              refine (real_any _ c0 HK1.out).mono ?_
              rintro e w15 ⟨rfl, b15⟩
              have H15 := hidden (H14.out.below b15 rfl)
              have O15 := hidden (O14.out.below b15 rfl)
              have B15 := hidden (B14.out.trans (b15.mono B14.out.size))
              have S15 := hidden (S14.out.frame (S := fun _ => False) (Only.of_below b15) (fun _ _ _ => id))
              have Z15 := hidden b15.size
              clear b15 c0 c1 c2 HK1 H14 O14 B14 S14
              go_wp2_with fail
              refine (play_any (real_does kb3 p3) false _ (⟨32768, 0, []⟩, 0) ⟨_, O15.out⟩ S15.out (fun x e hl => ?_) (by have := HJ.out; unfold maxLen; omega)).mono ?_
              · cases e
                refine ⟨NG1.out.2.2, ?_⟩
                have h4 := GL4.out
                have h5 := Z5.out
                have h6 := Z6.out
                have h7 := Z7.out
                have h8 := Z8.out
                have h9 := Z9.out
                have h10 := Z10.out
                have h11 := Z11.out
                have h12 := Z12.out
                have h13 := Z13.out
                have h14 := Z14.out
                have h15 := Z15.out
                simp only
                omega
              rintro e w16 ⟨g3, cc3, ge3, ce3, a3, X3, E3, rfl, pr3, pb3⟩
              rw [HMN.out] at pr3 pb3 ⊢
              obtain ⟨s3, k16, lg3, lge3⟩ := h4_of pb3
              have K16 := hidden k16
              have N3G : Hid (¬ Pown kb3 p3 g1 ∧ ¬ Pown kb3 p3 ge1) := ⟨fun hc => by
                have := (L3.out _ hc).2; have := LG1.out.1; have := Z7.out; omega, fun hc => by
                have := (L3.out _ hc).2; have := LG1.out.2; have := Z7.out; omega⟩
              have H16 := hidden (H15.out.frame pb3.on (fun q h1 h2 => N13.out q h2 h1) N3G.out.1 N3G.out.2)
              have B16 := hidden (only_up B15.out (Nat.le_refl _) pb3.on (fun q hq => by
                have := (L3.out q hq).1
                have h4 := GL4.out
                have := HG.out
                have := Z5.out
                omega))
              obtain ⟨hEE, hS⟩ := play_sim h1 h2 (Nat.le_refl _) PR1.out pr3 HNO.out (fun i hi => Or.inl (HNA.out i hi))
              have HSN := hidden (sim_seen H16.out.pi.good k16.pi.good hS)
              have HT1 := hidden (sim_tag H16.out.pi.good k16.pi.good hS)
              have HT2 := hidden (sim_tag k16.pi.good H16.out.pi.good hS.symm)
              have HEE := hidden hEE
              have HN3 : Hid (∀ i, i < N → E3 i ≠ 10) := fun i hi => by rw [← hEE i hi]; exact HNA.out i hi
              clear pr3 pb3 k16 lg3 lge3 H15 O15 B15 S15 hEE hS N3G PR1 N13 NG1 HNO HNA
              obtain ⟨O3, hO3⟩ : ∃ O3, O3 = seenL s3 a3.1 (listX X3 8) := ⟨_, rfl⟩
              have HO3 := hidden hO3
              have HOE : Hid (O1 = O3) := by show _ = _; rw [HO1.out, hO3]; exact HSN.out
              clear hO3 HSN
              go_wp2_with fail
              go_loop [122] (fun iv => ∃ j : Nat, j ≤ N ∧ iv = .int .i64 j) (fun i => N - (intOf i).toNat)
              case atStart => exact ⟨0, Nat.zero_le _, rfl⟩
              case round =>
                obtain ⟨j3, hj3, rfl⟩ := hrel
                by_cases hlt3 : j3 < N
                · have hc := is_at K16.out.errs hlt3
                  have x1 : (0 : Int) ≤ (j3 : Int) := by omega
                  have x2 : (j3 : Int) < (N : Int) := by omega
                  have bb : (E3 j3 == 10) = false := beq_eq_false_iff_ne.2 (HN3.out j3 hlt3)
                  generalize E3 j3 = ej at *
                  go_wp2_with fail
                  go_round
                  case rel => exact ⟨j3 + 1, by omega, by go_num⟩
                  case measure => simp [intOf]; omega
                · have hnl3 : ¬ ((j3 : Int) < (N : Int)) := by omega
                  clear hlt3 hj3 HN3
                  go_wp2_with (first
                    | (go_at_call 14; refine (sameErrs_yes _ H16.out.errs K16.out.errs (by have := HJ.out; unfold maxLen; omega) HEE.out).mono ?_; rintro e w17 ⟨rfl, q17, hw17⟩; have H17 := hidden (H16.out.is hw17); have K17 := hidden (K16.out.is hw17); have B17 : Hid (Below w.heap.size w w17) := (by rw [hw17]; exact below_drewN B16.out q17); clear hw17; obtain ⟨a0, _, _⟩ := H17.out.pi.cells)
                    | (go_at_call 16; first | (refine (mArena (p := p3) (kb := kb3) _ b0).mono ?_; rintro e w' ⟨rfl, hw'⟩; rw [hw']; clear hw' w') | (refine (mArena (p := p1) (kb := kb1) _ a0).mono ?_; rintro e w' ⟨rfl, hw'⟩; rw [hw']; clear hw' w'))
                    | (go_at_call 25; refine (seen_any (X := X3) (m := 8) _ K18.out.pi.ar K18.out.pi.rep (K18.out.ws cc3) (by omega) (by omega) HT2.out).mono ?_; rintro e w19 ⟨go2, co2, rfl, is2, lo2, b19⟩; have B19 := hidden (B18.out.trans (b19.mono B18.out.size)); rw [← HO3.out, ← HOE.out] at is2 ⊢; have IS2 := hidden is2; have IS1' := hidden (IS1.out.frame (S := fun _ => False) (Only.of_below b19) (fun _ _ _ => id)); clear is2 lo2 b19)
                    | (go_at_call 25; refine (seen_any (X := X1) (m := 8) _ H17.out.pi.ar H17.out.pi.rep (H17.out.ws cc1) (by omega) (by omega) HT1.out).mono ?_; rintro e w18 ⟨go1, co1, rfl, is1, lo1, b18⟩; have K18 := hidden (K17.out.below b18 rfl); have B18 := hidden (B17.out.trans (b18.mono B17.out.size)); rw [← HO1.out] at is1 ⊢; have IS1 := hidden is1; clear is1 lo1 b18; obtain ⟨b0, _, _⟩ := K18.out.pi.cells)
                    | (go_at_call 24; refine (sameNums_yes _ IS1'.out IS2.out (by have := HOL.out; unfold maxLen; omega) (fun _ _ => rfl)).mono ?_; rintro e w20 ⟨rfl, q20, hw20⟩; have B20 : Hid (Below w.heap.size w w20) := (by rw [hw20]; exact below_drewN B19.out q20); clear hw20))
                  all_goals go_ret
                  all_goals exact ⟨rfl, B20.out⟩
end Go.Proofs.Ytjnlfnecmiklhaa

/-
  Layer 4's statement MemMore: whatever number of cells, how many more and steps are handed in, it returns true.
-/
namespace Go.Proofs.Ytjnlfnecmiklhaa
open Go.ChangeShapes Go.WideShapes Go.ChangeAt Go.RowKit Go.Deep
set_option linter.unusedVariables false
set_option maxHeartbeats 2000000
theorem mNew_at (n : Nat) (v : Int) (w : World) (hv : v = n) (h1 : 2 ≤ n) (h2 : n ≤ 32768) : Calls Try.prog 8 #[.int .i64 v] w fun e w' => PNewAs n w e w' := by
  subst hv; exact mNew_yes n w h1 h2
set_option maxRecDepth 100000 in
theorem more4_any (n k : Int) {al : Option Addr} {len cap : Nat} {T : Nat → St4} (w : World) (hn : RI n) (hk : 0 ≤ k ∧ k ≤ 65535) (hT : SS4 w al len cap T) (hlen : len ≤ maxLen) (hcap : len ≤ cap) : Calls Try.prog 6 #[.int .i64 n, .int .u16 k, .slice al len cap] w fun e w' => e = .returned (.bool true) ∧ Below w.heap.size w w' := by
  have HT := hidden hT
  obtain ⟨hk0, hk1⟩ := hk
  by_cases hr : n < 2 ∨ 32768 < n
  · clear hT HT
    by_cases c1 : n < 2
    · go_enter Try.func6, Try.ntmps6
      go_wp2_with (first
        | (go_at_call 7; refine (awake4_any _).mono ?_; rintro e w1 ⟨rfl, b1⟩; have B1 := hidden b1; clear b1)
        | (go_at_call 8; refine (mNew_no n _ hr).mono ?_; rintro e w2 ⟨rfl, hw2⟩; rw [hw2]; clear hw2 w2))
      all_goals go_ret
      all_goals exact ⟨rfl, B1.out⟩
    · have c2 : 32768 < n := by omega
      go_enter Try.func6, Try.ntmps6
      go_wp2_with (first
        | (go_at_call 7; refine (awake4_any _).mono ?_; rintro e w1 ⟨rfl, b1⟩; have B1 := hidden b1; clear b1)
        | (go_at_call 8; refine (mNew_no n _ hr).mono ?_; rintro e w2 ⟨rfl, hw2⟩; rw [hw2]; clear hw2 w2))
      all_goals go_ret
      all_goals exact ⟨rfl, B1.out⟩
  obtain ⟨m, rfl⟩ : ∃ m : Nat, n = m := ⟨n.toNat, by omega⟩
  obtain ⟨d, rfl⟩ : ∃ d : Nat, k = d := ⟨k.toNat, by omega⟩
  have h1 : 2 ≤ m := by omega
  have h2 : m ≤ 32768 := by omega
  have y1 : ¬ ((m : Int) < 2) := by omega
  have y2 : ¬ ((32768 : Int) < (m : Int)) := by omega
  clear hr hn
  go_enter Try.func6, Try.ntmps6
  go_wp2_with fail
  refine (awake4_any _).mono ?_
  rintro e w1 ⟨rfl, b1⟩
  have B1 := hidden b1
  clear b1
  obtain ⟨N, hN⟩ : ∃ N, N = min len 80 := ⟨_, rfl⟩
  have HNN := hidden hN
  clear hN
  go_upto_region 5 with fail
  go_cut [7] from 27 to 33 (fun v wx => ∃ g c, v = .slice (some ⟨g, 0, none⟩) N c ∧ OwnS wx g N T ∧ w1.heap.size ≤ g ∧ Below w1.heap.size w1 wx)
  case first =>
    have HT1 : Hid (SS4 (w1.alloc (.cells #[] 62)) al len cap T) := hT.frame (S := fun _ => False) (Only.of_below (B1.out.alloc B1.out.size _)) (fun _ _ _ => id)
    cases al with
    | none =>
      obtain ⟨rfl, rfl⟩ := hT.nil rfl
      clear hT
      have eN : N = 0 := by have := HNN.out; omega
      go_wp2_with fail
      go_meet
      subst eN
      exact ⟨w1.heap.size, 0, rfl, ⟨#[], blk_alloc_new _ _, fun i hi => absurd hi (Nat.not_lt_zero _)⟩, Nat.le_refl _, (Below.refl _ _).alloc (Nat.le_refl _) _⟩
    | some ad =>
      by_cases h80 : 80 < len
      · have x1 : (80 : Int) < (len : Int) := by omega
        have x2 : (80 : Int) ≤ (cap : Int) := by omega
        have eN : N = 80 := by have := HNN.out; omega
        clear hT
        go_wp2_with (at_builtin; refine append_steps rfl (.tmp 27) (.tmp 32) rfl w1.heap.size rfl (blk_alloc_new _ _) (some ad) 80 cap T rfl (fun h => by cases h) (fun ad' e => ss4_cells HT1.out e (by omega)) (by omega) ?_; intro g2 c2 w2 ho2 gr2 hg2; have O2 := hidden ho2; have B2 := hidden (below_made4 gr2); clear ho2 gr2)
        go_meet
        subst eN
        exact ⟨g2, c2, rfl, O2.out, hg2, B2.out⟩
      · have x1 : ¬ (80 : Int) < (len : Int) := by omega
        have x2 : (len : Int) ≤ (cap : Int) := by omega
        have eN : N = len := by have := HNN.out; omega
        clear hT
        go_wp2_with (at_builtin; refine append_steps rfl (.tmp 27) (.tmp 32) rfl w1.heap.size rfl (blk_alloc_new _ _) (some ad) len cap T rfl (fun h => by cases h) (fun ad' e => ss4_cells HT1.out e (by omega)) (by omega) ?_; intro g2 c2 w2 ho2 gr2 hg2; have O2 := hidden ho2; have B2 := hidden (below_made4 gr2); clear ho2 gr2)
        go_meet
        subst eN
        exact ⟨g2, c2, rfl, O2.out, hg2, B2.out⟩
  case rest =>
    obtain ⟨g, c, rfl, hO, hg, b2⟩ := hcut
    clear hT
    have HN : Hid (N ≤ 80 ∧ N ≤ len) := ⟨by have := HNN.out; omega, by have := HNN.out; omega⟩
    clear HNN
    have hN8 := HN.out.1
    have B2 := hidden (B1.out.trans (b2.mono B1.out.size))
    have HG : Hid (w.heap.size ≤ g) := Nat.le_trans B1.out.size hg
    have HO := hidden hO
    clear hO b2 hg
    go_wp2_with fail
    go_loopw [36] (fun iv wr => ∃ j : Nat, j ≤ N ∧ iv = .int .i64 j ∧ OwnS wr g N (fixes T j) ∧ Below w.heap.size w wr) (fun i _ => N - (intOf i).toNat)
    case atStart => exact ⟨0, Nat.zero_le _, rfl, by rw [fixes_zero]; exact HO.out, B2.out⟩
    case round =>
      clear HO B2
      obtain ⟨j, hj, rfl, hO, hb⟩ := hrel
      by_cases hlt : j < N
      · obtain ⟨k0, k1, _, _, kf⟩ := hO.cells hlt
        rw [fixes_at] at k0 k1
        have kf1 := kf (j * 4 + 1)
        have x1 : (0 : Int) ≤ (j : Int) := by omega
        have x2 : (j : Int) < (N : Int) := by omega
        have HY : Hid ((T j).k = 0 ∧ (T j).a = 202 → setA (fixes T j) j 0 = fixes T (j + 1)) := fixes_yes
        have HZ : Hid (¬ ((T j).k = 0 ∧ (T j).a = 202) → fixes T j = fixes T (j + 1)) := fixes_no
        have HOW := hidden hO
        have HBR := hidden hb
        clear hO hb kf
        generalize T j = tj at *
        by_cases e0 : tj.k = 0
        · have b0 : (tj.k == 0) = true := by rw [e0]; rfl
          by_cases e1 : tj.a = 202
          · have b1 : (tj.a == 202) = true := by rw [e1]; rfl
            have HE := hidden (HY.out ⟨e0, e1⟩)
            have HOS := hidden (HOW.out.set j 0)
            clear HY HZ e0 e1
            go_wp2_with fail
            go_roundw
            case rel => exact ⟨j + 1, by omega, by go_num, by rw [← HE.out]; exact HOS.out, HBR.out.setCell (p := ⟨g, j * 4 + 1, none⟩) HG.out _⟩
            case measure => simp [intOf]; omega
          · have b1 : (tj.a == 202) = false := beq_eq_false_iff_ne.2 e1
            have HE := hidden (HZ.out (fun h => e1 h.2))
            clear HY HZ e0 e1
            go_wp2_with fail
            go_roundw
            case rel => exact ⟨j + 1, by omega, by go_num, by rw [← HE.out]; exact HOW.out, HBR.out⟩
            case measure => simp [intOf]; omega
        · have b0 : (tj.k == 0) = false := beq_eq_false_iff_ne.2 e0
          have HE := hidden (HZ.out (fun h => e0 h.1))
          clear HY HZ e0
          go_wp2_with fail
          go_roundw
          case rel => exact ⟨j + 1, by omega, by go_num, by rw [← HE.out]; exact HOW.out, HBR.out⟩
          case measure => simp [intOf]; omega
      · have ej : j = N := by omega
        have hnl : ¬ ((j : Int) < (N : Int)) := by omega
        rw [ej] at hO
        have hSS : SS4 wr (some ⟨g, 0, none⟩) N c (fixes T N) := hO.ss c (fun i hi => by
          have hi2 : i < len := by have := HN.out; omega
          have e : fixes T N i = fixT (T i) := by unfold fixes; rw [if_pos hi]
          rw [e]; exact fix_rng (HT.out.rng i hi2))
        have HSS := hidden hSS
        have HNO : Hid (∀ i, i < N → (fixes T N i).k = 0 → (fixes T N i).a ≠ 202) := fun i hi => by
          have e : fixes T N i = fixT (T i) := by unfold fixes; rw [if_pos hi]
          rw [e]; exact fix_no
        have HGL := hidden hO.lt
        have B3 := hidden hb
        have HJ := hidden HN.out.1
        clear hO hb hSS HT hlt hj HN hlen hcap ej
        generalize fixes T N = T2 at *
        have z1 := wrapId ((m : Int) + (d : Int)) (by omega) (by omega)
        go_wp2_with fail
        refine (mNew_yes m _ h1 h2).mono ?_
        rintro e w4 ⟨kb1, p1, rfl, i4, b4, l4⟩
        have I4 := hidden i4
        have L1 : Hid (∀ q, Pown kb1 p1 q → w.heap.size ≤ q ∧ g < q ∧ q < w4.heap.size) := fun q hq => ⟨Nat.le_trans B3.out.size (l4 q hq), Nat.lt_of_lt_of_le HGL.out (l4 q hq), i4.lt q hq⟩
        have B4 := hidden (B3.out.trans (b4.mono B3.out.size))
        have SS4' := hidden (HSS.out.frame (S := fun _ => False) (Only.of_below b4) (fun _ _ _ => id))
        have GL4 := hidden (Nat.lt_of_lt_of_le HGL.out b4.size)
        clear i4 b4 l4 B3 HSS
        obtain ⟨m2, hm2⟩ : ∃ m2 : Nat, m2 = min (m + d) 32768 := ⟨_, rfl⟩
        have M2 : Hid (m ≤ m2 ∧ m2 ≤ 32768) := ⟨by omega, by omega⟩
        have HC : Hid (∀ w : World, 32768 < m + d → Calls Try.prog 8 #[.int .i64 32768] w fun e w' => PNewAs m2 w e w') := fun w hh => mNew_at m2 32768 w (by omega) (by omega) (by omega)
        have HD : Hid (∀ w : World, ¬ 32768 < m + d → Calls Try.prog 8 #[.int .i64 ((m : Int) + (d : Int))] w fun e w' => PNewAs m2 w e w') := fun w hh => mNew_at m2 _ w (by omega) (by omega) (by omega)
        clear hm2
        go_upto_region 13 with fail
        go_cut [10] from 60 to 65 (fun v wx => ∃ kb2 p2, v = .pointer (some ⟨kb2, 0, none⟩) ∧ PI kb2 p2 wx (St.new m2) ⟨m2, 0, []⟩ 0 ∧ Below w4.heap.size w4 wx ∧ ∀ q, Pown kb2 p2 q → w4.heap.size ≤ q)
        case first =>
          by_cases hh : 32768 < m + d
          · have x1 : (32768 : Int) < (m : Int) + (d : Int) := by omega
            go_wp2_with (go_at_call 8; refine (HC.out _ hh).mono ?_; rintro e w5 ⟨kb2, p2, rfl, i5, b5, l5⟩; have I5 := hidden i5; have B5 := hidden b5; have L5 := hidden l5; clear i5 b5 l5)
            go_meet
            exact ⟨kb2, p2, rfl, I5.out, B5.out, L5.out⟩
          · have x1 : ¬ (32768 : Int) < (m : Int) + (d : Int) := by omega
            go_wp2_with (go_at_call 8; refine (HD.out _ hh).mono ?_; rintro e w5 ⟨kb2, p2, rfl, i5, b5, l5⟩; have I5 := hidden i5; have B5 := hidden b5; have L5 := hidden l5; clear i5 b5 l5)
            go_meet
            exact ⟨kb2, p2, rfl, I5.out, B5.out, L5.out⟩
        case rest =>
          clear HC HD
          obtain ⟨kb2, p2, rfl, i5, b5, l5⟩ := hcut
          have I6 := hidden (I4.out.below b5 rfl)
          have K6 := hidden i5
          have L2 : Hid (∀ q, Pown kb2 p2 q → w4.heap.size ≤ q ∧ q < wc.heap.size) := fun q hq => ⟨l5 q hq, i5.lt q hq⟩
          have B6 := hidden (B4.out.trans (b5.mono B4.out.size))
          have SS6 := hidden (SS4'.out.frame (S := fun _ => False) (Only.of_below b5) (fun _ _ _ => id))
          have Z6 := hidden b5.size
          clear i5 b5 l5 B4 SS4' I4
          obtain ⟨c0, c1, c2⟩ := I6.out.cells
          have HK1 := hidden (lt_of_some I6.out.mem)
          go_wp2_with fail
          refine (real_any _ c0 HK1.out).mono ?_
          rintro e w7 ⟨rfl, b7⟩
          have I7 := hidden (I6.out.below b7 rfl)
          have K7 := hidden (K6.out.below b7 rfl)
          have B7 := hidden (B6.out.trans (b7.mono B6.out.size))
          have SS7 := hidden (SS6.out.frame (S := fun _ => False) (Only.of_below b7) (fun _ _ _ => id))
          have Z7 := hidden b7.size
          clear b7 c0 c1 c2 HK1 I6 K6 B6 SS6
          go_wp2_with fail
          refine (play_any (real_does kb1 p1) false _ (⟨m, 0, []⟩, 0) ⟨_, I7.out⟩ SS7.out (fun x e hl => ?_) (by have := HJ.out; unfold maxLen; omega)).mono ?_
          · cases e
            refine ⟨fun hc => ?_, ?_⟩
            · have := (L1.out _ hc).2.1
              simp only at this
              omega
            · have h4 := GL4.out
              have h6 := Z6.out
              have h7 := Z7.out
              simp only
              omega
          rintro e w8 ⟨g1, cc1, ge1, ce1, a1, X1, E1, rfl, pr1, pb1⟩
          have HMN : Hid (min N 80 = N) := Nat.min_eq_left HJ.out
          rw [HMN.out] at pr1 pb1 ⊢
          have PR1 : Hid (playR MM false T2 (⟨m, 0, []⟩, 0) N E1 a1 X1) := pr1
          obtain ⟨s1, h8, lg1, lge1⟩ := h4_of pb1
          have H8 := hidden h8
          have LG1 : Hid (w7.heap.size ≤ g1 ∧ w7.heap.size ≤ ge1) := ⟨lg1, lge1⟩
          have B8 := hidden (only_up B7.out (Nat.le_refl _) pb1.on (fun q hq => (L1.out q hq).1))
          have Z8 := hidden pb1.on.size
          have n12 : ∀ q, Pown kb2 p2 q → ¬ Pown kb1 p1 q := fun q h2 h1 => by
            have := (L1.out q h1).2.2
            have := (L2.out q h2).1
            omega
          have N12 := hidden n12
          have K8 := hidden (K7.out.frame pb1.on n12)
          have NG1 : Hid (¬ Pown kb1 p1 g ∧ ¬ Pown kb2 p2 g) := ⟨fun hc => by
            have := (L1.out g hc).2.1; omega, fun hc => by
            have := (L2.out g hc).1; have := GL4.out; omega⟩
          have SS8 := hidden (SS7.out.frame pb1.on (fun x e _ => by cases e; exact NG1.out.1))
          clear pr1 pb1 h8 lg1 lge1 n12 I7 K7 B7 SS7
          obtain ⟨c0, c1, c2⟩ := K8.out.cells
          have HK1 := hidden (lt_of_some K8.out.mem)
          go_wp2_with fail
          refine (real_any _ c0 HK1.out).mono ?_
          rintro e w9 ⟨rfl, b9⟩
          have H9 := hidden (H8.out.below b9 rfl)
          have K9 := hidden (K8.out.below b9 rfl)
          have B9 := hidden (B8.out.trans (b9.mono B8.out.size))
          have SS9 := hidden (SS8.out.frame (S := fun _ => False) (Only.of_below b9) (fun _ _ _ => id))
          have Z9 := hidden b9.size
          clear b9 c0 c1 c2 HK1 H8 K8 B8 SS8
          go_wp2_with fail
          refine (play_any (real_does kb2 p2) false _ (⟨m2, 0, []⟩, 0) ⟨_, K9.out⟩ SS9.out (fun x e hl => ?_) (by have := HJ.out; unfold maxLen; omega)).mono ?_
          · cases e
            refine ⟨NG1.out.2, ?_⟩
            have h4 := GL4.out
            have h6 := Z6.out
            have h7 := Z7.out
            have h8 := Z8.out
            have h9 := Z9.out
            simp only
            omega
          rintro e w10 ⟨g2, cc2, ge2, ce2, a2, X2, E2, rfl, pr2, pb2⟩
          rw [HMN.out] at pr2 pb2 ⊢
          have PR2 : Hid (playR MM false T2 (⟨m2, 0, []⟩, 0) N E2 a2 X2) := pr2
          obtain ⟨s2, k10, lg2, lge2⟩ := h4_of pb2
          have K10 := hidden k10
          have N2G : Hid (¬ Pown kb2 p2 g1 ∧ ¬ Pown kb2 p2 ge1) := ⟨fun hc => by
            have := (L2.out _ hc).2; have := LG1.out.1; have := Z7.out; omega, fun hc => by
            have := (L2.out _ hc).2; have := LG1.out.2; have := Z7.out; omega⟩
          have H10 := hidden (H9.out.frame pb2.on (fun q h1 h2 => N12.out q h2 h1) N2G.out.1 N2G.out.2)
          have B10 := hidden (only_up B9.out (Nat.le_refl _) pb2.on (fun q hq => by
            have := (L2.out q hq).1
            have h4 := GL4.out
            have := HG.out
            omega))
          have HPF : Hid (∀ M, M ≤ N → (∀ i, i < M → E1 i ≠ 10) → ∀ i, i < M → E1 i = E2 i) := fun M hM hE => by
            obtain ⟨a3, X3, p3⟩ := play_pre PR1.out hM
            obtain ⟨a4, X4, p4⟩ := play_pre PR2.out hM
            exact (play_sim h1 M2.out.1 M2.out.2 p3 p4 (fun i hi => HNO.out i (by omega)) (fun i hi => Or.inl (hE i hi))).1
          have HSM : Hid ((∀ i, i < N → E1 i ≠ 10) → Sim a1.1 a2.1 X1 X2) := fun hE => (play_sim h1 M2.out.1 M2.out.2 PR1.out PR2.out HNO.out (fun i hi => Or.inl (hE i hi))).2
          clear pr2 pb2 k10 lg2 lge2 H9 K9 B9 SS9 N12 N2G PR1 PR2 NG1 HNO LG1 L1 L2 M2
          go_wp2_with fail
          go_loopw [93] (fun iv wr => ∃ j q : Nat, j ≤ N ∧ iv = .int .i64 j ∧ Hid (∀ i, i < j → E1 i ≠ 10) ∧ wr = w10.drewN q) (fun i _ => N - (intOf i).toNat)
          case atStart => exact ⟨0, 0, Nat.zero_le _, rfl, fun i hi => absurd hi (Nat.not_lt_zero _), rfl⟩
          case round =>
            obtain ⟨j2, q2, hj2, rfl, HNE, hwr⟩ := hrel
            have H11 := hidden (H10.out.is hwr)
            have K11 := hidden (K10.out.is hwr)
            have B11 : Hid (Below w.heap.size w wr) := (by rw [hwr]; exact below_drewN B10.out q2)
            have HWR := hidden hwr
            clear hwr
            by_cases hlt2 : j2 < N
            · have hc := is_at H11.out.errs hlt2
              have hd := is_at K11.out.errs hlt2
              have x1 : (0 : Int) ≤ (j2 : Int) := by omega
              have x2 : (j2 : Int) < (N : Int) := by omega
              have HNX : Hid (E1 j2 ≠ 10 → ∀ i, i < j2 + 1 → E1 i ≠ 10) := fun h i hi => by
                by_cases e : i = j2
                · subst e; exact h
                · exact HNE.out i (by omega)
              by_cases e10 : E1 j2 = 10
              · rw [e10] at hc
                clear HNX e10 hd
                go_wp2_with fail
                go_ret
                exact ⟨rfl, B11.out⟩
              · have bb : (E1 j2 == 10) = false := beq_eq_false_iff_ne.2 e10
                have HN2 := hidden (HNX.out e10)
                have he2 : E1 j2 = E2 j2 := HPF.out (j2 + 1) (by omega) HN2.out j2 (by omega)
                rw [← he2] at hd
                have hne : (E1 j2 != E1 j2) = false := bne_self_eq_false _
                clear HNX e10 he2
                generalize E1 j2 = ej at *
                go_wp2_with fail
                go_quiet (fail)
                go_wp2_with fail
                go_roundw
                case rel => exact ⟨j2 + 1, _, by omega, by go_num, HN2, by rw [HWR.out]; exact World.drewN_drewN _ _ _⟩
                case measure => simp [intOf]; omega
            · have ej2 : j2 = N := by omega
              have hnl2 : ¬ ((j2 : Int) < (N : Int)) := by omega
              have hS := HSM.out (by rw [← ej2]; exact HNE.out)
              have HSN := hidden (sim_seen H11.out.pi.good K11.out.pi.good hS)
              have HT1 := hidden (sim_tag H11.out.pi.good K11.out.pi.good hS)
              have HT2 := hidden (sim_tag K11.out.pi.good H11.out.pi.good hS.symm)
              obtain ⟨O1, hO1⟩ : ∃ O1, O1 = seenL s1 a1.1 (listX X1 8) := ⟨_, rfl⟩
              obtain ⟨O2, hO2⟩ : ∃ O2, O2 = seenL s2 a2.1 (listX X2 8) := ⟨_, rfl⟩
              have HO1 := hidden hO1
              have HO2 := hidden hO2
              have HOE : Hid (O1 = O2) := by show _ = _; rw [hO1, hO2]; exact HSN.out
              have HOL : Hid (O1.length ≤ 100000) := by
                show _ ≤ _
                rw [hO1]
                exact seen_len H11.out.pi.good
              obtain ⟨a0, _, _⟩ := H11.out.pi.cells
              clear hO1 hO2 HSN hS HNE hlt2 hj2 ej2 HPF HSM H10 K10 B10 HWR
              go_wp2_with (first
                | (go_at_call 16; first | (refine (mArena (p := p2) (kb := kb2) _ b0).mono ?_; rintro e w' ⟨rfl, hw'⟩; rw [hw']; clear hw' w') | (refine (mArena (p := p1) (kb := kb1) _ a0).mono ?_; rintro e w' ⟨rfl, hw'⟩; rw [hw']; clear hw' w'))
                | (go_at_call 25; refine (seen_any (X := X2) (m := 8) _ K12.out.pi.ar K12.out.pi.rep (K12.out.ws cc2) (by omega) (by omega) HT2.out).mono ?_; rintro e w13 ⟨go2, co2, rfl, is2, lo2, b13⟩; have B13 := hidden (B12.out.trans (b13.mono B12.out.size)); rw [← HO2.out, ← HOE.out] at is2 ⊢; have IS2 := hidden is2; have IS1' := hidden (IS1.out.frame (S := fun _ => False) (Only.of_below b13) (fun _ _ _ => id)); clear is2 lo2 b13)
                | (go_at_call 25; refine (seen_any (X := X1) (m := 8) _ H11.out.pi.ar H11.out.pi.rep (H11.out.ws cc1) (by omega) (by omega) HT1.out).mono ?_; rintro e w12 ⟨go1, co1, rfl, is1, lo1, b12⟩; have K12 := hidden (K11.out.below b12 rfl); have B12 := hidden (B11.out.trans (b12.mono B11.out.size)); rw [← HO1.out] at is1 ⊢; have IS1 := hidden is1; clear is1 lo1 b12; obtain ⟨b0, _, _⟩ := K12.out.pi.cells)
                | (go_at_call 24; refine (sameNums_yes _ IS1'.out IS2.out (by have := HOL.out; unfold maxLen; omega) (fun _ _ => rfl)).mono ?_; rintro e w14 ⟨rfl, q14, hw14⟩; have B14 : Hid (Below w.heap.size w w14) := (by rw [hw14]; exact below_drewN B13.out q14); clear hw14))
              all_goals go_ret
              all_goals exact ⟨rfl, B14.out⟩
end Go.Proofs.Ytjnlfnecmiklhaa

/-
  A slice of layer 4's steps that came in, as its cells hold it. No condition but that it is read.
-/
namespace Go.Proofs.Ytjnlfnecmiklhaa
open Go.ChangeShapes Go.WideShapes Go.ChangeAt Go.RowKit Go.Deep
set_option linter.unusedVariables false
theorem cellsS4 : Try.prog.cellsOf 62 = 4 := by kernel_rfl
theorem cellsI4 : Try.prog.cellsOf 3 = 1 := by kernel_rfl
theorem add_pos4 (y : Addr) (j : Nat) : y.add (j + 1) = ⟨y.block, y.off + (j + 1), none⟩ := by
  unfold Addr.add; rw [if_neg (by omega)]
set_option maxRecDepth 100000 in
theorem steps4_open {H : Type} {enc : TypeId × Value → H} {w : World} {base : Nat} {spare : Nat → Bool} {held : Bool} {fuel : Nat} {al : Option Addr} {len cap : Nat} {x : DataW H × List MemPlace}
    (h : DataW.trod enc Try.prog w base spare held fuel 22 [.slice al len cap] = some x) : len ≤ maxLen ∧ ∃ T, SS4 w al len cap T := by
  rcases open_slice Try.underlying22 h with ⟨hcs, _⟩ | ⟨a, l, c, m, n, D, Pl, hcs, _, hl, hm, hmm, _, hx⟩
  · simp at hcs
    obtain ⟨rfl, rfl, rfl⟩ := hcs
    exact ⟨Nat.zero_le _, fun _ => ⟨0, 0, 0, 0⟩, fun _ => ⟨rfl, rfl⟩, fun i hi => by omega, fun i hi => by omega⟩
  · simp at hcs
    obtain ⟨rfl, rfl, rfl⟩ := hcs
    have hlm : len ≤ m := by rw [hmm]; split <;> omega
    refine ⟨by omega, ?_⟩
    have each : ∀ i, ∃ st : St4, i < len → ((w.cell? (a.add (i * 4)) = some (.int .i64 st.k) ∧ w.cell? ⟨(a.add (i * 4)).block, (a.add (i * 4)).off + 1, none⟩ = some (.int .i64 st.a) ∧ w.cell? ⟨(a.add (i * 4)).block, (a.add (i * 4)).off + 2, none⟩ = some (.int .i64 st.b) ∧ w.cell? ⟨(a.add (i * 4)).block, (a.add (i * 4)).off + 3, none⟩ = some (.int .i64 st.c)) ∧ (RI st.k ∧ RI st.a ∧ RI st.b ∧ RI st.c)) := by
      intro i
      by_cases hi : i < len
      · obtain ⟨cs', h1, h2⟩ := hx i (by omega)
        rw [cellsS4] at h1
        obtain ⟨_, hlen, hcell⟩ := World.cells?_some h1
        obtain ⟨xs, n', _, _, _, hxl, hf⟩ := DataW.trod_struct Try.underlying62 h2
        match cs', hlen with
        | [c0, c1, c2, c3], _ =>
          have f0 := hf 0 _ rfl
          have f1 := hf 1 _ rfl
          have f2 := hf 2 _ rfl
          have f3 := hf 3 _ rfl
          have hs : xs.length = 4 := hxl
          rw [List.getElem?_eq_getElem (by omega)] at f0 f1 f2 f3
          obtain ⟨z0, e0, _, w0⟩ := DataW.trod_int Try.underlying3 f0
          obtain ⟨z1, e1, _, w1⟩ := DataW.trod_int Try.underlying3 f1
          obtain ⟨z2, e2, _, w2⟩ := DataW.trod_int Try.underlying3 f2
          obtain ⟨z3, e3, _, w3⟩ := DataW.trod_int Try.underlying3 f3
          obtain rfl : c0 = .int .i64 z0 := by simpa [cellsI4] using e0
          obtain rfl : c1 = .int .i64 z1 := by simpa [cellsI4] using e1
          obtain rfl : c2 = .int .i64 z2 := by simpa [cellsI4] using e2
          obtain rfl : c3 = .int .i64 z3 := by simpa [cellsI4] using e3
          have d0 := hcell 0 (by omega)
          have d1 := hcell 1 (by omega)
          have d2 := hcell 2 (by omega)
          have d3 := hcell 3 (by omega)
          rw [add_pos4] at d1 d2 d3
          have d0' : w.cell? (a.add (i * 4)) = some (.int .i64 z0) := d0
          exact ⟨⟨z0, z1, z2, z3⟩, fun _ => ⟨⟨d0', d1, d2, d3⟩, ⟨(bounds_i64 w0).1, (bounds_i64 w0).2⟩, ⟨(bounds_i64 w1).1, (bounds_i64 w1).2⟩, ⟨(bounds_i64 w2).1, (bounds_i64 w2).2⟩, ⟨(bounds_i64 w3).1, (bounds_i64 w3).2⟩⟩⟩
      · exact ⟨⟨0, 0, 0, 0⟩, fun h => absurd h hi⟩
    obtain ⟨S, hS⟩ := Classical.axiomOfChoice each
    exact ⟨S, ⟨(fun h => by cases h), fun i hi => ⟨a, rfl, (hS i hi).1⟩, fun i hi => (hS i hi).2⟩⟩
end Go.Proofs.Ytjnlfnecmiklhaa

/-
  A slice of layer 4's steps that came in is no longer than its room. No condition but that it is read.
-/
namespace Go.Proofs.Ytjnlfnecmiklhaa
open Go.ChangeShapes Go.WideShapes Go.ChangeAt Go.RowKit Go.Deep
set_option linter.unusedVariables false
theorem steps4_cap {H : Type} {enc : TypeId × Value → H} {w : World} {base : Nat} {spare : Nat → Bool} {held : Bool} {fuel : Nat} {al : Option Addr} {len cap : Nat} {x : DataW H × List MemPlace}
    (h : DataW.trod enc Try.prog w base spare held fuel 22 [.slice al len cap] = some x) : len ≤ cap := by
  rcases open_slice Try.underlying22 h with ⟨hcs, _⟩ | ⟨a, l, c, m, n, D, Pl, hcs, _, hl, hm, hmm, _, hx⟩
  · simp at hcs
    obtain ⟨rfl, rfl, rfl⟩ := hcs
    exact Nat.le_refl _
  · simp at hcs
    obtain ⟨rfl, rfl, rfl⟩ := hcs
    omega
end Go.Proofs.Ytjnlfnecmiklhaa

/-
  Proved: whatever number of cells, how many more and steps are handed to MemMore, it returns true. No condition.
-/
namespace Go.Proofs.Ytjnlfnecmiklhaa.memMore
open Go.ChangeShapes Go.WideShapes Go.ChangeAt Go.RowKit
open Go.ChangeMaps (open_string shut_string)
set_option linter.unusedVariables false

theorem own : ownKnob Try.prog.godebug = none := by kernel_rfl
theorem laidOut : laidOutB Try.prog = true := by kernel_rfl

theorem walk (a0 : Int) (a1 : Int) (a2 : Option Addr) (len2 cap2 : Nat) (w : World) (w0 : (Lit.int .i64 a0).wf = true) (w1 : (Lit.int .u16 a1).wf = true) (hl2 : len2 ≤ maxLen) (T2 : Nat → St4) (w2 : SS4 w a2 len2 cap2 T2) (hc2 : len2 ≤ cap2) :
    Calls Try.prog 6 #[.int .i64 a0, .int .u16 a1, .slice a2 len2 cap2] w fun e w' => e = .returned (.bool true) ∧ Below w.heap.size w w' := by
  exact more4_any a0 a1 w (bounds_i64 w0) (bounds_u16 w1) w2 hl2 hc2

set_option maxRecDepth 100000 in
theorem lifted (os : Os) (started : os.Started) (H : Type) (enc : TypeId × Value → H) :
    ReturnsInHanded {} Try.checked os 6 .any (Rows.memMoreSpec.pre6 enc Try.prog Try.f6 Rows.memMoreRow.domain false) (Rows.memMoreSpec.post enc Try.prog Try.f6 false true false false) := by
  refine returnsInHanded_of_change (C := Try.checked) own started (by kernel_rfl) Try.func6
    (ChangeSpec.witness6 (enc := enc) (C := Try.checked) false ⟨#[], #[.int .i64 0, .int .u16 0, .slice none 0 0], []⟩ 8 (by kernel_rfl) (by kernel_rfl) (by kernel_rfl) (by kernel_rfl)) ?_
  intro W base args ds gs before hval0 hW hcnd _
  have hval : ∀ (j : Nat) t v, Try.f6.params[j]? = some t → args[j]? = some v → Value.okWide Try.prog W .any base t v := hval0
  have hW' := hW
  obtain ⟨p, q, hA0, hV, rfl, hfz, hnd⟩ := hW
  have hA : DataW.TrodAll enc Try.prog W 0 (fun _ => true) true Try.f6.params.toList args.toList ds p := hA0
  rw [Try.params6] at hA hval
  obtain ⟨v0, vs0, d0, ds0, p0, q0, hargs, rfl, rfl, h0, r0⟩ := trodAll_cons hA
  obtain ⟨v1, vs1, d1, ds1, p1, q1, rfl, rfl, rfl, h1, r1⟩ := trodAll_cons r0
  obtain ⟨v2, vs2, d2, ds2, p2, q2, rfl, rfl, rfl, h2, r2⟩ := trodAll_cons r1
  obtain ⟨rfl, rfl, rfl⟩ := trodAll_nil r2
  obtain rfl : args = #[v0, v1, v2] := by cases args; simp_all
  obtain ⟨rfl, rfl⟩ := trodVars_none hV
  obtain ⟨a0, rfl, rfl, rfl, w0⟩ := open_int Try.underlying3 (hval 0 3 v0 rfl rfl) h0
  obtain ⟨a1, rfl, rfl, rfl, w1⟩ := open_int Try.underlying69 (hval 1 69 v1 rfl rfl) h1
  obtain ⟨a2, len2, cap2, rfl⟩ := okWide_slice Try.underlying22 (hval 2 22 v2 rfl rfl)
  have k2 := h2
  have lt2 : ∀ x ∈ p2, x.block < W.heap.size := by obtain ⟨m, hm⟩ := k2; exact DataW.trod_lt m _ _ _ hm
  obtain ⟨hl2, T2, w2⟩ : len2 ≤ maxLen ∧ ∃ T, SS4 W a2 len2 cap2 T := by obtain ⟨fuel, hf⟩ := h2; exact steps4_open hf
  have hc2 : len2 ≤ cap2 := by obtain ⟨fuel, hf⟩ := h2; exact steps4_cap hf
  clear hA0 hval0
  refine (walk a0 a1 a2 len2 cap2 W w0 w1 hl2 T2 w2 hc2).mono fun e W' ⟨he, bel⟩ => ?_
  subst he
  exact ⟨_, rfl, _, _, _, [], _, [], hW', trodAll_mk1 (shut_bool Try.underlying4 _), (trodAll_cons_mk (shut_int Try.underlying3 w0) (trodAll_cons_mk (shut_int Try.underlying69 w1) (trodAll_cons_mk (Below.trod laidOut (by kernel_rfl) (of_decide_eq_true (by kernel_rfl)) k2 bel lt2) trodAll_mk0))), rfl, bel.frame _, fun h => by cases h⟩

theorem over : Rows.memMoreRow.holds Try.pinned (OpenSpec.ofChange Rows.memMoreSpec) :=
  OpenClaim.holds_of_wide 6 Try.f6 rfl rfl rfl rfl rfl rfl rfl ⟨rfl, rfl, rfl, rfl, rfl⟩ rfl rfl rfl rfl rfl (by kernel_rfl) Try.func6 (by kernel_rfl)
    (of_decide_eq_true (by kernel_rfl)) (by unfold Func.isWrapper; first | (rw [if_pos (by decide +kernel)]; kernel_rfl) | (rw [if_neg (by decide +kernel)]; exact ⟨rfl, rfl⟩))
    (fun os started H enc _ => lifted os started H enc)
theorem proved : Rows.MemMoreSaid := over
end Go.Proofs.Ytjnlfnecmiklhaa.memMore

namespace Go.Proofs.Ytjnlfnecmiklhaa
/-- The statement. -/
theorem memMore_holds : Rows.MemMoreSaid := memMore.proved
#print axioms memMore_holds
end Go.Proofs.Ytjnlfnecmiklhaa
