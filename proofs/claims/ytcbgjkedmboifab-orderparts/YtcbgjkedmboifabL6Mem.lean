/-
  Layer 6: the statements' own layer in memory: both arenas, what was laid, how many may be laid still; what each step leaves of it. No program is named here but by its types' numbers.
-/
import Derived.Test.YtcbgjkedmboifabQ6Work
import Derived.Test.YtcbgjkedmboifabO6Queue
import Derived.Test.YtcbgjkedmboifabLibC
import Derived.Test.YtcbgjkedmboifabLibB
namespace Go.Proofs.Ytcbgjkedmboifab
open Go.ChangeShapes Go.WideShapes Go.ChangeAt Go.RowKit Go.Deep
set_option linter.unusedVariables false
set_option maxHeartbeats 1000000

/-- All blocks of both arenas. -/
def Aown (p : Pl) (rb : Nat) (a : Option Addr) (V : Nat → Value) (m q : Nat) : Prop := q = p.a ∨ p.own q ∨ Rown rb a q ∨ ∃ i, i < m ∧ ∃ n c, V i = .slice (some ⟨q, 0, none⟩) n c
/-- The layer lies in memory; O: all blocks that are its own. -/
def LaidIn (w : World) (lb : Nat) (p : Pl) (rb : Nat) (s : St) (r : RS) (had : List Int) (left : Int) (O : Nat → Prop) : Prop :=
  ∃ a cap V hv, w.heap[lb]? = some (.cells #[.pointer (some ⟨p.a, 0, none⟩), .pointer (some ⟨rb, 0, none⟩), hv, .int .i64 left] 39 (0, 0)) ∧ Two w p s rb r a cap V ∧ w.ownsRow 0 30 1 hv had.length (had.map u64v) ∧ (∀ x, x ∈ had → R64 x) ∧
    O lb ∧ (∀ q, Aown p rb a V r.L.length q → O q) ∧ (∀ k, hv.ownBlock = some k → O k ∧ ¬ Aown p rb a V r.L.length k) ∧ ∀ q, O q → q < w.heap.size
variable {w w' w3 w4 : World} {lb : Nat} {p : Pl} {rb : Nat} {s s' : St} {r r' : RS} {had : List Int} {left : Int} {O : Nat → Prop} {a a' : Option Addr} {cap cap' : Nat} {V V' : Nat → Value} {hv : Value}
theorem two_frame {S : Nat → Prop} (h : Two w p s rb r a cap V) (k : Only S w w') (hs : ∀ q, Aown p rb a V r.L.length q → ¬ S q) : Two w' p s rb r a cap V :=
  ⟨h.ar.frame k (hs _ (Or.inl rfl)) (hs _ (Or.inr (Or.inl (Or.inl rfl)))) (hs _ (Or.inr (Or.inl (Or.inr (Or.inl rfl))))) (hs _ (Or.inr (Or.inl (Or.inr (Or.inr rfl))))), h.bo.ar, rf_frame h.bo.rf k (fun q hq => hs q (Or.inr (Or.inr (Or.inl hq)))) (fun i hi q n c e => hs q (Or.inr (Or.inr (Or.inr ⟨i, hi, n, c, e⟩)))), h.bo.rep, h.bo.below⟩
theorem aown_lt (h : Two w p s rb r a cap V) : ∀ q, Aown p rb a V r.L.length q → q < w.heap.size := by
  obtain ⟨h1, h2⟩ := rf_lt h.bo.rf
  rintro q (rfl | hq | hq | ⟨i, hi, n, c, e⟩)
  · exact lt_of_some h.ar.ha
  · rcases hq with rfl | rfl | rfl
    · exact lt_of_some h.ar.hh
    · exact h.ar.hc.lt
    · exact h.ar.hb.lt
  · exact h1 q hq
  · exact h2 i hi q n c e
/-- A block of another type than the arenas' is none of theirs. -/
theorem aown_ty (h : Two w p s rb r a cap V) {cs : Array Value} (hl : w.heap[lb]? = some (.cells cs 39 (0, 0))) : ¬ Aown p rb a V r.L.length lb := by
  rintro (e | hq | hq | ⟨i, hi, n, c, e⟩)
  · exact ty_two hl (e ▸ h.ar.ha) (by decide) rfl
  · rcases hq with e | e | e
    · exact ty_two hl (e ▸ h.ar.hh) (by decide) rfl
    · obtain ⟨cur, hc, _⟩ := h.ar.hc
      exact ty_two hl (e ▸ hc) (by decide) rfl
    · obtain ⟨cur, hc, _⟩ := h.ar.hb
      exact ty_two hl (e ▸ hc) (by decide) rfl
  · rcases hq with e | e
    · exact ty_two hl (e ▸ h.bo.rf.hr) (by decide) rfl
    · obtain ⟨g, cur, e2, _, hg, _⟩ := h.bo.rf.hl.2.2.2 _ e
      cases e2
      exact ty_two hl hg (by decide) rfl
  · obtain ⟨g, e1, _, _, _, hcell⟩ := h.bo.rf.row (by omega)
    obtain ⟨_, _, _, a', cap', e2, hn, hf⟩ := hcell i _ (List.getElem?_eq_getElem hi)
    rw [e] at e2
    simp only [Value.slice.injEq] at e2
    obtain ⟨g', e3, _, cur, ho, _⟩ := hf ⟨lb, 0, none⟩ e2.1.symm
    cases e3
    exact ty_two hl ho (by decide) rfl
theorem own_frame {S : Nat → Prop} {v : Value} {n : Nat} {xs : List Value} {e : TypeId} {size : Nat} (h : w.ownsRow 0 e size v n xs) (k : Only S w w') (hs : ∀ q, v.ownBlock = some q → ¬ S q) : w'.ownsRow 0 e size v n xs := by
  obtain ⟨h1, h2⟩ := h
  refine ⟨h1, h2.imp id ?_⟩
  rintro ⟨g, cap, cur, rfl, e2, e3, e4⟩
  exact ⟨g, cap, cur, rfl, e2, (k.block g (lt_of_some e3) (hs g rfl)).trans e3, e4⟩
/-- Both arenas have changed, and nothing else. -/
theorem laid_step (hl : w.heap[lb]? = some (.cells #[.pointer (some ⟨p.a, 0, none⟩), .pointer (some ⟨rb, 0, none⟩), hv, .int .i64 left] 39 (0, 0))) (ht : Two w p s rb r a cap V) (ho : w.ownsRow 0 30 1 hv had.length (had.map u64v)) (hx : ∀ x, x ∈ had → R64 x)
    (hO : O lb ∧ (∀ q, Aown p rb a V r.L.length q → O q) ∧ (∀ k, hv.ownBlock = some k → O k ∧ ¬ Aown p rb a V r.L.length k) ∧ ∀ q, O q → q < w.heap.size)
    (k : Only (Aown p rb a V r.L.length) w w') (ht' : Two w' p s' rb r' a' cap' V') (hsub : ∀ q, Aown p rb a' V' r'.L.length q → Aown p rb a V r.L.length q ∨ w.heap.size ≤ q) : ∃ O', LaidIn w' lb p rb s' r' had left O' ∧ Grows O O' w w' := by
  have hlb := aown_ty ht hl
  refine ⟨fun q => O q ∨ (w.heap.size ≤ q ∧ q < w'.heap.size), ⟨a', cap', V', hv, (k.block lb (lt_of_some hl) hlb).trans hl, ht', own_frame ho k (fun q hq => (hO.2.2.1 q hq).2), hx, Or.inl hO.1, fun q hq => ?_, fun q hq => ⟨Or.inl (hO.2.2.1 q hq).1, fun c => ?_⟩, fun q hq => ?_⟩, k.mono (fun q _ hq => hO.2.1 q hq), fun q hq => ?_⟩
  · rcases hsub q hq with c | c
    · exact Or.inl (hO.2.1 q c)
    · exact Or.inr ⟨c, aown_lt ht' q hq⟩
  · have h1 := hO.2.2.1 q hq
    rcases hsub q c with c | c
    · exact h1.2 c
    · have := hO.2.2.2 q h1.1; omega
  · rcases hq with c | c
    · exact Nat.lt_of_lt_of_le (hO.2.2.2 q c) k.size
    · exact c.2
  · rcases hq with c | c
    · exact Or.inl c
    · exact Or.inr c.1
theorem own_aown {m : Nat} : ∀ q, p.own q → Aown p rb a V m q := fun q hq => Or.inr (Or.inl hq)
theorem rown_aown {m : Nat} : ∀ q, Rown rb a q → Aown p rb a V m q := fun q hq => Or.inr (Or.inr (Or.inl hq))
theorem fresh_sub {B m m' : Nat} (hf : Fresh B m V m' V') (hat : ∀ q, a' = some ⟨q, 0, none⟩ → a = some ⟨q, 0, none⟩ ∨ B ≤ q) : ∀ q, Aown p rb a' V' m' q → Aown p rb a V m q ∨ B ≤ q := by
  rintro q (e | hq | (e | e) | ⟨i, hi, n, c, e⟩)
  · exact Or.inl (Or.inl e)
  · exact Or.inl (Or.inr (Or.inl hq))
  · exact Or.inl (Or.inr (Or.inr (Or.inl (Or.inl e))))
  · rcases hat q e with c | c
    · exact Or.inl (Or.inr (Or.inr (Or.inl (Or.inr c))))
    · exact Or.inr c
  · rcases hf i hi with ⟨h1, h2⟩ | h1
    · exact Or.inl (Or.inr (Or.inr (Or.inr ⟨i, h1, n, c, by rw [← h2]; exact e⟩)))
    · exact Or.inr (h1 _ n c e)
/-- A block more in both arenas, or none. -/
theorem laid_alloc {t z : Int} (hl : w.heap[lb]? = some (.cells #[.pointer (some ⟨p.a, 0, none⟩), .pointer (some ⟨rb, 0, none⟩), hv, .int .i64 left] 39 (0, 0))) (ht : Two w p s rb r a cap V) (ho : w.ownsRow 0 30 1 hv had.length (had.map u64v)) (hx : ∀ x, x ∈ had → R64 x)
    (hO : O lb ∧ (∀ q, Aown p rb a V r.L.length q → O q) ∧ (∀ k, hv.ownBlock = some k → O k ∧ ¬ Aown p rb a V r.L.length k) ∧ ∀ q, O q → q < w.heap.size)
    (ha3 : Ar w3 p (s.alloc t z)) (o3 : Only p.own w w3) (rf4 : Rf w4 rb (r.after s t z) a' cap' V') (o4 : Only (Rown rb a) w3 w4) (hf : Fresh w3.heap.size r.L.length V (r.after s t z).L.length V') (hat : ∀ q, a' = some ⟨q, 0, none⟩ → a = some ⟨q, 0, none⟩ ∨ w3.heap.size ≤ q) :
    ∃ O', LaidIn w4 lb p rb (s.alloc t z) (r.after s t z) had left O' ∧ Grows O O' w w4 := by
  have bo3 := ht.left o3
  have t4 := play_two bo3 ha3 rf4 (rep_after bo3.rep ht.ar.t1 t z) o4
  refine laid_step hl ht ho hx hO ((o3.mono (fun q _ hq => own_aown q hq)).trans (o4.mono (fun q _ hq => rown_aown q hq))) t4 (fun q hq => ?_)
  rcases fresh_sub hf hat q hq with c | c
  · exact Or.inl c
  · exact Or.inr (Nat.le_trans o3.size c)
theorem put_withF {k : Nat} {b : Blk} {G : List Int} {x v : Int} {j : Nat} (hr : Rep s (r.withF k b G)) (hk : k < r.L.length) (hx : (b.ad : Int) = addrW x) (hj : j < G.length) : s.fieldE x j = 0 ∧ Rep (s.put x j v) (r.withF k b (G.set j v)) := by
  have hb := withF_at hk b G
  have hf := hr.find_blk' hb hx
  obtain ⟨he, hr2⟩ := rep_put (v := v) (i := j) hr hb (by rw [hf]) hj
  rw [withF_put] at hr2
  exact ⟨he, hr2⟩
/-- A field is written in both arenas. -/
theorem laid_set {k : Nat} {b : Blk} {G : List Int} {x v : Int} {j : Nat} {r7 : RS} (hl : w.heap[lb]? = some (.cells #[.pointer (some ⟨p.a, 0, none⟩), .pointer (some ⟨rb, 0, none⟩), hv, .int .i64 left] 39 (0, 0))) (ht : Two w p s rb (r.withF k b G) a cap V) (ho : w.ownsRow 0 30 1 hv had.length (had.map u64v)) (hx : ∀ x, x ∈ had → R64 x)
    (hO : O lb ∧ (∀ q, Aown p rb a V (r.withF k b G).L.length q → O q) ∧ (∀ k', hv.ownBlock = some k' → O k' ∧ ¬ Aown p rb a V (r.withF k b G).L.length k') ∧ ∀ q, O q → q < w.heap.size)
    (hk : k < r.L.length) (hxa : (b.ad : Int) = addrW x) (hj : j < G.length)
    (ha3 : Ar w3 p (s.put x j v)) (o3 : Only p.own w w3) (rf4 : Rf w4 rb r7 a cap V') (rep4 : Rep (s.put x j v) r7) (o4 : Only (Rown rb a) w3 w4) (hf : Fresh w3.heap.size (r.withF k b G).L.length V r7.L.length V') :
    ∃ O', LaidIn w4 lb p rb (s.put x j v) (r.withF k b (G.set j v)) had left O' ∧ Grows O O' w w4 := by
  obtain ⟨_, hr2⟩ := put_withF (v := v) ht.bo.rep hk hxa hj
  have e := good_unique (Good.of ha3 hr2) rep4
  rw [e] at rf4 rep4 hf
  have bo3 := ht.left o3
  have t4 := play_two bo3 ha3 rf4 rep4 o4
  refine laid_step hl ht ho hx hO ((o3.mono (fun q _ hq => own_aown q hq)).trans (o4.mono (fun q _ hq => rown_aown q hq))) t4 (fun q hq => ?_)
  rcases fresh_sub hf (fun q e => Or.inl e) q hq with c | c
  · exact Or.inl c
  · exact Or.inr (Nat.le_trans o3.size c)
/-- Something else has changed. -/
theorem LaidIn.under (h : LaidIn w lb p rb s r had left O) (k : Below w.heap.size w w') : LaidIn w' lb p rb s r had left O := by
  obtain ⟨a, cap, V, hv, h1, h2, h3, h4, h5, h6, h7, h8⟩ := h
  exact ⟨a, cap, V, hv, (k.block lb (lt_of_some h1)).trans h1, two_frame (S := fun _ => False) h2 (Only.of_below k) (fun _ _ => id), own_under h3 k, h4, h5, h6, h7, fun q hq => Nat.lt_of_lt_of_le (h8 q hq) k.size⟩
theorem LaidIn.frame {S : Nat → Prop} (h : LaidIn w lb p rb s r had left O) (k : Only S w w') (hs : ∀ q, O q → ¬ S q) : LaidIn w' lb p rb s r had left O := by
  obtain ⟨a, cap, V, hv, h1, h2, h3, h4, h5, h6, h7, h8⟩ := h
  exact ⟨a, cap, V, hv, (k.block lb (lt_of_some h1) (hs _ h5)).trans h1, two_frame h2 k (fun q hq => hs q (h6 q hq)), own_frame h3 k (fun q hq => hs q (h7 q hq).1), h4, h5, h6, h7, fun q hq => Nat.lt_of_lt_of_le (h8 q hq) k.size⟩
/-- How many may be laid still is set. -/
theorem laid_left (h : LaidIn w lb p rb s r had left O) (n : Int) : LaidIn (w.setCell ⟨lb, 3, none⟩ (.int .i64 n)) lb p rb s r had n O ∧ Grows O O w (w.setCell ⟨lb, 3, none⟩ (.int .i64 n)) := by
  obtain ⟨a, cap, V, hv, h1, h2, h3, h4, h5, h6, h7, h8⟩ := h
  have hlb := aown_ty h2 h1
  have hk : Only (fun q => q = lb) w (w.setCell ⟨lb, 3, none⟩ (.int .i64 n)) := (Only.refl (fun q => q = lb) w).setCell (a := ⟨lb, 3, none⟩) (Or.inr rfl) _
  have hne : ∀ q, hv.ownBlock = some q → q ≠ lb := fun q hq e => own_ne h3 h1 (by decide) (by rw [← e]; exact hq.symm)
  refine ⟨⟨a, cap, V, hv, ?_, two_frame h2 hk (fun q hq e => hlb (e ▸ hq)), own_frame h3 hk hne, h4, h5, h6, h7, fun q hq => by rw [nblk_setCell]; exact h8 q hq⟩, hk.mono (fun q _ e => e ▸ h5), fun q hq => Or.inl hq⟩
  simp [World.setCell, Array.getElem?_modify, h1]
/-- A word more was laid. -/
theorem laid_had {g cq : Nat} {x : Int} (hl : w.heap[lb]? = some (.cells #[.pointer (some ⟨p.a, 0, none⟩), .pointer (some ⟨rb, 0, none⟩), hv, .int .i64 left] 39 (0, 0))) (ht : Two w p s rb r a cap V) (ho : w.ownsRow 0 30 1 hv had.length (had.map u64v)) (hx : ∀ x, x ∈ had → R64 x)
    (hO : O lb ∧ (∀ q, Aown p rb a V r.L.length q → O q) ∧ (∀ k, hv.ownBlock = some k → O k ∧ ¬ Aown p rb a V r.L.length k) ∧ ∀ q, O q → q < w.heap.size) (hx2 : R64 x)
    (gr : w.grownBy w4 hv.ownBlock) (hat : hv.ownBlock = some g ∨ w.heap.size ≤ g) (hlt : g < w4.heap.size) (ho4 : w4.ownsRow 0 30 1 (.slice (some ⟨g, 0, none⟩) (had.length + 1) cq) (had.length + 1) (had.map u64v ++ [.int .u64 x])) :
    (w4.cell? ⟨lb, 2, none⟩ = some hv ∧ ∀ o, w4.frozen? ⟨lb, o, none⟩ = false) ∧ ∃ O', LaidIn (w4.setCell ⟨lb, 2, none⟩ (.slice (some ⟨g, 0, none⟩) (had.length + 1) cq)) lb p rb s r (had ++ [x]) left O' ∧ Grows O O' w (w4.setCell ⟨lb, 2, none⟩ (.slice (some ⟨g, 0, none⟩) (had.length + 1) cq)) := by
  have hlb := aown_ty ht hl
  have k4 : Only (fun q => hv.ownBlock = some q) w w4 := ⟨gr.os, gr.tape, gr.output, gr.size, fun i hi hs => gr.block i hi (fun e => hs e.symm)⟩
  have hl4 : w4.heap[lb]? = some (.cells #[.pointer (some ⟨p.a, 0, none⟩), .pointer (some ⟨rb, 0, none⟩), hv, .int .i64 left] 39 (0, 0)) := (k4.block lb (lt_of_some hl) (fun e => own_ne ho hl (by decide) e.symm)).trans hl
  have t4 := two_frame ht k4 (fun q hq e => (hO.2.2.1 q e).2 hq)
  have hk : Only (fun q => q = lb) w4 (w4.setCell ⟨lb, 2, none⟩ (.slice (some ⟨g, 0, none⟩) (had.length + 1) cq)) := (Only.refl (fun q => q = lb) w4).setCell (a := ⟨lb, 2, none⟩) (Or.inr rfl) _
  have hgl : g ≠ lb := fun e => own_ne ho4 hl4 (by decide) (by rw [e]; rfl)
  have hga : ¬ Aown p rb a V r.L.length g := by
    rcases hat with c | c
    · exact (hO.2.2.1 g c).2
    · intro h; have := aown_lt ht g h; omega
  refine ⟨⟨by simp [World.cell?, hl4], fun o => by simp [World.frozen?, hl4]⟩, fun q => O q ∨ q = g, ⟨a, cap, V, .slice (some ⟨g, 0, none⟩) (had.length + 1) cq, ?_, two_frame t4 hk (fun q hq e => hlb (e ▸ hq)), ?_, ?_, Or.inl hO.1, fun q hq => Or.inl (hO.2.1 q hq), fun k e => ?_, fun q hq => ?_⟩, ?_, fun q hq => ?_⟩
  · simp [World.setCell, Array.getElem?_modify, hl4]
  · rw [List.length_append, List.map_append]
    exact own_frame ho4 hk (fun q e => by have : g = q := by simpa [Value.ownBlock] using e
                                          rw [← this]; exact hgl)
  · intro y hy
    rcases List.mem_append.1 hy with c | c
    · exact hx y c
    · rw [List.mem_singleton.1 c]; exact hx2
  · have : g = k := by simpa [Value.ownBlock] using e
    subst this
    exact ⟨Or.inr rfl, hga⟩
  · rw [nblk_setCell]
    rcases hq with c | rfl
    · exact Nat.lt_of_lt_of_le (hO.2.2.2 q c) gr.size
    · exact hlt
  · exact (k4.mono (T := O) (fun q _ e => (hO.2.2.1 q e).1)).setCell (a := ⟨lb, 2, none⟩) (Or.inr hO.1) _
  · rcases hq with c | rfl
    · exact Or.inl c
    · rcases hat with c | c
      · exact Or.inl (hO.2.2.1 _ c).1
      · exact Or.inr c
end Go.Proofs.Ytcbgjkedmboifab
