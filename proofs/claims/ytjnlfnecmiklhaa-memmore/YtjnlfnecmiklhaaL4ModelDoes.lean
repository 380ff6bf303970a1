/-
  Layer 4: the document's own machine does what the plain machine says: so play with it does too.
-/
import Derived.Test.YtjnlfnecmiklhaaL4Model
import Derived.Test.YtjnlfnecmiklhaaL3Unique
namespace Go.Proofs.Ytjnlfnecmiklhaa
open Go.ChangeShapes Go.WideShapes Go.ChangeAt Go.RowKit Go.Deep
set_option linter.unusedVariables false
set_option maxHeartbeats 1000000

theorem good_get {s : St} {r : RS} (h : Good s r) (x k : Int) : R64 (s.get x k) := by
  unfold St.get
  split
  · exact ⟨h.lo _, h.hi _⟩
  · exact ⟨by decide, by decide⟩
theorem good_size {s : St} {r : RS} (h : Good s r) (x : Int) : -1 ≤ s.size x ∧ s.size x ≤ 100000 := by
  unfold St.size
  split
  · omega
  · rename_i g
    obtain ⟨k, b, hb, e⟩ := h.rep.block g
    rw [e, (h.rep.tagAt hb).2]
    have := (h.rep.tag k b hb).2.2
    omega
/-- The document's own machine, as play is given it. -/
noncomputable def modelD (kb rb : Nat) : Doer ((RS × Int) × Shape) where
  va := ⟨35, #[.pointer (some ⟨kb, 0, none⟩)], #[]⟩
  vf := ⟨36, #[.pointer (some ⟨kb, 0, none⟩)], #[]⟩
  vg := ⟨37, #[.pointer (some ⟨rb, 0, none⟩)], #[]⟩
  vs := ⟨38, #[.pointer (some ⟨rb, 0, none⟩)], #[]⟩
  vz := ⟨39, #[.pointer (some ⟨rb, 0, none⟩)], #[]⟩
  M := MLift MM
  I := fun w a => MI kb rb w a.1.1 a.1.2 a.2
  own := fun a => Mown kb rb a.1.1.L.length a.2
theorem model_does (kb rb : Nat) : Does (modelD kb rb) where
  ok := ⟨fun _ _ => rfl, fun _ _ => rfl, fun _ _ => rfl, fun _ _ => rfl, fun _ _ => rfl⟩
  frame := fun h k hs => MI.frame h k hs
  lt := fun h => MI.lt h
  alloc := by
    intro w a g c X t z hI ho hg hx ht hz
    refine (ralloc4_any (kb := kb) (rb := rb) (r := a.1.1) (k := a.1.2) (m := a.2) (g := g) (c := c) (X := X) (t := t) (z := z) w hI ho hx hz).mono ?_
    rintro e w' ⟨E, W, X', r', k', now, m1, h1, h2, h3, h4, h5, h6, h7⟩
    exact ⟨E, W, X', ((r', k'), m1), now, h1, h2, h3, h4, h5, h6, h7⟩
  force := by
    intro w a g c X hI ho hg hx
    obtain ⟨s, hs⟩ := MI.good hI
    refine (rforce_any (kb := kb) (rb := rb) (r := a.1.1) (k := a.1.2) (m := a.2) (g := g) (c := c) (X := X) w hI hs ho hx).mono ?_
    rintro e w' ⟨go, co, m1, h1, h2, h3, h4, h5, h6, h7⟩
    obtain ⟨w0, ha⟩ := good_ar hs w
    have hp := pick_good hs
    refine ⟨_, ((collR s a.1.1 (listX X 8), wrap64 (a.1.2 + 1)), m1), _, h1, ?_, h2, h5.mono (fun q _ hq => hq.elim Or.inl (fun e => Or.inr (Or.inl (Or.inl e)))), fun q hq => ?_, go, co, rfl, h3, h6, Or.inr h4, fun i hi => newW_rng ha hs.rep (reach_good hs.rep (listX X 8)) (X i) (hx i hi).1 (hx i hi).2⟩
    · show (fun i => collW s a.1.1 (listX X 8) (X i)) = _ ∧ _ = _
      rw [← agree_collR hs hp]
      exact ⟨funext (fun i => agree_collW hs hp _ _), rfl⟩
    · rcases h7 q hq with e | e | e
      · exact Or.inl (Or.inl e)
      · exact Or.inl (Or.inr (Or.inl (Or.inl e)))
      · exact Or.inr e
  get := by
    intro w a x k hI hx hk
    obtain ⟨s, hs⟩ := MI.good hI
    have hp := pick_good hs
    refine (rget_any x k w (MI.both hI hs) hx.1 hx.2).mono ?_
    rintro e w' ⟨h1, h2⟩
    refine ⟨?_, h2⟩
    show e = .returned (.tuple #[.int .u64 ((pick a.1.1).get x k), .int .i64 ((pick a.1.1).fieldE x k)])
    rw [← agree_get hs hp, ← agree_fieldE hs hp]
    exact h1
  getR := by
    intro w a x k hI
    obtain ⟨s, hs⟩ := MI.good hI
    exact good_get (pick_good hs) x k
  set := by
    intro w a x k v hI hx hk hv
    obtain ⟨s, hs⟩ := MI.good hI
    have hp := pick_good hs
    refine (rset_fresh x k v w (MI.both hI hs) hx.1 hx.2).mono ?_
    rintro e w' ⟨h1, r', V', rf, rep, on, fr⟩
    have gp := good_put hs x k v hv
    have er : r' = a.1.1.setR x k v := by
      have t2 := gp.t2
      have n2 := gp.n2
      have n1 := gp.n1
      have hb := gp.rep.base
      have hw := gp.rep.wh
      have hn := gp.rep.n
      have hb2 : (s.put x k v).base ≤ (s.put x k v).n := by
        rcases Nat.le_one_iff_eq_zero_or_eq_one.1 hw with e | e
        · rw [hb, e]; simp
        · rw [hb, e, hn]; simp
      exact rep_unique rep gp.rep (by omega) (by omega)
    subst er
    refine ⟨_, ((a.1.1.setR x k v, a.1.2), (a.2.1, a.2.2.1, V')), h1, ⟨agree_fieldE hs hp x k, rfl⟩, ⟨rf, ⟨_, gp⟩, (on.block _ (lt_of_some (MI.mem hI)) (fun hc => (MI.sep hI).2.1 kb hc rfl)).trans (MI.mem hI), MI.four hI⟩, on.mono (fun q _ hq => Or.inr (Or.inl hq)), ?_⟩
    rintro q (e | e | ⟨i, hi, n, c, e⟩)
    · exact Or.inl (Or.inl e)
    · exact Or.inl (Or.inr (Or.inl e))
    · rcases fr i hi with ⟨q1, q2⟩ | q1
      · exact Or.inl (Or.inr (Or.inr ⟨i, q1, n, c, by rw [← q2]; exact e⟩))
      · exact Or.inr (q1 ⟨q, 0, none⟩ n c e)
  size := by
    intro w a x hI hx
    obtain ⟨s, hs⟩ := MI.good hI
    have hp := pick_good hs
    refine (rsize_of x w (MI.both hI hs) hx.1 hx.2).mono ?_
    rintro e w' ⟨h1, h2⟩
    refine ⟨?_, h2⟩
    show e = .returned (.int .i64 ((pick a.1.1).size x))
    rw [← agree_size hs hp]
    exact h1
  sizeR := by
    intro w a x hI
    obtain ⟨s, hs⟩ := MI.good hI
    exact good_size (pick_good hs) x
end Go.Proofs.Ytjnlfnecmiklhaa
