/-
  Layer 4: the program's Mem does what the plain machine says: so play with it does too.
-/
import Derived.Test.YtjnlfnecmiklhaaP4Alloc
import Derived.Test.YtjnlfnecmiklhaaL4ModelDoes
namespace Go.Proofs.Ytjnlfnecmiklhaa
open Go.ChangeShapes Go.WideShapes Go.ChangeAt Go.RowKit Go.Deep
set_option linter.unusedVariables false
set_option maxHeartbeats 1000000
section
variable {kb : Nat} {p : Pl} {w w' : World} {s : St} {r : RS} {k : Int} {X : Nat → Int} {t z : Int}
/-- What is asked of Alloc, behind it. -/
theorem palloc_as {g : Nat} {E W : Int} {Y : Nat → Int} {s' : St} {r' : RS} {k' : Int} {e : Ending} (h : PI kb p w s r k) (hx : RX X) (ha : PAllocAs kb p (some ⟨g, 0, none⟩) 8 E W Y s' r' k' w e w') (hal : MM.al (r, k) t z X E W Y (r', k')) (hW : R64 W) (hY : RX Y) :
    ∃ E W X' a' now, e = .returned (.tuple #[.int .u64 W, now, .int .i64 E]) ∧ MM.al (r, k) t z X E W X' a' ∧ (∃ s, PI kb p w' s a'.1 a'.2) ∧ Only (Pown kb p) w w' ∧ (∀ q, Pown kb p q → Pown kb p q ∨ w.heap.size ≤ q) ∧ R64 W ∧ (E = 0 → HeldAs (Pown kb p) w.heap.size g w' X' now) := by
  obtain ⟨now, h1, h2, h3, h4⟩ := ha
  refine ⟨E, W, Y, (r', k'), now, h1, hal, ⟨s', h2⟩, h3, fun q hq => Or.inl hq, hW, fun e0 => ?_⟩
  obtain ⟨al', c', e1, _, f1, o1⟩ := h4 e0
  obtain ⟨g', e2, og⟩ := o1 (fun e => by cases e)
  subst e2
  have hlo := f1 _ rfl
  exact ⟨g', c', e1, og, fun hc => by have := h.lt g' hc; exact absurd hlo (by simpa using this), Or.inr hlo, hY⟩
theorem coll_rx (h : PI kb p w s r k) (hx : RX X) : RX (fun i => collW s r (listX X 8) (X i)) := fun i hi => newW_rng h.ar h.rep (reach_good h.rep (listX X 8)) (X i) (hx i hi).1 (hx i hi).2
theorem zero_r64 : R64 0 := ⟨by decide, by decide⟩
theorem mAlloc_does {g c : Nat} (w : World) (h : PI kb p w s r k) (ho : Own w g 8 X) (hx : RX X) : Calls Try.prog 28 #[.pointer (some ⟨kb, 0, none⟩), .int .i64 t, .int .i64 z, .slice (some ⟨g, 0, none⟩) 8 c] w fun e w' => ∃ E W X' a' now, e = .returned (.tuple #[.int .u64 W, now, .int .i64 E]) ∧ MM.al (r, k) t z X E W X' a' ∧ (∃ s, PI kb p w' s a'.1 a'.2) ∧ Only (Pown kb p) w w' ∧ (∀ q, Pown kb p q → Pown kb p q ∨ w.heap.size ≤ q) ∧ R64 W ∧ (E = 0 → HeldAs (Pown kb p) w.heap.size g w' X' now) := by
  have hg := h.good
  have hws : WS w (some ⟨g, 0, none⟩) 8 c X := ws_own ho (fun i hi => (hx i hi).1) (fun i hi => (hx i hi).2)
  by_cases g0 : s.allocE t z = 0
  · refine (mAlloc_yes (t := t) (z := z) w h hws (by omega) g0).mono (fun e w' ha => ?_)
    exact palloc_as h hx ha (MM_al_yes hg (by omega) g0.symm) (allocW_r64 hg t z) hx
  · by_cases g1 : s.allocE t z = 10
    · by_cases gf : (r.n : Int) < (lenG r (reachG s r (listX X 8)) : Nat) + z + 1
      · refine (mAlloc_full (t := t) (z := z) w h hws (by omega) g1 gf).mono (fun e w' ha => ?_)
        exact palloc_as h hx ha (MM_al_full hg g1 gf 0 X) zero_r64 hx
      · refine (mAlloc_room (t := t) (z := z) w h hws (by omega) g1 gf).mono ?_
        rintro e w' ⟨s1, hs1, ha⟩
        exact palloc_as h hx ha (MM_al_room hg g1 gf hs1).2 (allocW_r64 hs1 t z) (coll_rx h hx)
    · refine (mAlloc_err (t := t) (z := z) w h hws (by omega) g0 g1).mono (fun e w' ha => ?_)
      have hA := MM_al_yes (k := k) (X := X) hg g1 (E := s.allocE t z) rfl
      have hw0 : s.allocW t z = 0 := by unfold St.allocW; rw [if_neg g0]
      have ha0 : r.after s t z = r := by unfold RS.after; rw [if_neg g0]
      rw [hw0, ha0] at hA
      exact palloc_as h hx ha hA zero_r64 hx
end
/-- The program's Mem, as play is given it. -/
noncomputable def realD (kb : Nat) (p : Pl) : Doer (RS × Int) where
  va := ⟨28, #[.pointer (some ⟨kb, 0, none⟩)], #[]⟩
  vf := ⟨33, #[.pointer (some ⟨kb, 0, none⟩)], #[]⟩
  vg := ⟨23, #[.pointer (some ⟨p.a, 0, none⟩)], #[]⟩
  vs := ⟨34, #[.pointer (some ⟨p.a, 0, none⟩)], #[]⟩
  vz := ⟨22, #[.pointer (some ⟨p.a, 0, none⟩)], #[]⟩
  M := MM
  I := fun w a => ∃ s, PI kb p w s a.1 a.2
  own := fun _ => Pown kb p
theorem real_does (kb : Nat) (p : Pl) : Does (realD kb p) where
  ok := ⟨fun _ _ => rfl, fun _ _ => rfl, fun _ _ => rfl, fun _ _ => rfl, fun _ _ => rfl⟩
  frame := fun ⟨s, h⟩ k hs => ⟨s, h.frame k hs⟩
  lt := fun ⟨s, h⟩ => h.lt
  alloc := by
    rintro w a g c X t z ⟨s, hI⟩ ho hg hx ht hz
    exact mAlloc_does w hI ho hx
  force := by
    rintro w a g c X ⟨s, hI⟩ ho hg hx
    have hs := hI.good
    have hp := pick_good hs
    refine (mForce w hI (ws_own ho (fun i hi => (hx i hi).1) (fun i hi => (hx i hi).2)) (by omega)).mono ?_
    rintro e w' ⟨go, s', h1, h2, h3, h4, h5⟩
    refine ⟨_, (collR s a.1 (listX X 8), wrap64 (a.2 + 1)), _, h1, ?_, ⟨s', h2⟩, h5, fun q hq => Or.inl hq, go, 8, rfl, h3, fun hc => ?_, Or.inr h4, coll_rx hI hx⟩
    · show (fun i => collW s a.1 (listX X 8) (X i)) = _ ∧ _ = _
      rw [← agree_collR hs hp]
      exact ⟨funext (fun i => agree_collW hs hp _ _), rfl⟩
    · have := hI.lt go hc
      omega
  get := by
    rintro w a x k ⟨s, hI⟩ hx hk
    have hs := hI.good
    have hp := pick_good hs
    refine (get_any x k w hI.ar hI.rep.fits hx.1 hx.2).mono ?_
    rintro e w' ⟨h1, h2⟩
    refine ⟨?_, h2⟩
    show e = .returned (.tuple #[.int .u64 ((pick a.1).get x k), .int .i64 ((pick a.1).fieldE x k)])
    rw [← agree_get hs hp, ← agree_fieldE hs hp]
    exact h1
  getR := by
    rintro w a x k ⟨s, hI⟩
    exact good_get (pick_good hI.good) x k
  set := by
    rintro w a x k v ⟨s, hI⟩ hx hk hv
    have hs := hI.good
    have hp := pick_good hs
    refine (set_any x k v w hI.ar hI.rep.fits hx.1 hx.2 hv.1 hv.2).mono ?_
    rintro e w' ⟨h1, h2, h3⟩
    exact ⟨_, (a.1.setR x k v, a.2), h1, ⟨agree_fieldE hs hp x k, rfl⟩, ⟨_, hI.moved h2 (put_rep hs x k v) h3⟩, h3.mono (fun q _ hq => own_sub q hq), fun q hq => Or.inl hq⟩
  size := by
    rintro w a x ⟨s, hI⟩ hx
    have hs := hI.good
    have hp := pick_good hs
    refine (size_of x w hI.ar hx.1 hx.2).mono ?_
    rintro e w' ⟨h1, h2⟩
    refine ⟨?_, h2⟩
    show e = .returned (.int .i64 ((pick a.1).size x))
    rw [← agree_size hs hp]
    exact h1
  sizeR := by
    rintro w a x ⟨s, hI⟩
    exact good_size (pick_good hI.good) x
end Go.Proofs.Ytjnlfnecmiklhaa
