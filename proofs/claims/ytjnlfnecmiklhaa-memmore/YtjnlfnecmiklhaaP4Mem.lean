/-
  Layer 4: the program's Mem in memory, and what its functions tell and make. Condition: it lies in memory, in one state with a list of blocks.
-/
import Derived.Test.YtjnlfnecmiklhaaL4Agree
import Derived.Test.YtjnlfnecmiklhaaC3Coll
namespace Go.Proofs.Ytjnlfnecmiklhaa
open Go.ChangeShapes Go.WideShapes Go.ChangeAt Go.RowKit Go.Deep
set_option linter.unusedVariables false
set_option maxHeartbeats 1000000

/-- A Mem lies in memory: its own block, its arena, how often there was a collection. -/
structure PI (kb : Nat) (p : Pl) (w : World) (s : St) (r : RS) (k : Int) : Prop where
  ar : Ar w p s
  rep : Rep s r
  mem : w.heap[kb]? = some (.cells #[.pointer (some ⟨p.a, 0, none⟩), .int .i64 k] 75 (0, 0))
def Pown (kb : Nat) (p : Pl) (q : Nat) : Prop := q = kb ∨ q = p.a ∨ p.own q
section
variable {kb : Nat} {p : Pl} {w w' : World} {s : St} {r : RS} {k : Int} {al : Option Addr} {m c : Nat} {X : Nat → Int}
theorem PI.good (h : PI kb p w s r k) : Good s r := .of h.ar h.rep
theorem PI.sep (h : PI kb p w s r k) : kb ≠ p.a ∧ ¬ p.own kb := by
  refine ⟨ty_two h.mem h.ar.ha (by decide), ?_⟩
  rintro (e | e | e)
  · exact ty_two h.mem h.ar.hh (by decide) e
  · obtain ⟨cur, hc, _⟩ := h.ar.hc
    exact ty_two h.mem hc (by decide) e
  · obtain ⟨cur, hc, _⟩ := h.ar.hb
    exact ty_two h.mem hc (by decide) e
theorem PI.cells (h : PI kb p w s r k) : w.cell? ⟨kb, 0, none⟩ = some (.pointer (some ⟨p.a, 0, none⟩)) ∧ w.cell? ⟨kb, 1, none⟩ = some (.int .i64 k) ∧ w.frozen? ⟨kb, 1, none⟩ = false := by
  have hm := h.mem
  refine ⟨?_, ?_, ?_⟩ <;> simp [World.cell?, World.frozen?, hm]
theorem PI.frame {S : Nat → Prop} (h : PI kb p w s r k) (o : Only S w w') (hs : ∀ q, Pown kb p q → ¬ S q) : PI kb p w' s r k :=
  ⟨h.ar.frame o (hs _ (Or.inr (Or.inl rfl))) (hs _ (Or.inr (Or.inr (Or.inl rfl)))) (hs _ (Or.inr (Or.inr (Or.inr (Or.inl rfl))))) (hs _ (Or.inr (Or.inr (Or.inr (Or.inr rfl))))), h.rep, (o.block _ (lt_of_some h.mem) (hs kb (Or.inl rfl))).trans h.mem⟩
theorem PI.below {B : Nat} (h : PI kb p w s r k) (o : Below B w w') (hB : B = w.heap.size) : PI kb p w' s r k := by subst hB; exact h.frame (Only.of_below o) (fun _ _ => id)
theorem PI.lt (h : PI kb p w s r k) : ∀ q, Pown kb p q → q < w.heap.size := by
  rintro q (e | e | e | e | e) <;> subst e
  · exact lt_of_some h.mem
  · exact lt_of_some h.ar.ha
  · exact lt_of_some h.ar.hh
  · exact h.ar.hc.lt
  · exact h.ar.hb.lt
/-- Behind what writes to the arena alone. -/
theorem PI.moved {s' : St} {r' : RS} (h : PI kb p w s r k) (ha : Ar w' p s') (hr : Rep s' r') (o : Only p.own w w') : PI kb p w' s' r' k := ⟨ha, hr, (o.block _ (lt_of_some h.mem) h.sep.2).trans h.mem⟩
theorem PI.count (h : PI kb p w s r k) (k1 : Int) : PI kb p (w.setCell ⟨kb, 1, none⟩ (.int .i64 k1)) s r k1 := by
  obtain ⟨n1, n2⟩ := h.sep
  have o : Only (fun q => q = kb) w (w.setCell ⟨kb, 1, none⟩ (.int .i64 k1)) := (Only.refl (fun q => q = kb) w).setCell (a := ⟨kb, 1, none⟩) (Or.inr rfl) _
  refine ⟨h.ar.frame o (fun e => n1 e.symm) (fun e => n2 (Or.inl e.symm)) (fun e => n2 (Or.inr (Or.inl e.symm))) (fun e => n2 (Or.inr (Or.inr e.symm))), h.rep, ?_⟩
  have hm := h.mem
  simp [World.setCell, Array.getElem?_modify, hm]
theorem mOrNone (w : World) : Calls Try.prog 40 #[.pointer (some ⟨kb, 0, none⟩)] w fun e w' => e = .returned (.pointer (some ⟨kb, 0, none⟩)) ∧ w' = w := by
  go_enter Try.func40, Try.ntmps40
  go_wp2
  all_goals go_ret
  all_goals exact ⟨rfl, rfl⟩
theorem mArena (w : World) (h : w.cell? ⟨kb, 0, none⟩ = some (.pointer (some ⟨p.a, 0, none⟩))) : Calls Try.prog 16 #[.pointer (some ⟨kb, 0, none⟩)] w fun e w' => e = .returned (.pointer (some ⟨p.a, 0, none⟩)) ∧ w' = w := by
  go_enter Try.func16, Try.ntmps16
  go_wp2_with (go_at_call 40; refine (mOrNone _).mono ?_; rintro e w' ⟨rfl, rfl⟩)
  all_goals go_ret
  all_goals exact ⟨rfl, rfl⟩
theorem mCount (w : World) (h : w.cell? ⟨kb, 1, none⟩ = some (.int .i64 k)) : Calls Try.prog 15 #[.pointer (some ⟨kb, 0, none⟩)] w fun e w' => e = .returned (.int .i64 k) ∧ w' = w := by
  go_enter Try.func15, Try.ntmps15
  go_wp2_with (go_at_call 40; refine (mOrNone _).mono ?_; rintro e w' ⟨rfl, rfl⟩)
  all_goals go_ret
  all_goals exact ⟨rfl, rfl⟩
theorem mAdd (w : World) (h : w.cell? ⟨kb, 1, none⟩ = some (.int .i64 k)) (hf : w.frozen? ⟨kb, 1, none⟩ = false) : Calls Try.prog 58 #[.pointer (some ⟨kb, 1, none⟩)] w fun e w' => e = .returned (.tuple #[]) ∧ w' = w.setCell ⟨kb, 1, none⟩ (.int .i64 (wrap64 (k + 1))) := by
  go_enter Try.func58, Try.ntmps58
  go_wp2
  all_goals go_end0
  all_goals exact ⟨rfl, rfl⟩
/-- What a collection hands back, and how all lies then. -/
def PForceAs (kb : Nat) (p : Pl) (r1 : RS) (k1 : Int) (m : Nat) (Y : Nat → Int) (w : World) (e : Ending) (w' : World) : Prop := ∃ g s', e = .returned (.slice (some ⟨g, 0, none⟩) m m) ∧ PI kb p w' s' r1 k1 ∧ Own w' g m Y ∧ w.heap.size ≤ g ∧ Only (Pown kb p) w w'
set_option maxRecDepth 100000 in
theorem mCollect (w : World) (h : PI kb p w s r k) (hx : WS w al m c X) (hm : m ≤ 1000) : Calls Try.prog 57 #[.pointer (some ⟨p.a, 0, none⟩), .slice al m c, .func (.func 58) #[.pointer (some ⟨kb, 1, none⟩)] #[]] w fun e w' => PForceAs kb p (collR s r (listX X m)) (wrap64 (k + 1)) m (fun i => collW s r (listX X m) (X i)) w e w' := by
  have HI := hidden h
  have HX := hidden hx
  have hfn : ∀ (args : Array Value) (w : World), (callFunc 58 args).run Try.prog w = .ok (.enter 58 args) w := fun _ _ => rfl
  clear h hx
  go_enter Try.func57, Try.ntmps57
  go_wp2_with (first
    | (go_at_call 79; refine (collect_as _ HI.out.ar HI.out.rep HX.out hm).mono ?_; rintro e w1 ⟨g, s1, rfl, o1, hg, a1, r1, on1⟩; have I1 := hidden (HI.out.moved a1 r1 on1); have HG := hidden hg; have O1 := hidden o1; have ON1 := hidden on1; obtain ⟨q0, q1, q2⟩ := I1.out.cells; clear o1 hg a1 r1 on1)
    | (refine (mAdd _ q1 q2).mono ?_; rintro e w2 ⟨rfl, hw2⟩; have HW2 := hidden hw2; clear hw2))
  all_goals go_ret
  all_goals
    have o2 : Only (fun q => q = kb) w1 (w1.setCell ⟨kb, 1, none⟩ (.int .i64 (wrap64 (k + 1)))) := (Only.refl (fun q => q = kb) w1).setCell (a := ⟨kb, 1, none⟩) (Or.inr rfl) _
    have ok : ¬ g = kb := fun e => by
      have := lt_of_some HI.out.mem
      have := HG.out
      omega
    refine ⟨g, s1, rfl, ?_, ?_, HG.out, ?_⟩
    · rw [HW2.out]; exact I1.out.count _
    · rw [HW2.out]; exact O1.out.frame o2 ok
    · rw [HW2.out]; exact (ON1.out.mono (fun q _ h => Or.inr (Or.inr h))).trans (o2.mono (fun q _ h => Or.inl h))
set_option maxRecDepth 100000 in
theorem mForce (w : World) (h : PI kb p w s r k) (hx : WS w al m c X) (hm : m ≤ 1000) : Calls Try.prog 33 #[.pointer (some ⟨kb, 0, none⟩), .slice al m c] w fun e w' => PForceAs kb p (collR s r (listX X m)) (wrap64 (k + 1)) m (fun i => collW s r (listX X m) (X i)) w e w' := by
  obtain ⟨q0, q1, q2⟩ := h.cells
  have HI := hidden h
  have HX := hidden hx
  clear h hx
  go_enter Try.func33, Try.ntmps33
  go_wp2_with (go_at_call 40; refine (mOrNone _).mono ?_; rintro e w' ⟨rfl, hw'⟩; rw [hw']; clear hw' w')
  go_region_with (go_at_call 57; refine (mCollect _ (HI.out.frame (S := fun _ => False) ((Only.refl _ _).drewN 1) (fun _ _ => id)) (HX.out.drewN 1) hm).mono ?_; rintro e w1 ⟨g, s1, rfl, i1, o1, hg, on1⟩; have I1 := hidden i1; have HG := hidden hg; have O1 := hidden o1; have ON1 := hidden on1; clear i1 o1 hg on1)
  all_goals go_wp2
  all_goals go_ret
  all_goals exact ⟨g, s1, rfl, I1.out, O1.out, HG.out, ((Only.refl _ w).drewN 1).trans ON1.out⟩
end
end Go.Proofs.Ytjnlfnecmiklhaa
