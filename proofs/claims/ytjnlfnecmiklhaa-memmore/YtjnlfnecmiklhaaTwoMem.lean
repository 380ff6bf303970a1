/-
  The two arenas, the program's and the document's own, in one memory and in one state: what a method of the one leaves of the other. No program is named here.
-/
import Derived.Test.YtjnlfnecmiklhaaRefAllocAny
import Derived.Test.YtjnlfnecmiklhaaRefSetAny
namespace Go.Proofs.Ytjnlfnecmiklhaa
open Go.ChangeShapes Go.WideShapes Go.ChangeAt Go.RowKit Go.Deep
set_option linter.unusedVariables false

/-- The two arenas lie in one memory, in one state. -/
structure Two (w : World) (p : Pl) (s : St) (rb : Nat) (r : RS) (a : Option Addr) (cap : Nat) (V : Nat → Value) : Prop where
  ar : Ar w p s
  bo : Both w p s rb r a cap V
variable {w w' : World} {p : Pl} {s s' : St} {rb : Nat} {r r' : RS} {a a' : Option Addr} {cap cap' : Nat} {V V' : Nat → Value}
theorem Two.frame {S : Nat → Prop} (h : Two w p s rb r a cap V) (k : Only S w w') (hs : ∀ q, q < w.heap.size → ¬ S q) : Two w' p s rb r a cap V := by
  have k2 : Only (fun _ => False) w w' := k.mono (fun q hq c => hs q hq c)
  exact ⟨h.ar.frame k2 id id id id, ⟨h.bo.ar, h.bo.rf.frame k2 (fun _ _ => id), h.bo.rep, h.bo.below⟩⟩
theorem Two.alloc (h : Two w p s rb r a cap V) (o : Obj) : Two (w.alloc o) p s rb r a cap V := h.frame ((Only.refl (fun _ => False) w).alloc o) (fun _ _ => id)
theorem Two.drewN (h : Two w p s rb r a cap V) (n : Nat) : Two (w.drewN n) p s rb r a cap V := ⟨h.ar.drewN n, h.bo.drewN n⟩
/-- Behind a method of the program's arena: the document's own one is as it was. -/
theorem Two.left (h : Two w p s rb r a cap V) (k : Only p.own w w') : Both w' p s rb r a cap V := by
  obtain ⟨b1, b2, b3, b4⟩ := h.bo.below
  exact ⟨h.bo.ar, h.bo.rf.frame k (fun g hg hs => by unfold Pl.own at hs; omega), h.bo.rep, h.bo.below⟩
/-- Behind a method of the document's own arena: the program's is as it was. -/
theorem ar_right (h : Both w p s rb r a cap V) (ha : Ar w p s') (k : Only (Rown rb a) w w') : Ar w' p s' := by
  obtain ⟨b1, b2, b3, b4⟩ := h.below
  have hg : ∀ q, Rown rb a q → rb ≤ q := by
    intro q hq
    rcases hq with rfl | hq
    · exact Nat.le_refl _
    · obtain ⟨g, cur, e, hb, _⟩ := h.rf.hl.2.2.2 _ hq
      have : q = g := by simpa using e
      omega
  exact ha.frame k (fun c => by have := hg _ c; omega) (fun c => by have := hg _ c; omega) (fun c => by have := hg _ c; omega) (fun c => by have := hg _ c; omega)
theorem rown_old (h : Both w p s rb r a cap V) : ∀ q, Rown rb a q → rb ≤ q ∧ q < w.heap.size := by
  intro q hq
  rcases hq with rfl | hq
  · exact ⟨Nat.le_refl _, lt_of_some h.rf.hr⟩
  · obtain ⟨g, cur, e, hb, hg, _⟩ := h.rf.hl.2.2.2 _ hq
    have : q = g := by simpa using e
    exact ⟨by omega, by have := lt_of_some hg; omega⟩
theorem only_of_drew {S : Nat → Prop} (h : Only S w.drew w') : Only S w w' := ⟨h.os, h.tape, h.output, h.size, h.block⟩
theorem play_two {w2 w3 : World} {s2 : St} {r3 : RS} {a3 : Option Addr} {cap3 : Nat} {V3 : Nat → Value} (hb : Both w2 p s rb r a cap V) (ha : Ar w2 p s2) (rf3 : Rf w3 rb r3 a3 cap3 V3) (rep3 : Rep s2 r3) (o3 : Only (Rown rb a) w2 w3) : Two w3 p s2 rb r3 a3 cap3 V3 :=
  have ar := ar_right hb ha o3
  ⟨ar, ⟨⟨_, ar⟩, rf3, rep3, hb.below⟩⟩
theorem alloc_n (s : St) (t z : Int) : (s.alloc t z).n = s.n := by unfold St.alloc; split <;> rfl
theorem put_n (s : St) (x i v : Int) : (s.put x i v).n = s.n := by unfold St.put; split <;> rfl
theorem play_below {wr w2 w3 : World} {Bd : Nat} {o : Obj} (hb : Below Bd w wr) (h : Two wr p s rb r a cap V) (o2 : Only p.own (wr.alloc o) w2) (hb2 : Both w2 p s rb r a cap V) (o3 : Only (Rown rb a) w2 w3) (B1 : Bd ≤ p.a) (B2 : Bd ≤ p.h) (B3 : Bd ≤ p.c) (B4 : Bd ≤ p.b) (hBw : Bd ≤ w.heap.size) : Below Bd w w3 := by
  have z := hb.size
  have b1 := hb.alloc (by omega) o
  have b2 := b1.trans (o2.under (by rw [nblk_alloc]; omega) B2 B3 B4)
  have z2 := o2.size
  rw [nblk_alloc] at z2
  have := h.bo.below
  exact b2.trans (o3.below (by omega) (fun k hk hs => by have := (rown_old hb2 k hs).1; omega))
theorem two_new {w1 w2 : World} {n : Nat} {p : Pl} (ha : Ar w1 p (St.new n)) (hr : Rf w2 w1.heap.size ⟨n, 0, []⟩ none 0 (fun _ => .slice none 0 0)) (hb : Below w1.heap.size w1 w2) : Two w2 p (St.new n) w1.heap.size ⟨n, 0, []⟩ none 0 (fun _ => .slice none 0 0) := by
  have ha2 : Ar w2 p (St.new n) := ha.frame (S := fun _ => False) (Only.of_below hb) id id id id
  exact ⟨ha2, ⟨⟨_, ha2⟩, hr, rep_new n, lt_of_some ha.ha, lt_of_some ha.hh, ha.hc.lt, ha.hb.lt⟩⟩
end Go.Proofs.Ytjnlfnecmiklhaa
