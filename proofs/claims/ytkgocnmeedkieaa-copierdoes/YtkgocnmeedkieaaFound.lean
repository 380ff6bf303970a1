/-
  What a block's head tells; what is found where a block was just laid; contracts whose answers are named. No condition.
-/
import Derived.Test.YtkgocnmeedkieaaAllocAny
import Derived.Test.YtkgocnmeedkieaaNews
namespace Go.Proofs.Ytkgocnmeedkieaa
open Go.ChangeShapes Go.WideShapes Go.ChangeAt Go.RowKit Go.Deep
set_option linter.unusedVariables false
set_option maxHeartbeats 400000

theorem num_head (t z : Int) (h0 : 0 ≤ t) (h1 : t ≤ 255) (g0 : 0 ≤ z) (g1 : z ≤ 2147483647) : numW (headW t z) = 256 * z + t ∧ isHeadW (headW t z) = true := by
  have e : headW t z = intW (256 * z + t) := by unfold headW; rw [if_neg (by omega)]
  have n : numW (intW (256 * z + t)) = 256 * z + t := by rw [num_int, cut_same _ (by omega) (by omega)]
  have o : intW (256 * z + t) % 2 = 1 := by unfold intW; omega
  rw [e]
  refine ⟨n, ?_⟩
  unfold isHeadW
  rw [n, o]
  simp
  omega
theorem tag_head (t z : Int) (h0 : 0 ≤ t) (h1 : t ≤ 255) (g0 : 0 ≤ z) (g1 : z ≤ 2147483647) : tagW (headW t z) = t := by
  obtain ⟨a, b⟩ := num_head t z h0 h1 g0 g1
  unfold tagW; rw [if_pos b, a]; omega
theorem size_head (t z : Int) (h0 : 0 ≤ t) (h1 : t ≤ 255) (g0 : 0 ≤ z) (g1 : z ≤ 2147483647) : sizeW (headW t z) = z := by
  obtain ⟨a, b⟩ := num_head t z h0 h1 g0 g1
  unfold sizeW; rw [if_pos b, a]; omega
theorem allocE_zero {s : St} {t z : Int} (g : s.allocE t z = 0) : St.mayLie t = true ∧ 0 ≤ z ∧ z ≤ 4096 ∧ s.top + z + 1 ≤ (s.base : Int) + s.n ∧ 0 ≤ t ∧ t ≤ 202 := by
  unfold St.allocE at g
  have g1 : St.mayLie t = true := by
    cases c : St.mayLie t
    · rw [if_pos c] at g; omega
    · rfl
  rw [if_neg (by rw [g1]; simp)] at g
  have g2 : ¬ (z < 0 ∨ 4096 < z) := by intro c; rw [if_pos c] at g; omega
  rw [if_neg g2] at g
  have g3 : ¬ ((s.base : Int) + s.n < s.top + z + 1) := by intro c; rw [if_pos c] at g; omega
  have : 0 ≤ t ∧ t ≤ 202 := by unfold St.mayLie at g1; simp at g1; omega
  exact ⟨g1, by omega, by omega, by omega, this.1, this.2⟩
theorem alloc_st {s : St} {t z : Int} (g : s.allocE t z = 0) : s.alloc t z = { s with top := s.top + z.toNat + 1, C := fun i => if i = s.top then headW t z else if s.top < i ∧ i ≤ s.top + z.toNat then 1 else s.C i, H := fun i => if i = s.top - s.base then true else s.H i } := by
  unfold St.alloc; rw [if_pos g]
/-- The block that was just laid is found. -/
theorem found_new {s : St} {t z : Int} (h1 : s.base ≤ s.top) (h2 : s.top ≤ 1000000) (g : s.allocE t z = 0) :
    (s.alloc t z).find (2 * (s.top + 1)) = ((s.top : Int) + 1, 0) ∧ (s.alloc t z).size (2 * (s.top + 1)) = z ∧ (s.alloc t z).tag (2 * (s.top + 1)) = t ∧ (s.alloc t z).top = s.top + z.toNat + 1 ∧ (s.alloc t z).n = s.n ∧ (s.alloc t z).base = s.base := by
  obtain ⟨_, z0, z1, _, t0, t1⟩ := allocE_zero g
  rw [alloc_st g]
  have ea : addrW (2 * (s.top + 1)) = s.top + 1 := by unfold addrW; rw [if_neg (by omega)]; omega
  have en : ((s.top : Int) + 1).toNat - 1 = s.top := by omega
  have hb : (St.mk s.n s.base (s.top + z.toNat + 1) (fun i => if i = s.top then headW t z else if s.top < i ∧ i ≤ s.top + z.toNat then 1 else s.C i) (fun i => if i = s.top - s.base then true else s.H i)).isBlk (s.top + 1) = true := by
    unfold St.isBlk St.inUse
    simp
    omega
  have hf : (St.mk s.n s.base (s.top + z.toNat + 1) (fun i => if i = s.top then headW t z else if s.top < i ∧ i ≤ s.top + z.toNat then 1 else s.C i) (fun i => if i = s.top - s.base then true else s.H i)).find (2 * (s.top + 1)) = ((s.top : Int) + 1, 0) := by
    unfold St.find
    rw [ea, if_pos hb]
  refine ⟨hf, ?_, ?_, rfl, rfl, rfl⟩
  · unfold St.size
    rw [hf, if_neg (by show ¬ ((s.top : Int) + 1 = 0); omega)]
    show sizeW (if ((s.top : Int) + 1).toNat - 1 = s.top then headW t z else _) = z
    rw [if_pos en]
    exact size_head t z t0 (by omega) z0 (by omega)
  · unfold St.tag
    rw [hf, if_neg (by show ¬ ((s.top : Int) + 1 = 0); omega)]
    show tagW (if ((s.top : Int) + 1).toNat - 1 = s.top then headW t z else _) = t
    rw [if_pos en]
    exact tag_head t z t0 (by omega) z0 (by omega)
/-- Alloc, its answers named. -/
theorem alloc_at {p : Pl} {s : St} (t z v e' : Int) (w : World) (h : Ar w p s) (hv : s.allocW t z = v) (he : s.allocE t z = e') :
    Calls Try.prog 31 #[.pointer (some ⟨p.a, 0, none⟩), .int .i64 t, .int .i64 z] w fun e w' => e = .returned (.tuple #[.int .u64 v, .int .i64 e']) ∧ Ar w' p (s.alloc t z) ∧ Only p.own w w' := by
  subst hv; subst he; exact alloc_any t z w h
theorem leads_at {p : Pl} {s : St} (x v d : Int) (w : World) (h : Ar w p s) (h0 : 0 ≤ x) (h1 : x ≤ 18446744073709551615) (hv : 2 * (s.find x).1 = v) (hd : (s.find x).2 = d) :
    Calls Try.prog 26 #[.pointer (some ⟨p.a, 0, none⟩), .int .u64 x] w fun e w' => e = .returned (.tuple #[.int .u64 v, .int .i64 d]) ∧ ∃ m, w' = w.drewN m := by
  subst hv; subst hd; exact leads_any x w h h0 h1
theorem tag_is {p : Pl} {s : St} (x v : Int) (w : World) (h : Ar w p s) (h0 : 0 ≤ x) (h1 : x ≤ 18446744073709551615) (hv : s.tag x = v) :
    Calls Try.prog 27 #[.pointer (some ⟨p.a, 0, none⟩), .int .u64 x] w fun e w' => e = .returned (.int .i64 v) ∧ ∃ m, w' = w.drewN m := by
  subst hv; exact tag_of x w h h0 h1
theorem size_is {p : Pl} {s : St} (x v : Int) (w : World) (h : Ar w p s) (h0 : 0 ≤ x) (h1 : x ≤ 18446744073709551615) (hv : s.size x = v) :
    Calls Try.prog 25 #[.pointer (some ⟨p.a, 0, none⟩), .int .u64 x] w fun e w' => e = .returned (.int .i64 v) ∧ ∃ m, w' = w.drewN m := by
  subst hv; exact size_of x w h h0 h1
theorem top_is {p : Pl} {s : St} (v : Int) (w : World) (h : Ar w p s) (hv : (s.top : Int) = v) :
    Calls Try.prog 22 #[.pointer (some ⟨p.a, 0, none⟩)] w fun e w' => e = .returned (.int .i64 v) ∧ w' = w := by
  subst hv; exact top_any w h
theorem new_at (n : Int) (w : World) (h1 : 2 ≤ n) (h2 : n ≤ 32768) :
    Calls Try.prog 29 #[.int .i64 n] w fun e w' => ∃ p : Pl, e = .returned (.pointer (some ⟨p.a, 0, none⟩)) ∧ Ar w' p (St.new n.toNat) ∧ Below w.heap.size w w' ∧ w.heap.size ≤ p.a ∧ w.heap.size ≤ p.h ∧ w.heap.size ≤ p.c ∧ w.heap.size ≤ p.b := by
  have := new_yes n.toNat w (by omega) (by omega)
  rw [show ((n.toNat : Nat) : Int) = n from by omega] at this
  exact this
/-- What is done to an arena's own blocks changes nothing below them. -/
theorem Only.under {p : Pl} {w w' : World} (h : Only p.own w w') {B : Nat} (hB : B ≤ w.heap.size) (h1 : B ≤ p.h) (h2 : B ≤ p.c) (h3 : B ≤ p.b) : Below B w w' :=
  h.below hB (by intro k hk hs; unfold Pl.own at hs; omega)
theorem below_drewN {B : Nat} {a w : World} (h : Below B a w) (n : Nat) : Below B a (w.drewN n) := ⟨h.os, h.tape, h.output, h.size, h.block⟩

theorem head_back (x : Int) (h0 : 0 ≤ x) (h1 : x ≤ 18446744073709551615) (t : Int) (ht : tagW x = t) (hz : t ≠ 0) : x = headW t (sizeW x) := by
  have hh : isHeadW x = true := by
    cases c : isHeadW x
    · unfold tagW at ht; rw [if_neg (by rw [c]; simp)] at ht; omega
    · rfl
  have hh' := hh
  unfold isHeadW at hh'
  simp at hh'
  unfold tagW at ht
  rw [if_pos hh] at ht
  unfold sizeW
  rw [if_pos hh]
  have e : 256 * (numW x / 256) + t = numW x := by omega
  unfold headW
  rw [if_neg (by omega), e]
  exact (int_num x h0 h1 hh'.1.1).symm
theorem set_at {p : Pl} {s s' : St} (x i v : Int) (e' : Int) (w : World) (h : Ar w p s) (hf : s.Fits) (h0 : 0 ≤ x) (h1 : x ≤ 18446744073709551615) (v0 : 0 ≤ v) (v1 : v ≤ 18446744073709551615) (he : s.fieldE x i = e') (hs : s.put x i v = s') :
    Calls Try.prog 34 #[.pointer (some ⟨p.a, 0, none⟩), .int .u64 x, .int .i64 i, .int .u64 v] w fun e w' => e = .returned (.int .i64 e') ∧ Ar w' p s' ∧ Only p.own w w' := by
  subst he; subst hs; exact set_any x i v w h hf h0 h1 v0 v1
theorem get_at {p : Pl} {s : St} (x i v e' : Int) (w : World) (h : Ar w p s) (hf : s.Fits) (h0 : 0 ≤ x) (h1 : x ≤ 18446744073709551615) (hv : s.get x i = v) (he : s.fieldE x i = e') :
    Calls Try.prog 28 #[.pointer (some ⟨p.a, 0, none⟩), .int .u64 x, .int .i64 i] w fun e w' => e = .returned (.tuple #[.int .u64 v, .int .i64 e']) ∧ ∃ m, w' = w.drewN m := by
  subst hv; subst he; exact get_any x i w h hf h0 h1
end Go.Proofs.Ytkgocnmeedkieaa
