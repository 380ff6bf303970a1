/-
  Layer 5: what a text that is laid makes of the blocks and the roots: plain; and that the document's own Lay does so. Condition: the document's own Mem lies in memory.
-/
import Derived.Test.YtlhcleocdlnbdaaR5Lay
namespace Go.Proofs.Ytlhcleocdlnbdaa
open Go.ChangeShapes Go.WideShapes Go.ChangeAt Go.RowKit Go.Deep
set_option linter.unusedVariables false
set_option maxHeartbeats 1000000

/-- One text more. -/
def laidT (s : St) (r : RS) (l : List UInt8) : RS := ⟨r.n, r.which, r.L ++ [⟨s.top + 1, 202, fieldsT l⟩]⟩
/-- How many fields it has. -/
def sizeT (l : List UInt8) : Int := ((l.length / 8 + 1 : Nat) : Int)
/-- What comes of a text that is laid with n roots X: what is wrong, its word, the roots, the blocks, the count. -/
noncomputable def layOf (r : RS) (k : Int) (n : Nat) (X : Nat → Int) (l : List UInt8) : Int × Int × (Nat → Int) × RS × Int :=
  if 4096 < l.length then (4, 0, X, r, k)
  else if (pick r).allocE 202 (sizeT l) = 0 then (0, (pick r).allocW 202 (sizeT l), X, laidT (pick r) r l, k)
  else if (r.n : Int) < (lenG r (reachG (pick r) r (listX X n)) : Nat) + sizeT l + 1 then (10, 0, X, r, k)
  else (0, (pick (collR (pick r) r (listX X n))).allocW 202 (sizeT l), fun i => collW (pick r) r (listX X n) (X i), laidT (pick (collR (pick r) r (listX X n))) (collR (pick r) r (listX X n)) l, wrap64 (k + 1))
theorem text_errs (s : St) {l : List UInt8} (hl : l.length ≤ 4096) (g : s.allocE 202 (sizeT l) ≠ 0) : s.allocE 202 (sizeT l) = 10 := by
  unfold St.allocE at g ⊢
  unfold sizeT at g ⊢
  rw [if_neg (by decide)] at g ⊢
  rw [if_neg (by omega)] at g ⊢
  split at g
  · rename_i c; rw [if_pos c]
  · exact absurd rfl g
theorem laid_with (s : St) (r : RS) {l : List UInt8} (g : s.allocE 202 (sizeT l) = 0) : (r.after s 202 (sizeT l)).L[r.L.length]? = some ⟨s.top + 1, 202, List.replicate (l.length / 8 + 1) 1⟩ ∧ (r.after s 202 (sizeT l)).withF r.L.length ⟨s.top + 1, 202, List.replicate (l.length / 8 + 1) 1⟩ (fieldsT l) = laidT s r l := by
  have e : r.after s 202 (sizeT l) = ⟨r.n, r.which, r.L ++ [⟨s.top + 1, 202, List.replicate (l.length / 8 + 1) 1⟩]⟩ := by unfold RS.after; rw [if_pos g]; rfl
  rw [e]
  constructor
  · simp
  · unfold RS.withF laidT
    simp
variable {kb rb : Nat} {w w' : World} {r : RS} {k : Int} {m : Shape}
theorem good_top {s : St} (gp : Good s r) : s.top ≤ 65536 := by
  have t2 := gp.t2
  have n2 := gp.n2
  have hb := gp.rep.base
  have hw := gp.rep.wh
  have hn := gp.rep.n
  have hb2 : s.base ≤ s.n := by
    rcases Nat.le_one_iff_eq_zero_or_eq_one.1 hw with e | e
    · rw [hb, e]; simp
    · rw [hb, e, hn]; simp
  omega
theorem word_laid {s : St} (hg : Good s r) {l : List UInt8} (g : s.allocE 202 (sizeT l) = 0) : s.allocW 202 (sizeT l) = 2 * ((s.top : Int) + 1) ∧ ((s.top + 1 : Nat) : Int) = addrW (s.allocW 202 (sizeT l)) ∧ 0 ≤ s.allocW 202 (sizeT l) ∧ s.allocW 202 (sizeT l) ≤ 18446744073709551615 := by
  have e : s.allocW 202 (sizeT l) = 2 * ((s.top : Int) + 1) := by unfold St.allocW; rw [if_pos g]
  have ht := good_top hg
  have ea : addrW (2 * ((s.top : Int) + 1)) = s.top + 1 := by unfold addrW; rw [if_neg (by omega)]; omega
  exact ⟨e, by rw [e, ea]; omega, by rw [e]; omega, by rw [e]; omega⟩
theorem good_coll_pick (hg : Good (pick r) r) (w : World) {xs : List Int} : Good (pick (collR (pick r) r xs)) (collR (pick r) r xs) := by
  obtain ⟨s', h⟩ := good_coll hg w (xs := xs)
  exact pick_good h
theorem rlay_any {al : Option Addr} {n c : Nat} {X : Nat → Int} (b : ByteArray) (w : World) (h : MI kb rb w r k m) (hx : WS w al n c X) (hoff : ∀ ad, al = some ad → 0 < n → ¬ Mown kb rb r.L.length m ad.block) (hn : n ≤ 1000) :
    Calls Try.prog 12 #[.pointer (some ⟨kb, 0, none⟩), .string b, .slice al n c] w fun e w' => RAllocAs kb rb r.L.length m n (layOf r k n X (bytesS b)).1 (layOf r k n X (bytesS b)).2.1 (layOf r k n X (bytesS b)).2.2.1 (layOf r k n X (bytesS b)).2.2.2.1 (layOf r k n X (bytesS b)).2.2.2.2 w e w' := by
  have hlen := bytesS_len b
  obtain ⟨s0, hs0⟩ := h.good
  have hg := pick_good hs0
  have fr : ∀ w1, Below w.heap.size w w1 → MI kb rb w1 r k m ∧ WS w1 al n c X := fun w1 hb => ⟨h.frame (S := fun _ => False) (Only.of_below hb) (fun _ _ => id), hx.below hb⟩
  have hz : sizeT (bytesS b) = ((b.size / 8 + 1 : Nat) : Int) := by unfold sizeT; rw [hlen]
  by_cases hl : 4096 < b.size
  · have e : layOf r k n X (bytesS b) = (4, 0, X, r, k) := by unfold layOf; rw [if_pos (by omega)]
    rw [e]
    refine (rlay_long b al n c w hl).mono ?_
    rintro e w' ⟨rfl, rfl⟩
    exact ⟨_, m, rfl, h, Only.refl _ _, fun q hq => Or.inl hq, fun _ => rfl, fun h => by cases h⟩
  · by_cases g : (pick r).allocE 202 (sizeT (bytesS b)) = 0
    · have e : layOf r k n X (bytesS b) = (0, (pick r).allocW 202 (sizeT (bytesS b)), X, laidT (pick r) r (bytesS b), k) := by unfold layOf; rw [if_neg (by omega), if_pos g]
      rw [e]
      obtain ⟨q1, q2⟩ := laid_with (pick r) r g
      obtain ⟨_, q3, q4, q5⟩ := word_laid hg g
      have := rlay_yes (kk := r.L.length) (b := ⟨(pick r).top + 1, 202, List.replicate ((bytesS b).length / 8 + 1) 1⟩) (al := al) (n := n) (c := c) (Y := X) (k1 := k) b w h (by omega) (fun w1 hb => by rw [← hz]; exact rAlloc_yes w1 (fr w1 hb).1 hg (fr w1 hb).2 hoff hn g) q1 (by rw [hlen]; simp) q3 q4 q5
      rw [q2] at this
      exact this
    · have g10 := text_errs (pick r) (l := bytesS b) (by omega) g
      by_cases gf : (r.n : Int) < (lenG r (reachG (pick r) r (listX X n)) : Nat) + sizeT (bytesS b) + 1
      · have e : layOf r k n X (bytesS b) = (10, 0, X, r, k) := by unfold layOf; rw [if_neg (by omega), if_neg g, if_pos gf]
        rw [e]
        exact rlay_no b w (by omega) (fun w1 hb => by rw [← hz]; exact rAlloc_full w1 (fr w1 hb).1 hg (fr w1 hb).2 hoff hn g10 gf) (show (10 : Int) ≠ 0 by decide)
      · have hgc := good_coll_pick hg w (xs := listX X n)
        have e : layOf r k n X (bytesS b) = (0, (pick (collR (pick r) r (listX X n))).allocW 202 (sizeT (bytesS b)), fun i => collW (pick r) r (listX X n) (X i), laidT (pick (collR (pick r) r (listX X n))) (collR (pick r) r (listX X n)) (bytesS b), wrap64 (k + 1)) := by unfold layOf; rw [if_neg (by omega), if_neg g, if_neg gf]
        rw [e]
        have g1 : (pick (collR (pick r) r (listX X n))).allocE 202 (sizeT (bytesS b)) = 0 := room_fits4 hg.rep g10 gf hgc.rep
        obtain ⟨q1, q2⟩ := laid_with (pick (collR (pick r) r (listX X n))) (collR (pick r) r (listX X n)) g1
        obtain ⟨_, q3, q4, q5⟩ := word_laid hgc g1
        have := rlay_yes (kk := (collR (pick r) r (listX X n)).L.length) (b := ⟨(pick (collR (pick r) r (listX X n))).top + 1, 202, List.replicate ((bytesS b).length / 8 + 1) 1⟩) (al := al) (n := n) (c := c) (Y := fun i => collW (pick r) r (listX X n) (X i)) (k1 := wrap64 (k + 1)) b w h (by omega) (fun w1 hb => by
          rw [← hz]
          refine (rAlloc_room w1 (fr w1 hb).1 hg (fr w1 hb).2 hoff hn g10 gf).mono ?_
          rintro e w' ⟨s1, hs1, h1⟩
          rw [agree_allocW hs1 hgc, agree_after hs1 hgc] at h1
          exact h1) q1 (by rw [hlen]; simp) q3 q4 q5
        rw [q2] at this
        exact this
end Go.Proofs.Ytlhcleocdlnbdaa
