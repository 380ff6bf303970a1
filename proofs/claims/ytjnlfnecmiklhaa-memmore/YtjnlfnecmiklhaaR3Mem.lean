/-
  How what the document's own collection has moved lies in memory: a block of three cells (which arena was, which is, which blocks went), the arena that is, the row of those that went. No program is named here but by its types' numbers.
-/
import Derived.Test.YtjnlfnecmiklhaaL3Lay
import Derived.Test.YtjnlfnecmiklhaaPlainColl
import Derived.Test.YtjnlfnecmiklhaaPlainApart
namespace Go.Proofs.Ytjnlfnecmiklhaa
open Go.ChangeShapes Go.WideShapes Go.ChangeAt Go.RowKit Go.Deep
set_option linter.unusedVariables false
set_option maxHeartbeats 400000

/-- No two blocks' fields lie in one row. -/
def Dis (m : Nat) (V : Nat → Value) : Prop := ∀ i j, i < j → j < m → ∀ ad n c ad' n' c', V i = .slice (some ad) n c → V j = .slice (some ad') n' c' → ad.block ≠ ad'.block
/-- What has moved, told by the blocks that went: where each lies, its tag and size. -/
def LG (r : RS) (B : Nat) (G : List Nat) (L : List Blk) : Prop := L.length = G.length ∧ ∀ k i, G[k]? = some i → ∃ b, L[k]? = some b ∧ b.ad = placeG r B G k ∧ b.tag = (blkAt r i).tag ∧ b.F.length = (blkAt r i).F.length
structure Now (w : World) (B0 mb nb rb : Nat) (r : RS) (G : List Nat) (L : List Blk) (aN : Option Addr) (capN : Nat) (VN : Nat → Value) (vg : Value) : Prop where
  hm : w.heap[mb]? = some (.cells #[.pointer (some ⟨rb, 0, none⟩), .pointer (some ⟨nb, 0, none⟩), vg] 123 (0, 0))
  hg : w.ownsRow B0 3 1 vg G.length (G.map fun i : Nat => Value.int .i64 (i : Int))
  now : Rf w nb ⟨r.n, 1 - r.which, L⟩ aN capN VN
  dis : Dis L.length VN
  lo : B0 ≤ nb ∧ B0 ≤ mb

theorem Now.drewN {w : World} {B0 mb nb rb : Nat} {r : RS} {G : List Nat} {L : List Blk} {aN : Option Addr} {capN : Nat} {VN : Nat → Value} {vg : Value} (h : Now w B0 mb nb rb r G L aN capN VN vg) (n : Nat) : Now (w.drewN n) B0 mb nb rb r G L aN capN VN vg :=
  ⟨h.hm, h.hg, h.now.drewN n, h.dis, h.lo⟩
theorem LG.map {r : RS} {B : Nat} {G : List Nat} {L : List Blk} (h : LG r B G L) : L.map (fun b => b.F.length) = (G.map (blkAt r)).map (fun b => b.F.length) := by
  apply List.ext_getElem
  · simp [h.1]
  · intro k h1 h2
    simp only [List.length_map] at h1 h2
    obtain ⟨b, e1, _, _, e4⟩ := h.2 k _ (List.getElem?_eq_getElem h2)
    have e5 : L[k] = b := by rw [List.getElem?_eq_getElem h1] at e1; simpa using e1
    simp [e5, e4]
theorem LG.len {r : RS} {B : Nat} {G : List Nat} {L : List Blk} (h : LG r B G L) : lenB L = lenG r G := lenB_congr _ _ h.map
theorem LG.nil (r : RS) (B : Nat) : LG r B [] [] := ⟨rfl, fun k i h => by simp at h⟩
theorem placeG_end (r : RS) (B : Nat) (G : List Nat) (i : Nat) : placeG r B (G ++ [i]) G.length = B + lenG r G + 1 := by
  unfold placeG; rw [List.take_append_of_le_length (Nat.le_refl _), List.take_length]
theorem LG.snoc {r : RS} {B : Nat} {G : List Nat} {L : List Blk} (h : LG r B G L) (i : Nat) (b : Blk) (h1 : b.ad = B + lenG r G + 1) (h2 : b.tag = (blkAt r i).tag) (h3 : b.F.length = (blkAt r i).F.length) : LG r B (G ++ [i]) (L ++ [b]) := by
  refine ⟨by simp [h.1], fun k j hj => ?_⟩
  rcases snoc_some hj with ⟨hj', hk⟩ | ⟨rfl, rfl⟩
  · obtain ⟨c, e1, e2, e3, e4⟩ := h.2 k j hj'
    exact ⟨c, by rw [List.getElem?_append_left (by rw [h.1]; exact hk)]; exact e1, by rw [e2, placeG_ext r B G [i] (by omega)], e3, e4⟩
  · exact ⟨b, by rw [← h.1]; simp, by rw [placeG_end]; exact h1, h2, h3⟩
theorem rptr_eq (x v : Int) (w : World) (h : -9223372036854775808 ≤ x) (h' : x ≤ 9223372036854775807) (hv : ptrW x = v) :
    Calls Try.prog 20 #[.int .i64 x] w fun e w' => e = .returned (.int .u64 v) ∧ w' = w := by
  subst hv; exact rptr_any x w h h'
/-- A word's distance. -/
theorem find_dist {s : St} {r : RS} (h : Rep s r) (x : Int) : 0 ≤ (s.find x).2 ∧ (s.find x).2 ≤ 4096 := by
  unfold St.find
  split
  · exact ⟨Int.le_refl _, by show (0 : Int) ≤ 4096; omega⟩
  · split
    · exact ⟨Int.le_refl _, by show (0 : Int) ≤ 4096; omega⟩
    · split
      · rename_i h1
        obtain ⟨_, h2⟩ := h1
        unfold St.isInr at h2
        simp only [Bool.and_eq_true, decide_eq_true_eq] at h2
        obtain ⟨i, b, hb, e⟩ := (h.blk _).1 h2.1.1
        have h3 := h2.2
        rw [← e, (h.tagAt hb).2] at h3
        have := (h.tag i b hb).2.2
        have := sizeW_lo (s.C ((addrW x).toNat - 1))
        unfold St.sizeAt at h3 ⊢
        show 0 ≤ sizeW _ ∧ sizeW _ ≤ 4096
        omega
      · exact ⟨Int.le_refl _, by show (0 : Int) ≤ 4096; omega⟩
/-- Where a number of the row of those that went lies. -/
theorem ints_cell {w : World} {B : Nat} {v : Value} {G : List Nat} (h : w.ownsRow B 3 1 v G.length (G.map fun i : Nat => Value.int .i64 (i : Int))) : ∃ (al : Option Addr) (c : Nat), v = .slice al G.length c ∧ ∀ (k i : Nat), G[k]? = some i → ∃ g, al = some ⟨g, 0, none⟩ ∧ w.cell? ⟨g, k, none⟩ = some (.int .i64 (i : Int)) := by
  rcases h.2 with ⟨e, e0⟩ | ⟨g, cap, cur, hv, hb, hg, hnc, _, hcs, htake⟩
  · refine ⟨none, 0, by rw [e, e0], fun k i hk => ?_⟩
    have := (List.getElem?_eq_some_iff.1 hk).1
    omega
  · refine ⟨some ⟨g, 0, none⟩, cap, hv, fun k i hk => ⟨g, rfl, ?_⟩⟩
    have hl := (List.getElem?_eq_some_iff.1 hk).1
    have : (cur.toList.take (G.length * 1))[k]? = some (.int .i64 (i : Int)) := by rw [htake]; simp [hk]
    rw [List.getElem?_take, if_pos (by omega)] at this
    have e2 : cur[k]? = some (.int .i64 (i : Int)) := by simpa using this
    simp [World.cell?, hg, e2]
end Go.Proofs.Ytjnlfnecmiklhaa
