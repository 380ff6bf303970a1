/-
  Layer 6, the program's work: the pair on top is taken off; fields' pairs are put. Condition: the work and the arena lie in memory.
-/
import Derived.Test.YtcbgjkedmboifabQ6Work
namespace Go.Proofs.Ytcbgjkedmboifab
open Go.ChangeShapes Go.WideShapes Go.ChangeAt Go.RowKit Go.Deep
set_option linter.unusedVariables false
set_option maxHeartbeats 1000000

variable {w w' w4 wA : World} {B kb n : Nat} {O : Nat → Prop} {ws : List (Int × Int)} {room x y : Int} {v v' : Value} {xs xs' : List Value} {p : Pl} {s : St} {r : RS}
theorem done_any (w : World) (h : PW w O kb ws room) :
    Calls Try.prog 18 #[.pointer (some ⟨kb, 0, none⟩)] w fun e w' => e = .returned (.bool (ws.length == 0)) ∧ w' = w := by
  obtain ⟨v, hk, hO, ho⟩ := h
  obtain ⟨ao, c, rfl, hnc, hcm⟩ := own_sl ho
  have c0 : w.cell? ⟨kb, 0, none⟩ = some (.slice ao ws.length c) := by simp [World.cell?, hk]
  have HN : Hid (((ws.length : Int) == 0) = (ws.length == 0)) := by
    show _ = _
    cases h : ws.length with
    | zero => rfl
    | succ k => simp; omega
  clear hk ho
  go_enter Try.func18, Try.ntmps18
  go_wp2_with fail
  all_goals go_ret
  all_goals exact ⟨by rw [← HN.out]; rfl, rfl⟩
theorem done_is {b : Bool} (w : World) (h : PW w O kb ws room) (e : (ws.length == 0) = b) :
    Calls Try.prog 18 #[.pointer (some ⟨kb, 0, none⟩)] w fun e w' => e = .returned (.bool b) ∧ w' = w := by
  subst e; exact done_any w h
/-- The top one, and what is left. -/
theorem own_top (h : w.ownsRow 0 56 2 v (ws.length + 1) (flatP ((x, y) :: ws))) : ∃ g c, v = .slice (some ⟨g, 0, none⟩) (ws.length + 1) c ∧ ws.length + 1 ≤ c ∧ c ≤ maxLen ∧ w.cell? ⟨g, ws.length * 2, none⟩ = some (.int .u64 x) ∧ w.cell? ⟨g, ws.length * 2 + 1, none⟩ = some (.int .u64 y) ∧ w.ownsRow 0 56 2 (.slice (some ⟨g, 0, none⟩) ws.length c) ws.length (flatP ws) := by
  obtain ⟨h1, h2⟩ := h
  rcases h2 with ⟨_, h0⟩ | ⟨g, cap, cur, rfl, hb, hg, hc, hm, hs, ht⟩
  · omega
  · have hl := flatP_len ws
    have e : flatP ((x, y) :: ws) = flatP ws ++ [.int .u64 x, .int .u64 y] := rfl
    rw [e] at ht
    have hat : ∀ j, j < (ws.length + 1) * 2 → cur[j]? = (flatP ws ++ [.int .u64 x, .int .u64 y])[j]? := fun j hj => by
      rw [← ht, List.getElem?_take_of_lt hj]; simp
    refine ⟨g, cap, rfl, hc, hm, ?_, ?_, hl, Or.inr ⟨g, cap, cur, rfl, hb, hg, by omega, hm, hs, ?_⟩⟩
    · simp only [World.cell?, hg]
      rw [hat _ (by omega), List.getElem?_append_right (by omega), hl, Nat.sub_self]; rfl
    · simp only [World.cell?, hg]
      rw [hat _ (by omega), List.getElem?_append_right (by omega), hl, show ws.length * 2 + 1 - ws.length * 2 = 1 from by omega]; rfl
    · have h5 : (cur.toList.take ((ws.length + 1) * 2)).take (ws.length * 2) = (flatP ws ++ [Value.int .u64 x, Value.int .u64 y]).take (ws.length * 2) := by rw [ht]
      rw [List.take_take, Nat.min_eq_left (by omega), List.take_append_of_le_length (by omega), ← hl, List.take_length] at h5
      rw [hl] at h5
      exact h5
set_option maxRecDepth 20000 in
theorem take_any (w : World) (h : PW w O kb ((x, y) :: ws) room) (hl : ws.length ≤ 400000000) :
    Calls Try.prog 20 #[.pointer (some ⟨kb, 0, none⟩)] w fun e w' => e = .returned (.agg #[.int .u64 x, .int .u64 y]) ∧ PW w' O kb ws room ∧ Grows O O w w' := by
  obtain ⟨v, hk, hO, ho⟩ := h
  obtain ⟨g, c, rfl, hc, hm, k0, k1, ho2⟩ := own_top ho
  have hkl := lt_of_some hk
  have hgl : g < w.heap.size := by
    by_cases h : g < w.heap.size
    · exact h
    · have : w.heap[g]? = none := Array.getElem?_eq_none (by omega)
      simp [World.cell?, this] at k0
  have HK := hidden hk
  have HO := hidden ho2
  have c0 : w.cell? ⟨kb, 0, none⟩ = some (.slice (some ⟨g, 0, none⟩) (ws.length + 1) c) := by simp [World.cell?, hk]
  have f0 : ∀ o, w.frozen? ⟨kb, o, none⟩ = false := fun o => by simp [World.frozen?, hk]
  have OK := hidden hO
  clear hk ho ho2 hO
  go_enter Try.func20, Try.ntmps20
  go_wp2_with fail
  have hsz : (w.setCell ⟨kb, 0, none⟩ (.slice (some ⟨g, 0, none⟩) ws.length c)).heap.size = w.heap.size := nblk_setCell _ _ _
  have P1 : PW (w.setCell ⟨kb, 0, none⟩ (.slice (some ⟨g, 0, none⟩) ws.length c)) O kb ws room := by
    refine ⟨.slice (some ⟨g, 0, none⟩) ws.length c, by simp [World.setCell, Array.getElem?_modify, HK.out], ⟨OK.out.1, OK.out.2.1, fun q hq => by rw [hsz]; exact OK.out.2.2 q hq⟩, ?_⟩
    obtain ⟨h1, h2⟩ := HO.out
    refine ⟨h1, h2.imp id ?_⟩
    rintro ⟨g', cap, cur, e1, e2, e3, e4⟩
    refine ⟨g', cap, cur, e1, e2, (blk_setCell_other _ _ _ _ ?_).trans e3, e4⟩
    show g' ≠ kb
    rintro rfl
    have := HK.out
    rw [this] at e3
    simp at e3
  have B1 : Grows O O w (w.setCell ⟨kb, 0, none⟩ (.slice (some ⟨g, 0, none⟩) ws.length c)) := ⟨(Only.refl O w).setCell (Or.inr OK.out.1) _, fun q hq => Or.inl hq⟩
  generalize w.setCell ⟨kb, 0, none⟩ (.slice (some ⟨g, 0, none⟩) ws.length c) = w1 at *
  have A1 : Below w1.heap.size w1 ((w1.alloc (.cells #[.int .u64 x, .int .u64 y] 56)).alloc (.cells #[.int .u64 x, .int .u64 y] 56)) := ((Below.refl _ _).alloc (Nat.le_refl _) _).alloc (by rw [nblk_alloc]; omega) _
  have hr : ((w1.alloc (.cells #[.int .u64 x, .int .u64 y] 56)).alloc (.cells #[.int .u64 x, .int .u64 y] 56)).heap[w.heap.size]? = some (.cells #[.int .u64 x, .int .u64 y] 56 (0, 0)) := by
    rw [← hsz]
    exact (blk_alloc_lt _ _ _ (by rw [nblk_alloc]; omega)).trans (blk_alloc_new _ _)
  refine bodyPost_ret (results_cell_row rfl _ _ w.heap.size 56 #[.int .u64 x, .int .u64 y] (0, 0) _ rfl hr Try.underlying56 rfl (by kernel_rfl)) rfl ?_
  exact ⟨rfl, P1.under A1, B1.trans (Grows.of_below O A1)⟩
end Go.Proofs.Ytcbgjkedmboifab
