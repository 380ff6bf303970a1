/-
  Layer 6, plain: a collection moves words so that what they lead to is the same, moved. No program is named.
-/
import Derived.Test.YtcbgjkedmboifabO6Moved
import Derived.Test.YtcbgjkedmboifabO6CmpA
import Derived.Test.YtcbgjkedmboifabLibC
namespace Go.Proofs.Ytcbgjkedmboifab
open Go.ChangeShapes Go.WideShapes Go.ChangeAt Go.RowKit Go.Deep
set_option linter.unusedVariables false
set_option maxHeartbeats 1000000

variable {s s' : St} {r : RS} {x y : Int} {xs : List Int}
/-- A word whose block, if it leads to one, is in reach. -/
def InReach (s : St) (r : RS) (xs : List Int) (x : Int) : Prop := R64 x ∧ ∀ i, leadI s r x = some i → i ∈ reachG s r xs
theorem odd_lead (h : Rep s r) (hi : isIntW x = true) : leadI s r x = none := by
  refine leadI_none ?_
  have ha : addrW x = 0 := by
    have : x % 2 = 1 := by unfold isIntW at hi; simpa using hi
    unfold addrW
    rw [if_pos (Or.inl this)]
  unfold St.find
  rw [ha, if_neg (by
    rw [h.blk]
    rintro ⟨i, b, hb, e⟩
    have := (h.inside hb).1
    omega), if_pos (by unfold St.inUse; simp; omega)]
theorem even_word (h : Rep s r) {k : Nat} {b : Blk} (hk : r.L[k]? = some b) (hf : (s.find x).1 = b.ad) (hd : (s.find x).2 = 0) (hx : R64 x) : x = 2 * (b.ad : Int) := by
  have h1 := (h.inside hk).1
  have := find_sum (s := s) (x := x) (by rw [hf]; omega)
  rw [hf, hd] at this
  unfold addrW at this
  obtain ⟨x0, x1⟩ := hx
  split at this
  · omega
  · rename_i c
    omega
theorem good_top6 (gp : Good s r) : s.top ≤ 65536 := by
  have t2 := gp.t2
  have n2 := gp.n2
  have hb := gp.rep.base
  have hw := gp.rep.wh
  have hn := gp.rep.n
  have hb2 : s.base ≤ s.n := by
    rcases Nat.le_one_iff_eq_zero_or_eq_one.1 hw with e | e
    · rw [hb, e]; simp
    · rw [hb, e, hn]; simp
  omega
/-- Where a block is that was in reach. -/
theorem coll_blk (hg : Good s r) (hg' : Good s' (collR s r xs)) {k : Nat} {b : Blk} (hk : r.L[k]? = some b) (hf : (s.find x).1 = b.ad) (hd : (s.find x).2 = 0) (hr : k ∈ reachG s r xs) :
    (collR s r xs).L[(reachG s r xs).idxOf k]? = some ⟨placeG r (otherB r) (reachG s r xs) ((reachG s r xs).idxOf k), b.tag, if b.tag = 202 then b.F else b.F.map (collW s r xs)⟩ ∧ collW s r xs x = 2 * (placeG r (otherB r) (reachG s r xs) ((reachG s r xs).idxOf k) : Int) ∧ (s'.find (collW s r xs x)) = ((placeG r (otherB r) (reachG s r xs) ((reachG s r xs).idxOf k) : Int), 0) := by
  have hq : (reachG s r xs).idxOf k < (reachG s r xs).length := List.idxOf_lt_length_of_mem hr
  have hat : (reachG s r xs).getD ((reachG s r xs).idxOf k) 0 = k := by
    rw [List.getD_eq_getElem?_getD, List.getElem?_eq_getElem hq]
    exact List.getElem_idxOf hq
  have hbk : blkAt r ((reachG s r xs).getD ((reachG s r xs).idxOf k) 0) = b := by rw [hat]; exact blkAt_of hk
  have hb := newB_at (s := s) (r := r) (xs := xs) _ hq
  have e : newB s r (otherB r) (reachG s r xs) ((reachG s r xs).idxOf k) = ⟨placeG r (otherB r) (reachG s r xs) ((reachG s r xs).idxOf k), b.tag, if b.tag = 202 then b.F else b.F.map (collW s r xs)⟩ := by unfold newB; rw [hbk]; rfl
  rw [e] at hb
  have ew : collW s r xs x = 2 * (placeG r (otherB r) (reachG s r xs) ((reachG s r xs).idxOf k) : Int) := by
    unfold collW
    rw [newW_some (leadI_some hg.rep hk hf), hd]
    omega
  have hin := hg'.rep.inside hb
  have htop := good_top6 hg'
  have h8 : placeG r (otherB r) (reachG s r xs) ((reachG s r xs).idxOf k) ≤ 65536 := by
    have h9 := hin.2
    simp only at h9
    omega
  refine ⟨hb, ew, ?_⟩
  rw [ew]
  refine hg'.rep.find_blk' hb ?_
  show (placeG r (otherB r) (reachG s r xs) ((reachG s r xs).idxOf k) : Int) = _
  unfold addrW
  rw [if_neg (by omega)]
  omega
theorem even_no (n : Int) : isIntW (2 * n) = false := by unfold isIntW; simp
/-- A collection moves words so that what they lead to is the same, moved. -/
theorem coll_moved (hg : Good s r) (hg' : Good s' (collR s r xs)) (hF : ∀ (k : Nat) (b : Blk), r.L[k]? = some b → ∀ y, y ∈ b.F → R64 y) : MovedBy (ndW s r) (ndW s' (collR s r xs)) (collW s r xs) (InReach s r xs) where
  nds := by
    rintro x ⟨hx, hr⟩ hw
    rcases nd_ok hg.rep x hw with ⟨hi, e⟩ | ⟨hi, k, b, hk, hf, hd, h⟩
    · have hl := odd_lead hg.rep hi
      have ec : collW s r xs x = x := by unfold collW; exact newW_none hl
      rw [e, ec]
      unfold ndW
      rw [if_pos hi]; rfl
    · have hl := leadI_some hg.rep hk hf
      obtain ⟨h1, h2, h3⟩ := coll_blk hg hg' hk hf hd (hr k hl)
      have hl' := leadI_some hg'.rep h1 (x := collW s r xs x) (by rw [h3])
      have ndx : ndW s r x = ndB b 0 := by
        unfold ndW
        rw [if_neg (by rw [hi]; decide), hl]
        simp only
        rw [blkAt_of hk, hd]
      have ndy : ndW s' (collR s r xs) (collW s r xs x) = ndB ⟨placeG r (otherB r) (reachG s r xs) ((reachG s r xs).idxOf k), b.tag, if b.tag = 202 then b.F else b.F.map (collW s r xs)⟩ 0 := by
        unfold ndW
        rw [if_neg (by rw [h2, even_no]; decide), hl']
        simp only
        rw [blkAt_of h1, h3]
      have hne : b.tag ≠ 200 := by
        intro c
        rw [ndx] at hw
        unfold ndB at hw
        rw [if_pos c] at hw
        exact absurd hw (by decide)
      have h00 : ¬ (0 : Int) < 0 := by decide
      rw [ndy, ndx]
      unfold ndB
      simp only
      by_cases t : b.tag = 202
      · simp only [if_pos t, if_neg hne, if_neg h00]
        cases readT b.F <;> rfl
      · simp only [if_neg t, if_neg hne, if_neg h00]; rfl
  parts := by
    rintro x ⟨hx, hr⟩ hw y hy
    rcases nd_ok hg.rep x hw with ⟨hi, e⟩ | ⟨hi, k, b, hk, hf, hd, h⟩
    · rw [e] at hy; cases hy
    · rcases h with ⟨t, l, _, _, e⟩ | ⟨t, e⟩
      · rw [e] at hy; cases hy
      · rw [e] at hy
        have hm := hr k (leadI_some hg.rep hk hf)
        obtain ⟨q, hq, eq⟩ := List.getElem_of_mem hm
        refine ⟨hF k b hk y hy, fun i hi2 => reach_field hg.rep (k := q) (j := k) (by rw [List.getElem?_eq_getElem hq, eq]) (x := y) ?_ hi2⟩
        rw [blkAt_of hk]
        unfold wordsOf
        rw [if_neg t]
        exact hy
  inj := by
    rintro x y ⟨hx, hrx⟩ ⟨hy, hry⟩ wx wy e
    rcases nd_ok hg.rep x wx with ⟨ix, _⟩ | ⟨ix, k, b, hk, hf, hd, _⟩
    · have ex : collW s r xs x = x := by unfold collW; exact newW_none (odd_lead hg.rep ix)
      rcases nd_ok hg.rep y wy with ⟨iy, _⟩ | ⟨iy, k2, b2, hk2, hf2, hd2, _⟩
      · have ey : collW s r xs y = y := by unfold collW; exact newW_none (odd_lead hg.rep iy)
        rw [ex, ey] at e; exact e
      · obtain ⟨_, h2, _⟩ := coll_blk hg hg' hk2 hf2 hd2 (hry k2 (leadI_some hg.rep hk2 hf2))
        rw [ex, h2] at e
        rw [e, even_no] at ix
        cases ix
    · obtain ⟨_, h2, _⟩ := coll_blk hg hg' hk hf hd (hrx k (leadI_some hg.rep hk hf))
      rcases nd_ok hg.rep y wy with ⟨iy, _⟩ | ⟨iy, k2, b2, hk2, hf2, hd2, _⟩
      · have ey : collW s r xs y = y := by unfold collW; exact newW_none (odd_lead hg.rep iy)
        rw [h2, ey] at e
        rw [← e, even_no] at iy
        cases iy
      · obtain ⟨g1, _, _⟩ := coll_blk hg hg' hk hf hd (hrx k (leadI_some hg.rep hk hf))
        obtain ⟨g2, h4, _⟩ := coll_blk hg hg' hk2 hf2 hd2 (hry k2 (leadI_some hg.rep hk2 hf2))
        rw [h2, h4] at e
        have hidx := hg'.rep.inj g1 g2 (by simp only; omega)
        have hkk : k = k2 := by
          have m1 := hrx k (leadI_some hg.rep hk hf)
          have m2 := hry k2 (leadI_some hg.rep hk2 hf2)
          have e1 := List.getElem_idxOf (List.idxOf_lt_length_of_mem m1)
          have e2 := List.getElem_idxOf (List.idxOf_lt_length_of_mem m2)
          simp only [hidx] at e1
          exact e1.symm.trans e2
        subst hkk
        rw [hk] at hk2
        cases hk2
        rw [even_word hg.rep hk hf hd hx, even_word hg.rep hk hf2 hd2 hy]
end Go.Proofs.Ytcbgjkedmboifab
