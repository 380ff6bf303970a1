/-
  Layer 6, plain: what comes of a pair, as the program tells it: first by tags, then by texts, then by sizes. No program is named.
-/
import Derived.Test.YtcbgjkedmboifabQ6Tell
namespace Go.Proofs.Ytcbgjkedmboifab
open Go.ChangeShapes Go.WideShapes Go.ChangeAt Go.RowKit Go.Deep
set_option linter.unusedVariables false
set_option maxHeartbeats 1000000

variable {x y : Int} {s : St} {r : RS}
/-- What is told of two words that lead to blocks. -/
def toldB (s : St) (r : RS) (x y : Int) : Int := firstL [sgn (s.tag x) (s.tag y), txtR s r x y, sgn (s.size x) (s.size y)]
theorem head_blk {n : Nd} {l : List Int} (h : n = .txt l) : n.key.head? = some 1 := by rw [h]; rfl
theorem head_blk2 {n : Nd} {t : Int} {F : List Int} (h : n = .blk t F) : n.key.head? = some 1 := by rw [h]; rfl
theorem ok_head (h : Rep s r) (hw : (ndW s r x).wrong = 0) (hi : isIntW x = false) : (ndW s r x).key.head? = some 1 := by
  rcases nd_ok h x hw with ⟨c, _⟩ | ⟨_, k, b, _, _, _, ⟨_, l, _, _, e⟩ | ⟨_, e⟩⟩
  · rw [hi] at c; cases c
  · exact head_blk e
  · exact head_blk2 e
/-- A pair with a number. -/
theorem hold_num (h : Rep s r) (wx : (ndW s r x).wrong = 0) (wy : (ndW s r y).wrong = 0) (hi : isIntW x = true ∨ isIntW y = true) : (pairOut (ndW s r) x y).1 = 0 ∧ (pairOut (ndW s r) x y).2.1 = numR x y ∧ (numR x y = 0 → pairOut (ndW s r) x y = (0, 0, [])) := by
  have hn : ∀ z, isIntW z = true → ndW s r z = .num (numW z) := fun z hz => by unfold ndW; rw [if_pos hz]
  cases hx : isIntW x with
  | false =>
    have hy : isIntW y = true := by rcases hi with c | c; rw [hx] at c; cases c; exact c
    obtain ⟨h1, h2⟩ := po_blknum wx (ok_head h wx hx) (hn y hy)
    have e : numR x y = 1 := by unfold numR; rw [if_pos hx]
    rw [e]
    exact ⟨h1, h2, fun c => by cases c⟩
  | true =>
    cases hy : isIntW y with
    | false =>
      obtain ⟨h1, h2⟩ := po_numblk (hn x hx) wy (ok_head h wy hy)
      have e : numR x y = -1 := by unfold numR; rw [if_neg (by rw [hx]; decide), if_pos hy]
      rw [e]
      exact ⟨h1, h2, fun c => by cases c⟩
    | true =>
      have e : numR x y = sgn (numW x) (numW y) := by unfold numR; rw [if_neg (by rw [hx]; decide), if_neg (by rw [hy]; decide)]
      rw [e]
      exact po_num (hn x hx) (hn y hy)
theorem bytesI_inj {l m : List UInt8} (h : bytesI l = bytesI m) : l = m := by
  have := same_sgn l m
  rw [h, sgnL_self] at this
  simpa using this
/-- A pair of blocks. -/
theorem hold_blk (h : Rep s r) (wx : (ndW s r x).wrong = 0) (wy : (ndW s r y).wrong = 0) (ix : isIntW x = false) (iy : isIntW y = false) (hne : x ≠ y) :
    (pairOut (ndW s r) x y).1 = 0 ∧ (pairOut (ndW s r) x y).2.1 = toldB s r x y ∧ (toldB s r x y = 0 → (s.tag x = 202 → pairOut (ndW s r) x y = (0, 0, [])) ∧ (s.tag x ≠ 202 → ∃ F G, FieldsAre s x F ∧ FieldsAre s y G ∧ F.length = G.length ∧ pairOut (ndW s r) x y = (0, 0, F.zip G))) := by
  rcases nd_ok h x wx with ⟨c, _⟩ | ⟨_, k, b, hk, hf, hd, hx⟩
  · rw [ix] at c; cases c
  rcases nd_ok h y wy with ⟨c, _⟩ | ⟨_, k2, b2, hk2, hf2, hd2, hy⟩
  · rw [iy] at c; cases c
  obtain ⟨tx, zx, _, _⟩ := blk_says h hk hf
  obtain ⟨ty, zy, _, _⟩ := blk_says h hk2 hf2
  have FX := fields_are h hk hf hd
  have FY := fields_are h hk2 hf2 hd2
  have ktx : (ndW s r x).tag = b.tag := by
    rcases hx with ⟨t, l, _, _, e⟩ | ⟨t, e⟩
    · rw [e, t]; rfl
    · rw [e]; rfl
  have kty : (ndW s r y).tag = b2.tag := by
    rcases hy with ⟨t, l, _, _, e⟩ | ⟨t, e⟩
    · rw [e, t]; rfl
    · rw [e]; rfl
  have kx : ∃ l, (ndW s r x).key = 1 :: (ndW s r x).tag :: l := by
    rcases hx with ⟨t, l, _, _, e⟩ | ⟨t, e⟩
    · rw [e]; exact ⟨_, rfl⟩
    · rw [e]; exact ⟨_, rfl⟩
  have ky : ∃ l, (ndW s r y).key = 1 :: (ndW s r y).tag :: l := by
    rcases hy with ⟨t, l, _, _, e⟩ | ⟨t, e⟩
    · rw [e]; exact ⟨_, rfl⟩
    · rw [e]; exact ⟨_, rfl⟩
  unfold toldB
  rw [tx, ty, zx, zy]
  by_cases ht : sgn b.tag b2.tag = 0
  · have htt := sgn_zero ht
    rw [firstL, if_pos ht]
    rcases hx with ⟨t, l, et, tt, e⟩ | ⟨t, e⟩
    · rcases hy with ⟨t2, l2, et2, tt2, e2⟩ | ⟨t2, e2⟩
      · have er : txtR s r x y = sgnL (bytesI l) (bytesI l2) := by unfold txtR; rw [if_pos ⟨tx.trans t, ty.trans t2⟩, tt, tt2]; rfl
        obtain ⟨p1, p2, p3⟩ := po_txt hne e e2
        rw [er]
        refine ⟨p1, ?_, fun hz => ⟨fun _ => ?_, fun c => absurd t c⟩⟩
        · rw [p2]
          by_cases hs : sgnL (bytesI l) (bytesI l2) = 0
          · have el : l = l2 := bytesI_inj (sgnL_eq hs)
            have eF : b.F.length = b2.F.length := by rw [(textF_tag et).2, (textF_tag et2).2, el]
            rw [firstL, if_pos hs, firstL, if_pos (by rw [eF, sgn_self]), firstL, hs]
          · rw [firstL, if_neg hs]
        · by_cases hs : sgnL (bytesI l) (bytesI l2) = 0
          · exact p3 hs
          · rw [firstL, if_neg hs] at hz; exact absurd hz hs
      · exact absurd (htt.symm.trans t) t2
    · rcases hy with ⟨t2, l2, et2, tt2, e2⟩ | ⟨t2, e2⟩
      · exact absurd (htt.trans t2) t
      · have er : txtR s r x y = 0 := by unfold txtR; rw [if_neg (fun c => t (tx.symm.trans c.1))]
        rw [← htt] at e2
        obtain ⟨p1, p2, p3⟩ := po_blk hne e e2
        rw [er, firstL, if_pos rfl]
        have e3 : firstL [sgn (b.F.length : Int) (b2.F.length : Int)] = sgn (b.F.length : Int) (b2.F.length : Int) := by
          rw [firstL]
          split
          · rename_i c; rw [firstL, c]
          · rfl
        rw [e3]
        exact ⟨p1, p2, fun hz => ⟨fun c => absurd c t, fun _ => ⟨b.F, b2.F, FX, FY, by have := sgn_zero hz; omega, p3 hz⟩⟩⟩
  · rw [firstL, if_neg ht]
    obtain ⟨p1, p2⟩ := po_tag hne wx wy kx ky (by rw [ktx, kty]; exact ht)
    rw [ktx, kty] at p2
    exact ⟨p1, p2, fun c => absurd c ht⟩
end Go.Proofs.Ytcbgjkedmboifab
