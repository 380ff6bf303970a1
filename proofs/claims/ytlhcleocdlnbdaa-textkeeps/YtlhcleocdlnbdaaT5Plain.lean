/-
  Layer 5: what becomes of a text: a byte is put, another text is laid, a collection moves it. Plain.
-/
import Derived.Test.YtlhcleocdlnbdaaT5Two
namespace Go.Proofs.Ytlhcleocdlnbdaa
open Go.ChangeShapes Go.WideShapes Go.ChangeAt Go.RowKit Go.Deep
set_option linter.unusedVariables false
set_option maxHeartbeats 1000000

variable {s s' : St} {r r' : RS} {x y i : Int} {l l' : List UInt8}
theorem text_at {k : Nat} {b : Blk} (h : Rep s r) (hb : r.L[k]? = some b) (hx : (b.ad : Int) = addrW x) (ht : textF b = some l) : textAt s r x = (some l, 0) := by
  have hf := h.find_blk' hb hx
  have hin := h.inside hb
  rcases text_cases h x with ⟨c, _⟩ | ⟨k', b', hk, hfk, _, _, _, _, et⟩
  · rw [hf] at c
    rcases c with c | c
    · have c2 : (b.ad : Int) = 0 := c
      omega
    · exact absurd c (show ¬ (0 : Int) < 0 by decide)
  · have : k = k' := h.inj hb hk (by rw [hf] at hfk; have h5 : (b.ad : Int) = b'.ad := hfk; omega)
    subst this
    rw [hb] at hk
    cases hk
    rw [et, ht]; rfl
theorem text_is (h : Rep s r) (e : textAt s r x = (some l, 0)) : ∃ k b, r.L[k]? = some b ∧ (b.ad : Int) = addrW x ∧ leadI s r x = some k ∧ blkAt r k = b ∧ textF b = some l ∧ (s.find x).2 = 0 := by
  rcases text_cases h x with ⟨_, e2⟩ | ⟨k, b, hk, _, h2, hx, hl, hbk, et⟩
  · rw [e] at e2; cases e2
  · rw [e] at et
    have : textF b = some l := (congrArg Prod.fst et).symm
    exact ⟨k, b, hk, hx, hl, hbk, this, h2⟩
theorem textF_tag {b : Blk} (h : textF b = some l) : b.tag = 202 ∧ b.F = fieldsT l := by
  unfold textF at h
  split at h
  · rename_i c; exact ⟨c, (read_some h).symm⟩
  · cases h
/-- A byte is put. -/
theorem put_text (h : Rep s r) (e : textAt s r x = (some l, 0)) (i0 : 0 ≤ i) (i1 : i < l.length) (c : UInt8) (h' : Rep s' (putR s r x i c)) : textAt s' (putR s r x i c) x = (some (l.set i.toNat c), 0) := by
  obtain ⟨k, b, hk, hx, hl, hbk, ht, _⟩ := text_is h e
  have hkl := (List.getElem?_eq_some_iff.1 hk).1
  have e3 : putR s r x i c = r.withF k b (fieldsT (l.set i.toNat c)) := by
    unfold putR
    rw [e, hl]
    show (if _ then _ else _) = _
    rw [if_pos ⟨i0, i1⟩, hbk]
  rw [e3] at h' ⊢
  exact text_at h' (withF_at hkl b _) hx (by unfold textF; rw [if_pos (textF_tag ht).1]; exact read_fields _)
/-- And another text stays. -/
theorem put_other (h : Rep s r) (e : textAt s r x = (some l, 0)) (c : UInt8) (h' : Rep s' (putR s r x i c)) (ey : textAt s r y = (some l', 0)) (hne : addrW y ≠ addrW x) : textAt s' (putR s r x i c) y = (some l', 0) := by
  obtain ⟨k, b, hk, hx, hl, hbk, ht, _⟩ := text_is h e
  obtain ⟨k', b', hk', hy, _, _, ht', _⟩ := text_is h ey
  have hkk : k ≠ k' := fun e => by subst e; rw [hk] at hk'; cases hk'; exact hne (by omega)
  by_cases hi : 0 ≤ i ∧ i < l.length
  · have e3 : putR s r x i c = r.withF k b (fieldsT (l.set i.toNat c)) := by
      unfold putR
      rw [e, hl]
      show (if _ then _ else _) = _
      rw [if_pos hi, hbk]
    rw [e3] at h' ⊢
    refine text_at h' (k := k') (b := b') ?_ hy ht'
    show (r.L.set k _)[k']? = _
    rw [List.getElem?_set_ne hkk]
    exact hk'
  · have e3 : putR s r x i c = r := by
      unfold putR
      rw [e, hl]
      show (if _ then _ else _) = _
      rw [if_neg hi]
    rw [e3] at h' ⊢
    exact text_at h' hk' hy ht'
/-- Another text is laid. -/
theorem laid_keeps (h : Rep s r) (e : textAt s r x = (some l, 0)) {s0 : St} (l2 : List UInt8) (h' : Rep s' (laidT s0 r l2)) : textAt s' (laidT s0 r l2) x = (some l, 0) := by
  obtain ⟨k, b, hk, hx, _, _, ht, _⟩ := text_is h e
  have hkl := (List.getElem?_eq_some_iff.1 hk).1
  refine text_at h' (k := k) (b := b) ?_ hx ht
  show (r.L ++ _)[k]? = _
  rw [List.getElem?_append_left hkl]
  exact hk
theorem agree_text (h : Good s r) (h' : Good s' r) (x : Int) : textAt s r x = textAt s' r x := by unfold textAt; rw [agree_find h h', agree_leadI h h']
/-- A collection moves it. -/
theorem coll_text (hg : Good s r) (e : textAt s r x = (some l, 0)) {xs : List Int} (hx : x ∈ xs) (h' : Good s' (collR s r xs)) : textAt s' (collR s r xs) (collW s r xs x) = (some l, 0) ∧ R64 (collW s r xs x) := by
  obtain ⟨k, b, hk, hxa, hl, hbk, ht, h2⟩ := text_is hg.rep e
  have hm := reach_root hg.rep hx hl
  have hq : (reachG s r xs).idxOf k < (reachG s r xs).length := List.idxOf_lt_length_of_mem hm
  have hat : (reachG s r xs).getD ((reachG s r xs).idxOf k) 0 = k := by
    rw [List.getD_eq_getElem?_getD, List.getElem?_eq_getElem hq]
    exact List.getElem_idxOf hq
  have hb := newB_at (s := s) (r := r) (xs := xs) _ hq
  have hin := h'.rep.inside hb
  have htop := good_top h'
  have hbk2 : blkAt r ((reachG s r xs).getD ((reachG s r xs).idxOf k) 0) = b := by rw [hat]; exact hbk
  have hnb : newB s r (otherB r) (reachG s r xs) ((reachG s r xs).idxOf k) = ⟨placeG r (otherB r) (reachG s r xs) ((reachG s r xs).idxOf k), 202, b.F⟩ := by
    unfold newB
    rw [hbk2, (textF_tag ht).1, if_pos rfl]
  have ew : collW s r xs x = 2 * (placeG r (otherB r) (reachG s r xs) ((reachG s r xs).idxOf k) : Int) := by
    unfold collW
    rw [newW_some hl, h2]
    omega
  rw [hnb] at hb hin
  have h8 : placeG r (otherB r) (reachG s r xs) ((reachG s r xs).idxOf k) ≤ 65536 := by
    have h9 := hin.2
    have h10 : (⟨placeG r (otherB r) (reachG s r xs) ((reachG s r xs).idxOf k), 202, b.F⟩ : Blk).ad = placeG r (otherB r) (reachG s r xs) ((reachG s r xs).idxOf k) := rfl
    omega
  rw [ew]
  refine ⟨text_at h'.rep hb ?_ ?_, by unfold R64; omega⟩
  · show (placeG r (otherB r) (reachG s r xs) ((reachG s r xs).idxOf k) : Int) = _
    unfold addrW
    rw [if_neg (by omega)]
    omega
  · unfold textF
    rw [if_pos rfl]
    show readT b.F = _
    unfold textF at ht
    rw [if_pos (textF_tag (b := b) ht).1] at ht
    exact ht
/-- Another text is laid, with it among the roots. -/
theorem lay_keeps {k : Int} {n j : Nat} {X : Nat → Int} (l2 : List UInt8) (w : World) (hg : Good s r) (e : textAt s r (X j) = (some l, 0)) (hX : R64 (X j)) (hj : j < n) (h0 : (layOf r k n X l2).1 = 0) (h1 : Rep s' (layOf r k n X l2).2.2.2.1) : textAt s' (layOf r k n X l2).2.2.2.1 ((layOf r k n X l2).2.2.1 j) = (some l, 0) ∧ R64 ((layOf r k n X l2).2.2.1 j) := by
  have hp := pick_good hg
  rw [agree_text hg hp] at e
  unfold layOf at h0 h1 ⊢
  by_cases hl : 4096 < l2.length
  · rw [if_pos hl] at h0; exact absurd h0 (by show ¬ (4 : Int) = 0; decide)
  · rw [if_neg hl] at h0 h1 ⊢
    by_cases g : (pick r).allocE 202 (sizeT l2) = 0
    · rw [if_pos g] at h1 ⊢
      exact ⟨laid_keeps hp.rep e l2 h1, hX⟩
    · rw [if_neg g] at h0 h1 ⊢
      by_cases gf : (r.n : Int) < (lenG r (reachG (pick r) r (listX X n)) : Nat) + sizeT l2 + 1
      · rw [if_pos gf] at h0; exact absurd h0 (by show ¬ (10 : Int) = 0; decide)
      · rw [if_neg gf] at h1 ⊢
        have hgc := good_coll_pick hp w (xs := listX X n)
        have hm : X j ∈ listX X n := by unfold listX; exact List.mem_map.2 ⟨j, List.mem_range.2 hj, rfl⟩
        obtain ⟨q1, q2⟩ := coll_text hp e hm hgc
        exact ⟨laid_keeps hgc.rep q1 l2 h1, q2⟩
end Go.Proofs.Ytlhcleocdlnbdaa
