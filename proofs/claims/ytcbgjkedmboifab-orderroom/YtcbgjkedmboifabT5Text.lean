/-
  Layer 5: a word that holds a text, its fields and bytes. Plain.
-/
import Derived.Test.YtcbgjkedmboifabR5Text
namespace Go.Proofs.Ytcbgjkedmboifab
open Go.ChangeShapes Go.WideShapes Go.ChangeAt Go.RowKit Go.Deep
set_option linter.unusedVariables false
set_option maxHeartbeats 1000000

variable {s s' : St} {r r' : RS} {x y i : Int} {l l' : List UInt8}
theorem text_at {k : Nat} {b : Blk} (h : Rep s r) (hb : r.L[k]? = some b) (hx : (b.ad : Int) = addrW x) (ht : textF b = some l) : textAt s r x = (some l, 0) := by
  have hf := h.find_blk' hb hx
  have hin := h.inside hb
  rcases text_cases h x with ⟨c, _⟩ | ⟨k', b', hk, hfk, _, _, _, _, et⟩
  · rw [hf] at c
    rcases c with c | c
    · have c2 : (b.ad : Int) = 0 := c
      omega
    · exact absurd c (show ¬ (0 : Int) < 0 by decide)
  · have : k = k' := h.inj hb hk (by rw [hf] at hfk; have h5 : (b.ad : Int) = b'.ad := hfk; omega)
    subst this
    rw [hb] at hk
    cases hk
    rw [et, ht]; rfl
theorem text_is (h : Rep s r) (e : textAt s r x = (some l, 0)) : ∃ k b, r.L[k]? = some b ∧ (b.ad : Int) = addrW x ∧ leadI s r x = some k ∧ blkAt r k = b ∧ textF b = some l ∧ (s.find x).2 = 0 := by
  rcases text_cases h x with ⟨_, e2⟩ | ⟨k, b, hk, _, h2, hx, hl, hbk, et⟩
  · rw [e] at e2; cases e2
  · rw [e] at et
    have : textF b = some l := (congrArg Prod.fst et).symm
    exact ⟨k, b, hk, hx, hl, hbk, this, h2⟩
theorem textF_tag {b : Blk} (h : textF b = some l) : b.tag = 202 ∧ b.F = fieldsT l := by
  unfold textF at h
  split at h
  · rename_i c; exact ⟨c, (read_some h).symm⟩
  · cases h
/-- A field of a block, read. -/
theorem get_blk {k j : Nat} {b : Blk} (h : Rep s r) (hb : r.L[k]? = some b) (hx : (b.ad : Int) = addrW x) (hj : j < b.F.length) : s.fieldE x j = 0 ∧ s.get x j = b.F.getD j 0 := by
  have hf := h.find_blk' hb hx
  have he := (rep_put (v := 0) (i := j) h hb (by rw [hf]) hj).1
  refine ⟨he, ?_⟩
  unfold St.get
  rw [if_pos he, hf]
  show s.C ((b.ad : Int) + j).toNat = _
  rw [show ((b.ad : Int) + j).toNat = b.ad + j from by omega, List.getD_eq_getElem?_getD, List.getElem?_eq_getElem hj]
  exact h.fld k b hb _ _ (List.getElem?_eq_getElem hj)
theorem get_text (h : Rep s r) (e : textAt s r x = (some l, 0)) {j : Nat} (hj : j < l.length / 8 + 1) : s.fieldE x j = 0 ∧ s.get x j = (fieldsT l).getD j 0 := by
  obtain ⟨k, b, hk, hx, _, _, ht, _⟩ := text_is h e
  have hF := (textF_tag ht).2
  have := get_blk h hk hx (j := j) (by rw [hF, fieldsT_len]; exact hj)
  rw [hF] at this
  exact this
theorem size_text (h : Rep s r) (e : textAt s r x = (some l, 0)) : s.size x = ((l.length / 8 + 1 : Nat) : Int) := by
  obtain ⟨k, b, hk, hx, _, _, ht, _⟩ := text_is h e
  have hf := h.find_blk' hk hx
  have hin := h.inside hk
  have hF := (textF_tag ht).2
  unfold St.size
  rw [if_neg (by rw [hf]; show ¬ (b.ad : Int) = 0; omega), hf]
  have := (h.tagAt hk).2
  rw [hF, fieldsT_len] at this
  exact this
theorem byte_of (e : textAt s r x = (some l, 0)) (i : Int) : byteAt s r x i = byteOut (some l) i := by
  unfold byteAt
  rw [e, if_neg (by show ¬ (0 : Int) = 6; decide)]
end Go.Proofs.Ytcbgjkedmboifab
