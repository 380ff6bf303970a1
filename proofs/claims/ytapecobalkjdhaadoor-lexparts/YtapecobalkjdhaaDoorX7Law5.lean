/-
  Layer 7, plain: where a token stands, and what lies between two. No program is named.
-/
import Derived.Test.YtapecobalkjdhaaDoorX7Law4
import Derived.Test.YtapecobalkjdhaaDoorX7Parts
namespace Go.Proofs.YtapecobalkjdhaaDoor
set_option linter.unusedVariables false
set_option maxHeartbeats 1000000

/-- Where a token stands first, it is read first. -/
theorem lexes_head {W : LexW} (hW : SignsOk W) {z : List UInt8} {t : Tk} {us : List (Tk × Nat)} (h : Lexes W z ((t, z.length) :: us)) : ∃ r, tokAt W z = .ok (t, r) ∧ Lexes W r us := by
  cases h with
  | blank hc h =>
    have := (lexes_le hW h _ (List.mem_cons_self)).2
    simp only [List.length_cons] at this
    omega
  | comment hc h =>
    have := (lexes_le hW h _ (List.mem_cons_self)).2
    have h2 := skipC_len _ _ hc
    simp only [List.length_cons] at this
    omega
  | tok hb hn ht h => exact ⟨_, ht, h⟩
theorem part_law {s : ByteArray} {ts : List (Tk × Nat)} {i : Nat} (h : lexR s = .ok ts) (hi : i < ts.length) :
    ∃ (t t2 : TV) (p np : Nat), (toks s ts)[i]? = some t ∧ (toks s ts)[i + 1]? = some t2 ∧ t.pl = (p : Int) ∧ t2.pl = (np : Int) ∧ p < np ∧ np ≤ s.size ∧ t.kind ≠ 0 ∧
      ((t.kind = 2 ∧ (suf s p).head? = some 34) ∨ (t.kind ≠ 2 ∧ p + (textV t).length ≤ np ∧ (s.extract p (p + (textV t).length)).data.toList = textV t ∧ lexR (s.extract (p + (textV t).length) np) = .ok [])) := by
  obtain ⟨hs, hl⟩ := lexR_lexes h
  obtain ⟨tq, htq⟩ : ∃ tq, ts[i]? = some tq := ⟨_, List.getElem?_eq_getElem hi⟩
  obtain ⟨t, q⟩ := tq
  have hmem : (t, q) ∈ ts := List.mem_of_getElem? htq
  obtain ⟨q1, q2⟩ := lexes_bound hl hmem
  simp only at q1 q2
  have hdrop : ts.drop i = (t, q) :: ts.drop (i + 1) := by
    rw [List.drop_eq_getElem_cons hi]
    congr 1
    rw [List.getElem?_eq_getElem hi] at htq
    exact Option.some.inj htq
  have hsplit : ts = ts.take i ++ (t, q) :: ts.drop (i + 1) := by rw [← hdrop, List.take_append_drop]
  have hz : (suf s (s.size - q)).length = q := by rw [suf_len]; omega
  have happ : suf s 0 = (suf s 0).take (s.size - q) ++ suf s (s.size - q) := by
    have : suf s (s.size - q) = (suf s 0).drop (s.size - q) := rfl
    rw [this, List.take_append_drop]
  obtain ⟨c1, c2⟩ := lexes_cut docSigns hl (a := (suf s 0).take (s.size - q)) (z := suf s (s.size - q)) (ts1 := ts.take i) (ts2 := ts.drop (i + 1)) (t := t) happ (by rw [hz]; exact hsplit)
  obtain ⟨r, hr1, hr2⟩ := lexes_head docSigns c2
  have hrl := tok_len docSigns hr1
  rw [hz] at hrl
  obtain ⟨hrs, _⟩ := suf_at (tok_suf hr1) (by omega)
  have htk : (toks s ts)[i]? = some ⟨t.kind, ((s.size - q : Nat) : Int), t.N, t.S⟩ := by
    unfold toks tvs
    rw [List.getElem?_append_left (by rw [List.length_map]; exact hi), List.getElem?_map, htq]
    rfl
  have hkind : t.kind ≠ 0 := by
    rcases tok_stands docOk hr1 with ⟨e, _⟩ | ⟨_, e, _⟩
    · rw [e]; decide
    · exact e
  have key : ∀ (t2 : TV) (q' : Nat), (toks s ts)[i + 1]? = some t2 → t2.pl = ((s.size - q' : Nat) : Int) → q' ≤ r.length → Lexes docW (r.take (r.length - q')) [] →
      ∃ (t t2 : TV) (p np : Nat), (toks s ts)[i]? = some t ∧ (toks s ts)[i + 1]? = some t2 ∧ t.pl = (p : Int) ∧ t2.pl = (np : Int) ∧ p < np ∧ np ≤ s.size ∧ t.kind ≠ 0 ∧
      ((t.kind = 2 ∧ (suf s p).head? = some 34) ∨ (t.kind ≠ 2 ∧ p + (textV t).length ≤ np ∧ (s.extract p (p + (textV t).length)).data.toList = textV t ∧ lexR (s.extract (p + (textV t).length) np) = .ok [])) := by
    intro t2 q' h1 h2 h3 h4
    refine ⟨_, t2, s.size - q, s.size - q', htk, h1, rfl, h2, by omega, by omega, hkind, ?_⟩
    rcases tok_stands docOk hr1 with ⟨e, x, hx⟩ | ⟨e, _, hx⟩
    · exact Or.inl ⟨e, by rw [hx]; rfl⟩
    · right
      have htv : textV ⟨t.kind, ((s.size - q : Nat) : Int), t.N, t.S⟩ = textT Lib.itoa t := rfl
      rw [htv]
      have hlen : (textT Lib.itoa t).length + r.length = q := by rw [← hz, ← hx, List.length_append]
      refine ⟨e, by omega, ?_, ?_⟩
      · rw [take_suf (by omega), ← hx, List.take_left]
      · refine lexR_of (by rw [ByteArray.size_extract]; omega) ?_
        have e2 : suf (s.extract (s.size - q + (textT Lib.itoa t).length) (s.size - q')) 0 = r.take (r.length - q') := by
          rw [show s.size - q' = s.size - q + (textT Lib.itoa t).length + (r.length - q') by omega, suf_zero, take_suf (by omega)]
          congr 1
          rw [show s.size - q + (textT Lib.itoa t).length = s.size - r.length by omega]
          exact hrs.symm
        rw [e2]
        exact h4
  by_cases hlt : i + 1 < ts.length
  · obtain ⟨tq2, htq2⟩ : ∃ tq, ts[i + 1]? = some tq := ⟨_, List.getElem?_eq_getElem hlt⟩
    obtain ⟨t2, q'⟩ := tq2
    have hd2 : ts.drop (i + 1) = (t2, q') :: ts.drop (i + 1 + 1) := by
      rw [List.drop_eq_getElem_cons hlt]
      congr 1
      rw [List.getElem?_eq_getElem hlt] at htq2
      exact Option.some.inj htq2
    rw [hd2] at hr2
    have hq' := (lexes_le docSigns hr2 _ (List.mem_cons_self)).2
    simp only at hq'
    refine key ⟨t2.kind, ((s.size - q' : Nat) : Int), t2.N, t2.S⟩ q' ?_ rfl hq' ?_
    · unfold toks tvs
      rw [List.getElem?_append_left (by rw [List.length_map]; exact hlt), List.getElem?_map, htq2]
      rfl
    · have hzz : (r.drop (r.length - q')).length = q' := by rw [List.length_drop]; omega
      have := (lexes_cut docSigns hr2 (a := r.take (r.length - q')) (z := r.drop (r.length - q')) (ts1 := []) (ts2 := ts.drop (i + 1 + 1)) (t := t2) (List.take_append_drop _ _).symm (by rw [hzz]; rfl)).1
      exact this
  · have he : ts.drop (i + 1) = [] := List.drop_of_length_le (by omega)
    rw [he] at hr2
    refine key (endV s.size) 0 ?_ (by simp [endV]) (by omega) ?_
    · unfold toks
      rw [List.getElem?_append_right (by rw [tvs_len]; omega), tvs_len, show i + 1 - ts.length = 0 by omega]
      rfl
    · rw [Nat.sub_zero, List.take_length]
      exact hr2
end Go.Proofs.YtapecobalkjdhaaDoor
