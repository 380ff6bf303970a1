/-
  Layer 7, plain: what the statements ask of the tokens that Lex tells. No program is named.
-/
import Derived.Test.YtapecobalkjdhaaDoorL7Lex
namespace Go.Proofs.YtapecobalkjdhaaDoor
set_option linter.unusedVariables false
set_option maxHeartbeats 1000000

theorem suf_zero (s : ByteArray) : suf s 0 = s.data.toList := rfl
theorem lexR_of {s : ByteArray} {ts : List (Tk × Nat)} (hs : s.size ≤ 4096) (h : Lexes docW (suf s 0) ts) : lexR s = .ok ts := by
  unfold lexR
  rw [if_neg (by omega)]
  exact (lexC_lexes docSigns).2 h
theorem lexR_lexes {s : ByteArray} {ts : List (Tk × Nat)} (h : lexR s = .ok ts) : s.size ≤ 4096 ∧ Lexes docW (suf s 0) ts := ⟨(lexR_ok h).1, (lexC_lexes docSigns).1 (lexR_ok h).2⟩
theorem suf_extract {s : ByteArray} {p : Nat} (hp : p ≤ s.size) : suf (s.extract 0 p) 0 = (suf s 0).take p := by
  unfold suf
  rw [ByteArray.data_extract]
  simp
theorem size_extract0 {s : ByteArray} {p : Nat} (hp : p ≤ s.size) : (s.extract 0 p).size = p := by
  rw [ByteArray.size_extract]
  omega
/-- A source that is cut ahead of a token, or at its end. -/
theorem cut_law {s : ByteArray} {ts : List (Tk × Nat)} {i : Nat} (h : lexR s = .ok ts) (hi : i < ts.length + 1) :
    ∃ (p : Nat) (ts' : List (Tk × Nat)) (t : TV), p ≤ s.size ∧ (toks s ts)[i]? = some t ∧ t.pl = (p : Int) ∧ lexR (s.extract 0 p) = .ok ts' ∧ ts'.length = i ∧ (toks (s.extract 0 p) ts').take i = (toks s ts).take i := by
  obtain ⟨hs, hl⟩ := lexR_lexes h
  by_cases hlt : i < ts.length
  · obtain ⟨tq, htq⟩ : ∃ tq, ts[i]? = some tq := ⟨_, List.getElem?_eq_getElem hlt⟩
    obtain ⟨t, q⟩ := tq
    have hmem : (t, q) ∈ ts := List.mem_of_getElem? htq
    obtain ⟨q1, q2⟩ := lexes_le docSigns hl _ hmem
    rw [suf_len] at q2
    simp only [Nat.sub_zero] at q2
    have hsplit : ts = ts.take i ++ (t, q) :: ts.drop (i + 1) := by
      have e1 := (List.take_append_drop i ts).symm
      have e2 : ts.drop i = (t, q) :: ts.drop (i + 1) := by
        rw [List.drop_eq_getElem_cons hlt]
        congr 1
        rw [List.getElem?_eq_getElem hlt] at htq
        exact Option.some.inj htq
      rw [e2] at e1
      exact e1
    have hz : (suf s (s.size - q)).length = q := by rw [suf_len]; omega
    have happ : suf s 0 = (suf s 0).take (s.size - q) ++ suf s (s.size - q) := by
      have : suf s (s.size - q) = (suf s 0).drop (s.size - q) := rfl
      rw [this, List.take_append_drop]
    obtain ⟨c1, c2⟩ := lexes_cut docSigns hl (a := (suf s 0).take (s.size - q)) (z := suf s (s.size - q)) (ts1 := ts.take i) (ts2 := ts.drop (i + 1)) (t := t) happ (by rw [hz]; exact hsplit)
    rw [hz] at c1
    refine ⟨s.size - q, (ts.take i).map (fun p => (p.1, p.2 - q)), ⟨t.kind, ((s.size - q : Nat) : Int), t.N, t.S⟩, by omega, ?_, rfl, ?_, ?_, ?_⟩
    · unfold toks tvs
      rw [List.getElem?_append_left (by rw [List.length_map]; exact hlt), List.getElem?_map, htq]
      rfl
    · refine lexR_of (by rw [size_extract0 (by omega)]; omega) ?_
      rw [suf_extract (by omega)]
      exact c1
    · rw [List.length_map, List.length_take]; omega
    · have hlen : ((ts.take i).map (fun p => (p.1, p.2 - q))).length = i := by rw [List.length_map, List.length_take]; omega
      unfold toks
      rw [List.take_append_of_le_length (by rw [tvs_len, hlen]; omega), List.take_append_of_le_length (by rw [tvs_len]; omega)]
      rw [List.take_of_length_le (by rw [tvs_len, hlen]; omega)]
      unfold tvs
      rw [List.map_map, ← List.map_take]
      refine List.map_congr_left (fun p hp => ?_)
      have hle : q ≤ p.2 := by
        have := lexes_le docSigns c1 (p.1, p.2 - q) (List.mem_map.2 ⟨p, hp, rfl⟩)
        have := this.1
        simp only at this
        omega
      have hle2 : p.2 ≤ s.size := by
        have := (lexes_le docSigns hl p (List.mem_of_mem_take hp)).2
        rw [suf_len] at this
        omega
      simp only [Function.comp, size_extract0 (show s.size - q ≤ s.size by omega)]
      rw [show s.size - q - (p.2 - q) = s.size - p.2 by omega]
  · obtain rfl : i = ts.length := by omega
    refine ⟨s.size, ts, endV s.size, Nat.le_refl _, ?_, rfl, ?_, rfl, ?_⟩
    · unfold toks
      rw [List.getElem?_append_right (by rw [tvs_len]; omega), tvs_len, Nat.sub_self]
      rfl
    · have : s.extract 0 s.size = s := by
        apply ByteArray.ext
        rw [ByteArray.data_extract]
        simp
      rw [this]
      exact h
    · have : s.extract 0 s.size = s := by
        apply ByteArray.ext
        rw [ByteArray.data_extract]
        simp
      rw [this]
end Go.Proofs.YtapecobalkjdhaaDoor
