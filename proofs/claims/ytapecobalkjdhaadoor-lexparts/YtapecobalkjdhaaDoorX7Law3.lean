/-
  Layer 7, plain: a comment more in a source; a source made of its tokens' texts. No program is named.
-/
import Derived.Test.YtapecobalkjdhaaDoorX7Law2
namespace Go.Proofs.YtapecobalkjdhaaDoor
set_option linter.unusedVariables false
set_option maxHeartbeats 1000000

theorem noMarks_blank {l : List UInt8} (h : noMarks l = true) : noMarks (32 :: l) = true := by
  cases l with
  | nil => rfl
  | cons b l => unfold noMarks; rw [h]; rfl
/-- A comment more, ahead of a token or of the end. -/
theorem gap_law {s own say : ByteArray} {ts : List (Tk × Nat)} {i : Nat} (h : lexR s = .ok ts) (hi : i < ts.length + 1) (hn : noMarks say.data.toList = true) :
    ∃ (p : Nat) (t : TV), p ≤ s.size ∧ (toks s ts)[i]? = some t ∧ t.pl = (p : Int) ∧
      (own.data.toList = s.data.toList.take p ++ ([32, 40, 42, 32] ++ say.data.toList ++ [32, 42, 41, 10]) ++ s.data.toList.drop p → own.size = s.size + (say.size + 8) ∧ (4096 < own.size → lexR own = .error (4, own.size)) ∧
        (own.size ≤ 4096 → ∃ vs, lexR own = .ok vs ∧ toks own vs = (toks s ts).take i ++ ((toks s ts).drop i).map (fun t => t.on ((say.size + 8 : Nat) : Int)))) := by
  obtain ⟨hs, hl⟩ := lexR_lexes h
  have key : ∀ (p : Nat) (t : TV) (ts1 us : List (Tk × Nat)), p ≤ s.size → (toks s ts)[i]? = some t → t.pl = (p : Int) → Lexes docW ((suf s 0).take p) ts1 → Lexes docW (suf s p) us → tvs p ts1 = (toks s ts).take i → tvs s.size us ++ [endV s.size] = (toks s ts).drop i →
      ∃ (p : Nat) (t : TV), p ≤ s.size ∧ (toks s ts)[i]? = some t ∧ t.pl = (p : Int) ∧
      (own.data.toList = s.data.toList.take p ++ ([32, 40, 42, 32] ++ say.data.toList ++ [32, 42, 41, 10]) ++ s.data.toList.drop p → own.size = s.size + (say.size + 8) ∧ (4096 < own.size → lexR own = .error (4, own.size)) ∧
        (own.size ≤ 4096 → ∃ vs, lexR own = .ok vs ∧ toks own vs = (toks s ts).take i ++ ((toks s ts).drop i).map (fun t => t.on ((say.size + 8 : Nat) : Int)))) := by
    intro p t ts1 us h1 h2 h3 h4 h5 h6 h7
    refine ⟨p, t, h1, h2, h3, fun ho => ?_⟩
    have hsz : own.size = s.size + (say.size + 8) := by
      rw [← len_data own, ho]
      simp only [List.length_append, List.length_take, List.length_drop, len_data, List.length_cons, List.length_nil]
      omega
    refine ⟨hsz, fun hb => by unfold lexR; rw [if_pos hb], fun hb => ?_⟩
    have hg := lexes_gap docSigns h4 h5 (say := say.data.toList) (noMarks_blank hn)
    have hzl : (suf s p).length = s.size - p := suf_len s p
    rw [hzl, len_data] at hg
    have e : (suf s 0).take p ++ 32 :: (40 :: 42 :: (32 :: say.data.toList ++ 32 :: 42 :: 41 :: 10 :: suf s p)) = suf own 0 := by
      rw [suf_zero own, ho]
      unfold suf
      simp
    rw [e] at hg
    refine ⟨_, lexR_of hb hg, ?_⟩
    unfold toks at h7 ⊢
    rw [tvs, List.map_append, ← tvs, ← tvs]
    rw [show s.size - p + say.size + 8 = (s.size - p) + (say.size + 8) by omega]
    rw [tvs_up (n := p) (d := (s.size - p) + (say.size + 8)) (by omega) (fun q hq => by
      have := lexes_le docSigns h4 q hq
      have h9 := this.2
      rw [List.length_take] at h9
      omega), h6, ← h7, tvs_on (n := s.size) (d := say.size + 8) (by omega) (fun q hq => by
      have := (lexes_le docSigns h5 q hq).2
      rw [suf_len] at this
      omega), List.map_append, List.append_assoc]
    have : [endV own.size] = List.map (fun t => t.on ((say.size + 8 : Nat) : Int)) [endV s.size] := by
      simp only [List.map_cons, List.map_nil]
      congr 1
      unfold endV TV.on
      congr 1
      rw [hsz]
      simp
    rw [this]
    rfl
  by_cases hlt : i < ts.length
  · obtain ⟨tq, htq⟩ : ∃ tq, ts[i]? = some tq := ⟨_, List.getElem?_eq_getElem hlt⟩
    obtain ⟨t, q⟩ := tq
    have hmem : (t, q) ∈ ts := List.mem_of_getElem? htq
    obtain ⟨q1, q2⟩ := lexes_bound hl hmem
    simp only at q1 q2
    have hdrop : ts.drop i = (t, q) :: ts.drop (i + 1) := by
      rw [List.drop_eq_getElem_cons hlt]
      congr 1
      rw [List.getElem?_eq_getElem hlt] at htq
      exact Option.some.inj htq
    have hsplit : ts = ts.take i ++ (t, q) :: ts.drop (i + 1) := by rw [← hdrop, List.take_append_drop]
    have hz : (suf s (s.size - q)).length = q := by rw [suf_len]; omega
    have happ : suf s 0 = (suf s 0).take (s.size - q) ++ suf s (s.size - q) := by
      have : suf s (s.size - q) = (suf s 0).drop (s.size - q) := rfl
      rw [this, List.take_append_drop]
    obtain ⟨c1, c2⟩ := lexes_cut docSigns hl (a := (suf s 0).take (s.size - q)) (z := suf s (s.size - q)) (ts1 := ts.take i) (ts2 := ts.drop (i + 1)) (t := t) happ (by rw [hz]; exact hsplit)
    rw [hz] at c1 c2
    refine key (s.size - q) ⟨t.kind, ((s.size - q : Nat) : Int), t.N, t.S⟩ _ _ (by omega) ?_ rfl c1 c2 ?_ ?_
    · unfold toks tvs
      rw [List.getElem?_append_left (by rw [List.length_map]; exact hlt), List.getElem?_map, htq]
      rfl
    · unfold toks
      rw [List.take_append_of_le_length (by rw [tvs_len]; omega)]
      unfold tvs
      rw [List.map_map, ← List.map_take]
      refine List.map_congr_left (fun p hp => ?_)
      have hle : q ≤ p.2 := by
        have := (lexes_le docSigns c1 (p.1, p.2 - q) (List.mem_map.2 ⟨p, hp, rfl⟩)).1
        simp only at this
        omega
      have hle2 := (lexes_bound hl (List.mem_of_mem_take hp)).2
      simp only [Function.comp]
      rw [show s.size - q - (p.2 - q) = s.size - p.2 by omega]
    · unfold toks
      rw [List.drop_append_of_le_length (by rw [tvs_len]; omega)]
      congr 1
      unfold tvs
      rw [← List.map_drop, hdrop]
  · obtain rfl : i = ts.length := by omega
    refine key s.size (endV s.size) ts [] (Nat.le_refl _) ?_ rfl ?_ ?_ ?_ ?_
    · unfold toks
      rw [List.getElem?_append_right (by rw [tvs_len]; omega), tvs_len, Nat.sub_self]
      rfl
    · have : (suf s 0).take s.size = suf s 0 := List.take_of_length_le (by rw [suf_len]; omega)
      rw [this]
      exact hl
    · have : suf s s.size = [] := suf_end (by omega)
      rw [this]
      exact Lexes.nil
    · unfold toks
      rw [List.take_append_of_le_length (by rw [tvs_len]; omega), List.take_of_length_le (by rw [tvs_len]; omega)]
    · unfold toks
      rw [List.drop_append, tvs_len, List.drop_of_length_le (by rw [tvs_len]; omega)]
      simp [tvs]
/-- All texts, a blank behind each. -/
theorem back_law {s own : ByteArray} {ts : List (Tk × Nat)} (h : lexR s = .ok ts) (ho : own.data.toList = backT Lib.itoa ts ++ [32]) :
    (4096 < own.size → lexR own = .error (4, own.size)) ∧ (own.size ≤ 4096 → ∃ vs, lexR own = .ok vs ∧ vs.map (·.1) = ts.map (·.1)) := by
  obtain ⟨hs, hl⟩ := lexR_lexes h
  refine ⟨fun hb => by unfold lexR; rw [if_pos hb], fun hb => ?_⟩
  obtain ⟨us, u1, u2⟩ := lexes_back docOk [32] (Lexes.blank rfl Lexes.nil) ts (lexes_toks hl)
  exact ⟨us, lexR_of hb (by rw [suf_zero, ho]; exact u1), u2⟩
end Go.Proofs.YtapecobalkjdhaaDoor
