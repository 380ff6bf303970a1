/-
 Layer 8, the statements: two sources, one behind the other. No program is named but by its plain answer.
-/
import Derived.Test.YthjmakjhidjbaabGreatX8Np
namespace Go.Proofs.YthjmakjhidjbaabGreat
set_option linter.unusedVariables false
set_option linter.unusedSimpArgs false
set_option maxHeartbeats 1000000

theorem cntL_app : ∀ (L K : List Tr), cntL (L ++ K) = cntL L + cntL K
 | [], K => by simp [cntL]
 | x :: L, K => by
  rw [List.cons_append]
  simp only [cntL]
  rw [cntL_app L K]
  omega
theorem deepL_app {f : Nat → Int} {m : Nat} : ∀ {L K : List Tr}, deepL f m L = none → deepL f m K = none → deepL f m (L ++ K) = none
 | [], K, _, h => h
 | x :: L, K, h, h' => by
  rw [List.cons_append]
  rw [deepL] at h ⊢
  cases hx : deepT f m x with
  | some p => rw [hx] at h; cases h
  | none =>
   rw [hx] at h
   exact deepL_app h h'
/-- No source that is read begins with ';;'. -/
theorem first_not {s : ByteArray} {L : List Tr} {tp : List (Tk × Nat)} (h : parseR s = .ok L) (hl : lexR s = .ok tp) : isS [59, 59] (tk (srcT tp) 0) = false := by
 obtain ⟨tp', r, e, l1, l2, _, _⟩ := parse_read h
 rw [hl] at l1
 cases l1
 rcases Nat.eq_zero_or_pos (srcT tp).length with c | c
 ·rw [tk_end (by omega)]
  rfl
 ·rw [items_more (src_toks hl) c] at l2
  cases hi : reads (srcT tp) .item 0 with
  | error m => rw [hi] at l2; cases l2
  | ok xj => exact (item_closer (x := xj.1) (j := xj.2) (Nat.zero_le _) hi).2
/-- Parts of what is told are so deep alone. -/
theorem parse_deep {s : ByteArray} {L : List Tr} (h : parseR s = .ok L) : ∃ f, deepL f 149 L = none := by
 unfold parseR at h
 cases hl1 : lexR s with
 | error ek => rw [hl1] at h; cases h
 | ok tp1 =>
  rw [hl1] at h
  simp only at h
  split at h
  ·cases h
  ·split at h
   ·cases h
   ·split at h
    ·cases h
    ·rename_i hd
     simp only [Except.ok.injEq] at h
     subst h
     exact ⟨_, hd⟩
theorem nl_data (a b : ByteArray) : (a ++ ⟨#[10]⟩ ++ b).data.toList = a.data.toList ++ 10 :: b.data.toList := by
 rw [ByteArray.data_append, ByteArray.data_append]
 simp
theorem nl_size (a b : ByteArray) : (a ++ ⟨#[10]⟩ ++ b).size = a.size + 1 + b.size := by
 rw [← len_data, nl_data, List.length_append, List.length_cons, len_data, len_data]; omega
/-- Two sources, one behind the other. -/
theorem items_law {a b : ByteArray} {La Lb : List Tr} (ha : parseR a = .ok La) (hb : parseR b = .ok Lb) (hz : a.size + 1 + b.size ≤ 4096) :
  (1 + cntL La + cntL Lb ≤ 4096 → ∃ L, parseR (a ++ ⟨#[10]⟩ ++ b) = .ok L ∧ L.map Tr.np = (La ++ Lb).map Tr.np) ∧ (4096 < 1 + cntL La + cntL Lb → parseR (a ++ ⟨#[10]⟩ ++ b) = .error (3, 0)) := by
 obtain ⟨ta, ra, ea, a1, a2, a3, a4⟩ := parse_read ha
 obtain ⟨tb, rb, eb, b1, b2, b3, b4⟩ := parse_read hb
 have hj := lexes_join docSigns (lexR_lexes a1).2 (c := 10) (by decide) (lexR_lexes b1).2
 rw [suf_zero, suf_zero, ← nl_data] at hj
 have hl := lexes_R (by rw [nl_size]; exact hz) hj
 have e1 : srcT (ta.map (fun p => (p.1, p.2 + ((b.data.toList).length + 1))) ++ tb) = srcT ta ++ srcT tb := by
  unfold srcT
  rw [List.map_append, List.map_map]
  rfl
 obtain ⟨x', j', h1, h2⟩ := items_join (src_toks a1) (src_toks b1) b2 (srcT ta).length 0 (by omega) (Nat.zero_le _) ra ea a2
 rw [a3, b3] at h2
 have hc : cntL x'.L = cntL La + cntL Lb := by rw [np_cntL _ _ h2, cntL_app]
 constructor
 ·intro hle
  refine ⟨x'.L, ?_, h2⟩
  unfold parseR
  rw [hl]
  simp only
  rw [e1, h1]
  simp only
  rw [if_neg (by omega)]
  obtain ⟨fa, da⟩ := parse_deep ha
  obtain ⟨fb, db⟩ := parse_deep hb
  have d1 : deepL fa 149 (La ++ Lb) = none := deepL_app da (np_deep fb fa _ _ _ rfl db)
  rw [np_deep fa _ _ _ _ h2.symm d1]
 ·intro hgt
  unfold parseR
  rw [hl]
  simp only
  rw [e1, h1]
  simp only
  rw [if_pos (by omega)]
end Go.Proofs.YthjmakjhidjbaabGreat
