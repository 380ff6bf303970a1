/-
 Layer 8, the statements: what binds more is read first. No program is named but by its plain answer.
-/
import Derived.Test.YthjmakjhidjbaaaGreatX8BrkL
namespace Go.Proofs.YthjmakjhidjbaaaGreat
set_option linter.unusedVariables false
set_option linter.unusedSimpArgs false
set_option maxHeartbeats 1000000

/-- It is read behind 'let _ = ' as one item with one part. -/
def Good1 (x : ByteArray) : Prop := ∃ t, parseR (⟨#[108, 101, 116, 32, 95, 32, 61, 32]⟩ ++ x) = .ok [t] ∧ t.L.length = 1
theorem let_data (s : ByteArray) : (⟨#[108, 101, 116, 32, 95, 32, 61, 32]⟩ ++ s).data.toList = letB ++ 32 :: s.data.toList := by
 rw [ByteArray.data_append]
 simp [letB]
theorem brk_data (s : ByteArray) : (⟨#[40]⟩ ++ s ++ ⟨#[41]⟩).data.toList = 40 :: (s.data.toList ++ 41 :: []) := by
 rw [ByteArray.data_append, ByteArray.data_append]
 simp
/-- A seq to its end. -/
structure SeqB (l : List UInt8) (tp : List (Tk × Nat)) (x : Tr) : Prop where
 lex : Lexes docW l tp
 star : ∀ z, l ≠ 42 :: z
 tok : Toks (srcT tp)
 seq : reads (srcT tp) .seq 0 = .ok (x, (srcT tp).length)
theorem good_seq {s : ByteArray} (h : Good1 s) (h' : Good1 (⟨#[40]⟩ ++ s ++ ⟨#[41]⟩)) : ∃ tp x, SeqB s.data.toList tp x := by
 obtain ⟨t, h1, ht⟩ := h
 obtain ⟨t', h2, ht'⟩ := h'
 obtain ⟨vs, r, e, l1, l2, l3, l4⟩ := parse_read h1
 obtain ⟨tp, hA, hvs⟩ := let_lexes (let_data s) l1
 rw [hvs] at l2
 have hss : s.size ≤ 4096 := by
  have e0 := (lexR_count l1).1
  have e1 := len_data (⟨#[108, 101, 116, 32, 95, 32, 61, 32]⟩ ++ s)
  rw [let_data] at e1
  simp only [List.length_append, List.length_cons, len_data] at e1
  omega
 have hls : lexR s = .ok tp := lexes_R hss hA
 have tA := src_toks hls
 have hstar : ∀ z, s.data.toList ≠ 42 :: z := by
  intro z hz
  have hA' := hA
  rw [hz] at hA'
  have h3 := lexes_star hA'
  obtain ⟨x1, k, g1, _⟩ := let_inv tA l2 (by rw [l3]) ht
  have h4 := star_not (nt := .seq) rfl g1
  have e1 : tk (u3 ++ srcT tp) 3 = tk (srcT tp) 0 := tk_app (u := u3) (l := srcT tp) 0
  rw [e1, h3] at h4
  cases h4
 obtain ⟨vb, b1, b2⟩ := lex_br hA hstar .nil
 rw [← brk_data] at b1
 obtain ⟨vx, r', e', m1, m2, m3, m4⟩ := parse_read h2
 obtain ⟨tb, hB, hvx⟩ := let_lexes (let_data _) m1
 have e2 := lexes_one docSigns hB b1
 subst e2
 have ex : srcT tb = br P0 (srcT tp) := by
  show tb.map (·.1) = _
  rw [b2]
  simp [srcT]
 rw [hvx, ex] at m2
 obtain ⟨z, hz⟩ := in_brackets2 tA l2 (by rw [l3]) ht m2
 exact ⟨tp, z, hA, hstar, tA, hz⟩
/-- Two sources whose trees are one but for places are told alike. -/
theorem told_np {s s' : ByteArray} {tp tp' : List (Tk × Nat)} {r r' : Tr} {e e' : Nat} (hl : lexR s = .ok tp) (hl' : lexR s' = .ok tp') (h : reads (srcT tp) .items 0 = .ok (r, e)) (h' : reads (srcT tp') .items 0 = .ok (r', e')) (hn : r.L.map Tr.np = r'.L.map Tr.np) :
  (∃ L L', parseR s = .ok L ∧ parseR s' = .ok L' ∧ L.map Tr.np = L'.map Tr.np) ∨ (∃ k p p', (k = 3 ∨ k = 22) ∧ parseR s = .error (k, p) ∧ parseR s' = .error (k, p')) := by
 have hc := np_cntL _ _ hn
 unfold parseR
 rw [hl, hl']
 simp only [h, h']
 by_cases hm : 4096 < 1 + cntL r.L
 ·right
  rw [if_pos hm, if_pos (by omega)]
  exact ⟨3, 0, 0, Or.inl rfl, rfl, rfl⟩
 ·rw [if_neg hm, if_neg (by omega)]
  cases hd : deepL (plM (toks s tp)) 149 r.L with
  | none =>
   left
   rw [np_deep _ _ _ _ _ hn hd]
   exact ⟨_, _, rfl, rfl, hn⟩
  | some p =>
   right
   cases hd' : deepL (plM (toks s' tp')) 149 r'.L with
   | none =>
    rw [np_deep _ _ _ _ _ hn.symm hd'] at hd
    cases hd
   | some p' => exact ⟨22, p, p', Or.inr rfl, rfl, rfl⟩
/-- A sign's bytes, and its level. -/
def sgB (i : Nat) : List UInt8 := opsL.getD i []
def lvB (i : Nat) : Nat := [0, 1, 3, 4, 5, 5, 5, 5, 5, 5, 6, 7, 8, 8, 9, 9, 9].getD i 0
theorem sg_in : ∀ i, i < 17 → sgB i ∈ opsL ∧ lvB i < 10 ∧ opAt (lvB i) ⟨5, sgB i, 0⟩ = true := by decide
theorem lv_left : ∀ i, i < 17 → (leftL (lvB i) = (lvB i == 5 || decide (7 < lvB i))) := by decide
theorem binds_law {a b c ps ws : ByteArray} {ta tb tc : List (Tk × Nat)} {xa xb xc : Tr} (ha : SeqB a.data.toList ta xa) (hb : SeqB b.data.toList tb xb) (hc : SeqB c.data.toList tc xc) {i k : Nat} (hi : i < 17) (hk : k < 17) (hps : ps.size ≤ 4096) (hws : ws.size ≤ 4096)
  (hp : ps.data.toList = letB ++ 32 :: ((40 :: (a.data.toList ++ 41 :: [])) ++ 32 :: (sgB i ++ 32 :: ((40 :: (b.data.toList ++ 41 :: [])) ++ 32 :: (sgB k ++ 32 :: (40 :: (c.data.toList ++ 41 :: [])))))))
  (hw : ws.data.toList = if lvB k < lvB i ∨ (lvB i = lvB k ∧ leftL (lvB i) = true) then letB ++ 32 :: ((40 :: (((40 :: (a.data.toList ++ 41 :: [])) ++ 32 :: (sgB i ++ 32 :: (40 :: (b.data.toList ++ 41 :: [])))) ++ 41 :: [])) ++ 32 :: (sgB k ++ 32 :: (40 :: (c.data.toList ++ 41 :: [])))) else letB ++ 32 :: ((40 :: (a.data.toList ++ 41 :: [])) ++ 32 :: (sgB i ++ 32 :: (40 :: (((40 :: (b.data.toList ++ 41 :: [])) ++ 32 :: (sgB k ++ 32 :: (40 :: (c.data.toList ++ 41 :: [])))) ++ 41 :: []))))) :
  (∃ L L', parseR ps = .ok L ∧ parseR ws = .ok L' ∧ L.map Tr.np = L'.map Tr.np) ∨ (∃ k p p', (k = 3 ∨ k = 22) ∧ parseR ps = .error (k, p) ∧ parseR ws = .error (k, p')) := by
 obtain ⟨i1, i2, i3⟩ := sg_in i hi
 obtain ⟨k1, k2, k3⟩ := sg_in k hk
 obtain ⟨r, r', e, e', q1, q2, q3⟩ := binds_plain ha.tok hb.tok hc.tok ha.seq hb.seq hc.seq i1 k1 i2 i3 k2 k3
 obtain ⟨va, a1, a2⟩ := lex_br ha.lex ha.star .nil
 obtain ⟨vb, b1, b2⟩ := lex_br hb.lex hb.star .nil
 obtain ⟨vc, c1, c2⟩ := lex_br hc.lex hc.star .nil
 simp only [List.map_nil, List.append_nil] at a2 b2 c2
 obtain ⟨v1, d1, d2⟩ := lex_mid k1 b1 c1
 obtain ⟨v2, d3, d4⟩ := lex_mid i1 a1 d1
 obtain ⟨v3, d5, d6⟩ := lex_let d3
 rw [← hp] at d5
 have lp := lexes_R hps d5
 have ep : srcT v3 = u3 ++ (br P0 (srcT ta) ++ ⟨5, sgB i, 0⟩ :: (br P0 (srcT tb) ++ ⟨5, sgB k, 0⟩ :: br P0 (srcT tc))) := by
  show v3.map (·.1) = _
  rw [d6, d4, d2, a2, b2, c2]
  rfl
 have ns : ∀ (x y z : List UInt8), (40 :: x) ++ y ≠ 42 :: z := fun x y z h => by simp at h
 by_cases hl : lvB k < lvB i ∨ (lvB i = lvB k ∧ leftL (lvB i) = true)
 ·rw [if_pos hl] at hw q2
  obtain ⟨w1, f1, f2⟩ := lex_mid i1 a1 b1
  obtain ⟨w2, f3, f4⟩ := lex_br f1 (fun z h => by simp at h) .nil
  simp only [List.map_nil, List.append_nil] at f4
  obtain ⟨w3, f5, f6⟩ := lex_mid k1 f3 c1
  obtain ⟨w4, f7, f8⟩ := lex_let f5
  rw [← hw] at f7
  refine told_np lp (lexes_R hws f7) (by rw [ep]; exact q1) (e' := e') (r' := r') ?_ q3
  have ew : srcT w4 = u3 ++ (br P0 (br P0 (srcT ta) ++ ⟨5, sgB i, 0⟩ :: br P0 (srcT tb)) ++ ⟨5, sgB k, 0⟩ :: br P0 (srcT tc)) := by
   show w4.map (·.1) = _
   rw [f8, f6, f4, f2, a2, b2, c2]
   rfl
  rw [ew]
  exact q2
 ·rw [if_neg hl] at hw q2
  obtain ⟨w1, f1, f2⟩ := lex_br d1 (fun z h => by simp at h) .nil
  simp only [List.map_nil, List.append_nil] at f2
  obtain ⟨w2, f3, f4⟩ := lex_mid i1 a1 f1
  obtain ⟨w4, f7, f8⟩ := lex_let f3
  rw [← hw] at f7
  refine told_np lp (lexes_R hws f7) (by rw [ep]; exact q1) (e' := e') (r' := r') ?_ q3
  have ew : srcT w4 = u3 ++ (br P0 (srcT ta) ++ ⟨5, sgB i, 0⟩ :: br P0 (br P0 (srcT tb) ++ ⟨5, sgB k, 0⟩ :: br P0 (srcT tc))) := by
   show w4.map (·.1) = _
   rw [f8, f4, f2, d2, a2, b2, c2]
   rfl
  rw [ew]
  exact q2
end Go.Proofs.YthjmakjhidjbaaaGreat
