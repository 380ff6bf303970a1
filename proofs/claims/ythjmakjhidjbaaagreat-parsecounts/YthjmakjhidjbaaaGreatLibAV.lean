/-
  Several small texts in one; each tells at its head what it proves, and on what condition.
-/
import Derived.Test.YthjmakjhidjbaaaGreatLibAU
import Derived.Test.YthjmakjhidjbaaaGreatLibAT

/-
 Layer 7, the program's reader: a token. Condition: the reader lies in memory.
-/
namespace Go.Proofs.YthjmakjhidjbaaaGreat
open Go.ChangeShapes Go.WideShapes Go.ChangeAt Go.RowKit Go.Deep
set_option linter.unusedVariables false
set_option maxHeartbeats 1000000

/-- A Token's four cells, in a block of its own. -/
def TB (w : World) (q : Nat) (a b c : Int) (x : ByteArray) : Prop := w.heap[q]? = some (.cells #[.int .i64 a, .int .i64 b, .int .i64 c, .string x] 40 (0, 0))
section
variable {w w' : World} {q : Nat} {a b c : Int} {x : ByteArray}
theorem TB.cells (h : TB w q a b c x) : w.cell? ⟨q, 0, none⟩ = some (.int .i64 a) ∧ w.cell? ⟨q, 1, none⟩ = some (.int .i64 b) ∧ w.cell? ⟨q, 2, none⟩ = some (.int .i64 c) ∧ w.cell? ⟨q, 3, none⟩ = some (.string x) ∧ ∀ o, w.frozen? ⟨q, o, none⟩ = false := by
 unfold TB at h
 simp [World.cell?, World.frozen?, h]
theorem TB.only {k : Nat} (h : TB w q a b c x) (o : OnlyB k w w') (hk : q ≠ k) : TB w' q a b c x := (o.block q (lt_of_some h) hk).trans h
end
theorem TB.other {w : World} {q : Nat} {a b c : Int} {x : ByteArray} (h : TB w q a b c x) {p : Addr} (hp : p.block ≠ q) (v : Value) : TB (w.setCell p v) q a b c x := (blk_setCell_other _ _ _ _ (Ne.symm hp)).trans h
theorem RD.other {w : World} {b : Nat} {s : ByteArray} {i f : Nat} (h : RD w b s i f) {p : Addr} (hp : p.block ≠ b) (v : Value) : RD (w.setCell p v) b s i f := (blk_setCell_other _ _ _ _ (Ne.symm hp)).trans h
/-- Four cells are written. -/
def four (w : World) (p : Nat) (k i n : Int) (y : ByteArray) : World := (((w.setCell ⟨p, 0, none⟩ (.int .i64 k)).setCell ⟨p, 1, none⟩ (.int .i64 i)).setCell ⟨p, 2, none⟩ (.int .i64 n)).setCell ⟨p, 3, none⟩ (.string y)
theorem four_at {w : World} {p : Nat} {a b c : Int} {x : ByteArray} (h : TB w p a b c x) (k i n : Int) (y : ByteArray) : (four w p k i n y).heap[p]? = some (.cells #[.int .i64 k, .int .i64 i, .int .i64 n, .string y] 40 (0, 0)) := by
 unfold TB at h
 unfold four
 simp [World.setCell, Array.getElem?_modify, h]
theorem tok_done {w w6 : World} {b j f : Nat} {s : ByteArray} {z0 z1 z2 : Int} {x : ByteArray} (R : RD w6 b s j f) (O : OnlyB b w w6) (P : TB w6 w.heap.size z0 z1 z2 x) (hb : w.heap.size ≠ b) (k i n : Int) (y : ByteArray) :
  RD (four w6 w.heap.size k i n y) b s j f ∧ OnlyB b w (four w6 w.heap.size k i n y) ∧ (four w6 w.heap.size k i n y).heap[w.heap.size]? = some (.cells #[.int .i64 k, .int .i64 i, .int .i64 n, .string y] 40 (0, 0)) :=
 ⟨(((R.other hb _).other hb _).other hb _).other hb _, (((O.setCell (a := ⟨w.heap.size, 0, none⟩) (Or.inl (Nat.le_refl _)) _).setCell (a := ⟨w.heap.size, 1, none⟩) (Or.inl (Nat.le_refl _)) _).setCell (a := ⟨w.heap.size, 2, none⟩) (Or.inl (Nat.le_refl _)) _).setCell (a := ⟨w.heap.size, 3, none⟩) (Or.inl (Nat.le_refl _)) _, four_at P k i n y⟩
theorem tok_two {w w6 : World} {b j f : Nat} {s : ByteArray} (R : RD w6 b s j f) (O : OnlyB b w w6) (P : TB w6 w.heap.size 0 0 0 ⟨#[]⟩) (hq : w.heap.size + 1 ≠ b) (o1 o2 : Nat) (v1 v2 : Value) :
  RD ((w6.setCell ⟨w.heap.size + 1, o1, none⟩ v1).setCell ⟨w.heap.size + 1, o2, none⟩ v2) b s j f ∧ OnlyB b w ((w6.setCell ⟨w.heap.size + 1, o1, none⟩ v1).setCell ⟨w.heap.size + 1, o2, none⟩ v2) ∧ TB ((w6.setCell ⟨w.heap.size + 1, o1, none⟩ v1).setCell ⟨w.heap.size + 1, o2, none⟩ v2) w.heap.size 0 0 0 ⟨#[]⟩ :=
 ⟨(R.other hq _).other hq _, (O.setCell (a := ⟨w.heap.size + 1, o1, none⟩) (Or.inl (Nat.le_succ _)) _).setCell (a := ⟨w.heap.size + 1, o2, none⟩) (Or.inl (Nat.le_succ _)) _, (P.other (p := ⟨w.heap.size + 1, o1, none⟩) (Nat.succ_ne_self _) _).other (p := ⟨w.heap.size + 1, o2, none⟩) (Nat.succ_ne_self _) _⟩
/-- What is so behind a token. -/
def TokAs (T : Except Int (Tk × List UInt8)) (b : Nat) (s : ByteArray) (i : Nat) (w : World) (e : Ending) (w' : World) : Prop :=
 match T with
 | .ok (t, r) => e = .returned (.agg #[.int .i64 t.kind, .int .i64 i, .int .i64 t.N, .string ⟨t.S.toArray⟩]) ∧ RD w' b s (s.size - r.length) i ∧ OnlyB b w w'
 | .error e' => e = .panicked [faultP e' i] ∧ OnlyB b w w'
set_option maxRecDepth 20000 in
theorem token_as {w : World} {b : Nat} {s : ByteArray} {i f : Nat} (h : RD w b s i f) (hi : i < s.size) (hs : s.size ≤ 900000) : Calls Tryz.prog 36 #[.pointer (some ⟨b, 0, none⟩)] w fun e w' => TokAs (tokAt docW (suf s i)) b s i w e w' := by
 have e0 := suf_cons s hi
 obtain ⟨T, hT⟩ : ∃ T, tokAt docW (suf s i) = T := ⟨_, rfl⟩
 rw [hT]
 have HT := hidden hT
 have H := hidden h
 have hs1 : s.size ≤ 1000000 := by omega
 have hbw := h.lt
 obtain ⟨c0, c1, c2, hf⟩ := h.cells
 obtain ⟨c, hc⟩ : ∃ c, s[i] = c := ⟨_, rfl⟩
 rw [hc] at e0
 have E0 := hidden e0
 have HC := hidden hc
 clear hT h e0 hc
 go_enter Tryz.func36, Tryz.ntmps36
 go_upto_region 3 with fail
 have R1 := hidden (((H.out.to2 (z := (i : Int)) (j := i) rfl).alloc (.cells #[.int .i64 0, .int .i64 0, .int .i64 0, .string ⟨#[]⟩] 40)).alloc (.cells #[.int .i64 0, .int .i64 i, .int .i64 0, .string ⟨#[]⟩] 40))
 have O1 := hidden ((((Only.refl (fun k => k = b) w).setCell (a := ⟨b, 2, none⟩) (Or.inr rfl) (.int .i64 i)).alloc (.cells #[.int .i64 0, .int .i64 0, .int .i64 0, .string ⟨#[]⟩] 40)).alloc (.cells #[.int .i64 0, .int .i64 i, .int .i64 0, .string ⟨#[]⟩] 40))
 have P1 : Hid (TB (((w.setCell ⟨b, 2, none⟩ (.int .i64 i)).alloc (.cells #[.int .i64 0, .int .i64 0, .int .i64 0, .string ⟨#[]⟩] 40)).alloc (.cells #[.int .i64 0, .int .i64 i, .int .i64 0, .string ⟨#[]⟩] 40)) w.heap.size 0 0 0 ⟨#[]⟩) := by
  show _ = _
  rw [blk_alloc_lt _ _ _ (by rw [nblk_alloc, nblk_setCell]; omega), ← nblk_setCell w ⟨b, 2, none⟩ (.int .i64 i)]
  exact blk_alloc_new _ _
 have Q1 : Hid (TB (((w.setCell ⟨b, 2, none⟩ (.int .i64 i)).alloc (.cells #[.int .i64 0, .int .i64 0, .int .i64 0, .string ⟨#[]⟩] 40)).alloc (.cells #[.int .i64 0, .int .i64 i, .int .i64 0, .string ⟨#[]⟩] 40)) (w.heap.size + 1) 0 i 0 ⟨#[]⟩) := by
  show _ = _
  have e : w.heap.size + 1 = ((w.setCell ⟨b, 2, none⟩ (.int .i64 i)).alloc (.cells #[.int .i64 0, .int .i64 0, .int .i64 0, .string ⟨#[]⟩] 40)).heap.size := by rw [nblk_alloc, nblk_setCell]
  rw [e]
  exact blk_alloc_new _ _
 clear c0 c1 c2 hf H
 generalize ((w.setCell ⟨b, 2, none⟩ (.int .i64 i)).alloc (.cells #[.int .i64 0, .int .i64 0, .int .i64 0, .string ⟨#[]⟩] 40)).alloc (.cells #[.int .i64 0, .int .i64 i, .int .i64 0, .string ⟨#[]⟩] 40) = w1 at *
 obtain ⟨c0, c1, c2, hf⟩ := R1.out.cells
 have hc := HC.out
 go_quiet (fail)
 have R2 := hidden (R1.out.drewN nq)
 have O2 := hidden (O1.out.drewN nq)
 have P2 : Hid (TB (w1.drewN nq) w.heap.size 0 0 0 ⟨#[]⟩) := P1.out
 have Q2 : Hid (TB (w1.drewN nq) (w.heap.size + 1) 0 i 0 ⟨#[]⟩) := Q1.out
 clear c0 c1 c2 hf R1 O1 P1 Q1 hc
 generalize w1.drewN nq = w2 at *
 have hq : w.heap.size + 1 ≠ b := by omega
 have hp : w.heap.size ≠ b := by omega
 by_cases hsm : (smallB c || greatB c) = true
 ·have ht : tokAt docW (suf s i) = .ok (⟨kindL ((suf s i).takeWhile nameB), (suf s i).takeWhile nameB, 0⟩, (suf s i).dropWhile nameB) := by
   have : nameB c = true := by unfold nameB; rw [Bool.or_eq_true] at hsm; rcases hsm with e | e <;> simp [e]
   rw [E0.out]
   unfold tokAt kindL
   simp only [if_pos hsm]
   rw [List.takeWhile_cons, this]
   rfl
  have hne : (suf s i).takeWhile nameB ≠ [] := by
   have : nameB c = true := by unfold nameB; rw [Bool.or_eq_true] at hsm; rcases hsm with e | e <;> simp [e]
   rw [E0.out, List.takeWhile_cons, this]
   simp
  have hll : ((suf s i).takeWhile nameB).length ≤ 1000000 := by
   have := (List.takeWhile_prefix nameB (l := suf s i)).length_le
   rw [suf_len] at this
   omega
  rw [HT.out] at ht
  have HT2 := hidden ht
  have HN := hidden (name_any R2.out (by omega) hs1)
  have HK := hidden (fun w => kindOf_any _ w hne hll)
  clear ht hne hll HT E0
  generalize (suf s i).takeWhile nameB = l at *
  generalize (suf s i).dropWhile nameB = r at *
  cases h1 : smallB c with
  | true =>
   have H1 := hidden h1
   clear h1 hsm
   go_wp2_with (first
    | (go_at_call 59; refine (isSmall_any c _ H1.out).mono ?_; rintro e w' ⟨rfl, hw'⟩; rw [hw']; clear hw' w')
    | (go_at_call 61; refine HN.out.mono ?_; rintro e w5 ⟨rfl, hr, ho⟩; have R5 := hidden hr; have P5 := hidden (P2.out.only ho hp); have Q5 := hidden (Q2.out.only ho hq); have O5 := hidden (O2.out.trans ho); obtain ⟨q0, q1, q2, q3, qf⟩ := Q5.out.cells; obtain ⟨p0, p1, p2, p3, pf⟩ := P5.out.cells; clear hr ho)
    | (go_at_call 62; refine (HK.out _).mono ?_; rintro e w' ⟨rfl, hw'⟩; rw [hw']; clear hw' w'))
   obtain ⟨r6, o6, p6⟩ := tok_two R5.out O5.out P5.out hq 3 0 (.string ⟨l.toArray⟩) (.int .i64 (kindL l))
   obtain ⟨r7, o7, p7⟩ := tok_done r6 o6 p6 hp (kindL l) i 0 ⟨l.toArray⟩
   refine bodyPost_ret (results_cell_row rfl _ _ w.heap.size 40 #[.int .i64 (kindL l), .int .i64 i, .int .i64 0, .string ⟨l.toArray⟩] (0, 0) _ rfl p7 Tryz.underlying40 rfl (by kernel_rfl)) rfl ?_
   rw [HT2.out]
   exact ⟨rfl, r7, o7⟩
  | false =>
   have h2 : greatB c = true := by rw [h1, Bool.false_or] at hsm; exact hsm
   have H1 := hidden h1
   have H2 := hidden h2
   clear h1 h2 hsm
   go_wp2_with (first
    | (go_at_call 59; refine (isSmall_any c _ H1.out).mono ?_; rintro e w' ⟨rfl, hw'⟩; rw [hw']; clear hw' w')
    | (go_at_call 60; refine (isGreat_any c _ H2.out).mono ?_; rintro e w' ⟨rfl, hw'⟩; rw [hw']; clear hw' w')
    | (go_at_call 61; refine HN.out.mono ?_; rintro e w5 ⟨rfl, hr, ho⟩; have R5 := hidden hr; have P5 := hidden (P2.out.only ho hp); have Q5 := hidden (Q2.out.only ho hq); have O5 := hidden (O2.out.trans ho); obtain ⟨q0, q1, q2, q3, qf⟩ := Q5.out.cells; obtain ⟨p0, p1, p2, p3, pf⟩ := P5.out.cells; clear hr ho)
    | (go_at_call 62; refine (HK.out _).mono ?_; rintro e w' ⟨rfl, hw'⟩; rw [hw']; clear hw' w'))
   obtain ⟨r6, o6, p6⟩ := tok_two R5.out O5.out P5.out hq 3 0 (.string ⟨l.toArray⟩) (.int .i64 (kindL l))
   obtain ⟨r7, o7, p7⟩ := tok_done r6 o6 p6 hp (kindL l) i 0 ⟨l.toArray⟩
   refine bodyPost_ret (results_cell_row rfl _ _ w.heap.size 40 #[.int .i64 (kindL l), .int .i64 i, .int .i64 0, .string ⟨l.toArray⟩] (0, 0) _ rfl p7 Tryz.underlying40 rfl (by kernel_rfl)) rfl ?_
   rw [HT2.out]
   exact ⟨rfl, r7, o7⟩
 ·have hsg : smallB c = false ∧ greatB c = false := by simpa using hsm
  have H1 := hidden hsg.1
  have H2 := hidden hsg.2
  have hsm2 : ¬ (smallB c || greatB c) = true := hsm
  clear hsg
  cases hd : digitB c with
  | true =>
   have H3 := hidden hd
   have ht : tokAt docW (suf s i) = (if parE ⟨((suf s i).takeWhile nameB).toArray⟩ = 5 then .error 20 else if parE ⟨((suf s i).takeWhile nameB).toArray⟩ ≠ 0 then .error (parE ⟨((suf s i).takeWhile nameB).toArray⟩) else .ok (⟨1, [], numW (parV ⟨((suf s i).takeWhile nameB).toArray⟩)⟩, (suf s i).dropWhile nameB)) := by
    have e := E0.out
    generalize suf s i = L at *
    subst e
    unfold tokAt
    simp only [if_neg hsm2, if_pos hd]
    rfl
   rw [HT.out] at ht
   have HT2 := hidden ht
   have HN := hidden (number_as R2.out (by omega) hs1)
   have hc := parE_cases ⟨((suf s i).takeWhile nameB).toArray⟩
   clear ht HT E0 hd hsm hsm2
   generalize (suf s i).takeWhile nameB = l at *
   generalize (suf s i).dropWhile nameB = r at *
   rcases hc with hc | hc | hc
   ·have HT3 : Hid (T = .ok (⟨1, [], numW (parV ⟨l.toArray⟩)⟩, r)) := by show _ = _; rw [HT2.out, hc]; rfl
    have HC0 := hidden hc
    clear HT2 hc
    go_wp2_with (first
     | (go_at_call 59; refine (isSmall_any c _ H1.out).mono ?_; rintro e w' ⟨rfl, hw'⟩; rw [hw']; clear hw' w')
     | (go_at_call 60; refine (isGreat_any c _ H2.out).mono ?_; rintro e w' ⟨rfl, hw'⟩; rw [hw']; clear hw' w')
     | (go_at_call 63; refine (isDigit_any c _ H3.out).mono ?_; rintro e w' ⟨rfl, hw'⟩; rw [hw']; clear hw' w')
     | (go_at_call 64; refine HN.out.mono ?_; rintro e w5 hn5; obtain ⟨rfl, hr, ho⟩ := hn5.1 HC0.out; clear hn5; have R5 := hidden hr; have P5 := hidden (P2.out.only ho hp); have Q5 := hidden (Q2.out.only ho hq); have O5 := hidden (O2.out.trans ho); obtain ⟨q0, q1, q2, q3, qf⟩ := Q5.out.cells; obtain ⟨p0, p1, p2, p3, pf⟩ := P5.out.cells; clear hr ho))
    obtain ⟨r6, o6, p6⟩ := tok_two R5.out O5.out P5.out hq 0 2 (.int .i64 1) (.int .i64 (numW (parV ⟨l.toArray⟩)))
    obtain ⟨r7, o7, p7⟩ := tok_done r6 o6 p6 hp 1 i (numW (parV ⟨l.toArray⟩)) ⟨#[]⟩
    refine bodyPost_ret (results_cell_row rfl _ _ w.heap.size 40 #[.int .i64 1, .int .i64 i, .int .i64 (numW (parV ⟨l.toArray⟩)), .string ⟨#[]⟩] (0, 0) _ rfl p7 Tryz.underlying40 rfl (by kernel_rfl)) rfl ?_
    rw [HT3.out]
    exact ⟨rfl, r7, o7⟩
   ·have HT3 : Hid (T = .error 2) := by show _ = _; rw [HT2.out, hc]; rfl
    have HC0 := hidden hc
    clear HT2 hc
    go_wp2_with (first
     | (go_at_call 59; refine (isSmall_any c _ H1.out).mono ?_; rintro e w' ⟨rfl, hw'⟩; rw [hw']; clear hw' w')
     | (go_at_call 60; refine (isGreat_any c _ H2.out).mono ?_; rintro e w' ⟨rfl, hw'⟩; rw [hw']; clear hw' w')
     | (go_at_call 63; refine (isDigit_any c _ H3.out).mono ?_; rintro e w' ⟨rfl, hw'⟩; rw [hw']; clear hw' w')
     | (go_at_call 64; refine HN.out.mono ?_; rintro e w5 hn5; obtain ⟨rfl, ho⟩ := hn5.2.1 HC0.out; clear hn5; have O5 := hidden (O2.out.trans ho); clear ho))
    refine And.intro rfl ?_
    rw [HT3.out]
    exact ⟨rfl, O5.out⟩
   ·have HT3 : Hid (T = .error 20) := by show _ = _; rw [HT2.out, hc]; rfl
    have HC0 := hidden hc
    clear HT2 hc
    go_wp2_with (first
     | (go_at_call 59; refine (isSmall_any c _ H1.out).mono ?_; rintro e w' ⟨rfl, hw'⟩; rw [hw']; clear hw' w')
     | (go_at_call 60; refine (isGreat_any c _ H2.out).mono ?_; rintro e w' ⟨rfl, hw'⟩; rw [hw']; clear hw' w')
     | (go_at_call 63; refine (isDigit_any c _ H3.out).mono ?_; rintro e w' ⟨rfl, hw'⟩; rw [hw']; clear hw' w')
     | (go_at_call 64; refine HN.out.mono ?_; rintro e w5 hn5; obtain ⟨rfl, ho⟩ := hn5.2.2 HC0.out; clear hn5; have O5 := hidden (O2.out.trans ho); clear ho))
    refine And.intro rfl ?_
    rw [HT3.out]
    exact ⟨rfl, O5.out⟩
  | false =>
   have H3 := hidden hd
   have hd2 : ¬ digitB c = true := by rw [hd]; decide
   by_cases hq4 : c = 34
   ·have ht : tokAt docW (suf s i) = (match txtB (suf s (i + 1)) with | some (x, r) => .ok (⟨2, x, 0⟩, r) | none => .error 20) := by
     rw [E0.out]
     unfold tokAt
     simp only [if_neg hsm2, if_neg hd2, if_pos hq4]
     rfl
    rw [HT.out] at ht
    have HN := hidden (textP_as R2.out hi hs)
    cases hx : txtB (suf s (i + 1)) with
    | some xr =>
     obtain ⟨x, r⟩ := xr
     rw [hx] at ht HN
     have HT3 : Hid (T = .ok (⟨2, x, 0⟩, r)) := ht
     have HC2 := hidden (hq4 ▸ HC.out)
     subst hq4
     clear ht HT E0 hd hsm hsm2 hx hd2
     go_wp2_with (first
      | (go_at_call 59; refine (isSmall_any 34 _ H1.out).mono ?_; rintro e w' ⟨rfl, hw'⟩; rw [hw']; clear hw' w')
      | (go_at_call 60; refine (isGreat_any 34 _ H2.out).mono ?_; rintro e w' ⟨rfl, hw'⟩; rw [hw']; clear hw' w')
      | (go_at_call 63; refine (isDigit_any 34 _ H3.out).mono ?_; rintro e w' ⟨rfl, hw'⟩; rw [hw']; clear hw' w')
      | (go_at_call 65; refine HN.out.mono ?_; rintro e w5 ⟨rfl, hr, ho⟩; have R5 := hidden hr; have P5 := hidden (P2.out.only ho hp); have Q5 := hidden (Q2.out.only ho hq); have O5 := hidden (O2.out.trans ho); obtain ⟨q0, q1, q2, q3, qf⟩ := Q5.out.cells; obtain ⟨p0, p1, p2, p3, pf⟩ := P5.out.cells; clear hr ho))
     obtain ⟨r6, o6, p6⟩ := tok_two R5.out O5.out P5.out hq 0 3 (.int .i64 2) (.string ⟨x.toArray⟩)
     obtain ⟨r7, o7, p7⟩ := tok_done r6 o6 p6 hp 2 i 0 ⟨x.toArray⟩
     refine bodyPost_ret (results_cell_row rfl _ _ w.heap.size 40 #[.int .i64 2, .int .i64 i, .int .i64 0, .string ⟨x.toArray⟩] (0, 0) _ rfl p7 Tryz.underlying40 rfl (by kernel_rfl)) rfl ?_
     rw [HT3.out]
     exact ⟨rfl, r7, o7⟩
    | none =>
     rw [hx] at ht HN
     have HT3 : Hid (T = .error 20) := ht
     subst hq4
     clear ht HT E0 hd hsm hsm2 hx hd2
     go_wp2_with (first
      | (go_at_call 59; refine (isSmall_any 34 _ H1.out).mono ?_; rintro e w' ⟨rfl, hw'⟩; rw [hw']; clear hw' w')
      | (go_at_call 60; refine (isGreat_any 34 _ H2.out).mono ?_; rintro e w' ⟨rfl, hw'⟩; rw [hw']; clear hw' w')
      | (go_at_call 63; refine (isDigit_any 34 _ H3.out).mono ?_; rintro e w' ⟨rfl, hw'⟩; rw [hw']; clear hw' w')
      | (go_at_call 65; refine HN.out.mono ?_; rintro e w5 ⟨rfl, ho⟩; have O5 := hidden (O2.out.trans ho); clear ho))
     refine And.intro rfl ?_
     rw [HT3.out]
     exact ⟨rfl, O5.out⟩
   ·have g1 : ((c.toNat : Int) == 34) = false := u8_ne (n := 34) (by decide) hq4
    have ht : tokAt docW (suf s i) = (match signsL.find? (fun x => x.isPrefixOf (suf s i)) with | some x => .ok (⟨5, x, 0⟩, (suf s i).drop x.length) | none => .error 20) := by
     have e := E0.out
     generalize suf s i = L at *
     subst e
     unfold tokAt
     simp only [if_neg hsm2, if_neg hd2, if_neg hq4]
     rfl
    rw [HT.out] at ht
    have HN := hidden (sign_as R2.out (by omega) hs1)
    cases hx : signsL.find? (fun x => x.isPrefixOf (suf s i)) with
    | some x =>
     rw [hx] at ht HN
     have hpre : x.length ≤ (suf s i).length := by
      have := List.find?_some hx
      exact (List.isPrefixOf_iff_prefix.1 this).length_le
     rw [suf_len] at hpre
     have HT3 : Hid (T = .ok (⟨5, x, 0⟩, (suf s i).drop x.length)) := ht
     have HJ : Hid (s.size - ((suf s i).drop x.length).length = i + x.length) := by show _ = _; rw [List.length_drop, suf_len]; omega
     clear ht HT E0 hd hsm hsm2 hx hd2 hpre hq4
     go_wp2_with (first
      | (go_at_call 59; refine (isSmall_any c _ H1.out).mono ?_; rintro e w' ⟨rfl, hw'⟩; rw [hw']; clear hw' w')
      | (go_at_call 60; refine (isGreat_any c _ H2.out).mono ?_; rintro e w' ⟨rfl, hw'⟩; rw [hw']; clear hw' w')
      | (go_at_call 63; refine (isDigit_any c _ H3.out).mono ?_; rintro e w' ⟨rfl, hw'⟩; rw [hw']; clear hw' w')
      | (go_at_call 66; refine HN.out.mono ?_; rintro e w5 ⟨rfl, hr, ho⟩; have R5 := hidden hr; have P5 := hidden (P2.out.only ho hp); have Q5 := hidden (Q2.out.only ho hq); have O5 := hidden (O2.out.trans ho); obtain ⟨q0, q1, q2, q3, qf⟩ := Q5.out.cells; obtain ⟨p0, p1, p2, p3, pf⟩ := P5.out.cells; clear hr ho))
     obtain ⟨r6, o6, p6⟩ := tok_two R5.out O5.out P5.out hq 0 3 (.int .i64 5) (.string ⟨x.toArray⟩)
     obtain ⟨r7, o7, p7⟩ := tok_done r6 o6 p6 hp 5 i 0 ⟨x.toArray⟩
     refine bodyPost_ret (results_cell_row rfl _ _ w.heap.size 40 #[.int .i64 5, .int .i64 i, .int .i64 0, .string ⟨x.toArray⟩] (0, 0) _ rfl p7 Tryz.underlying40 rfl (by kernel_rfl)) rfl ?_
     rw [HT3.out]
     exact ⟨rfl, by rw [HJ.out]; exact r7, o7⟩
    | none =>
     rw [hx] at ht HN
     have HT3 : Hid (T = .error 20) := ht
     clear ht HT E0 hd hsm hsm2 hx hd2 hq4
     go_wp2_with (first
      | (go_at_call 59; refine (isSmall_any c _ H1.out).mono ?_; rintro e w' ⟨rfl, hw'⟩; rw [hw']; clear hw' w')
      | (go_at_call 60; refine (isGreat_any c _ H2.out).mono ?_; rintro e w' ⟨rfl, hw'⟩; rw [hw']; clear hw' w')
      | (go_at_call 63; refine (isDigit_any c _ H3.out).mono ?_; rintro e w' ⟨rfl, hw'⟩; rw [hw']; clear hw' w')
      | (go_at_call 66; refine HN.out.mono ?_; rintro e w5 ⟨rfl, ho⟩; have O5 := hidden (O2.out.trans ho); clear ho))
     refine And.intro rfl ?_
     rw [HT3.out]
     exact ⟨rfl, O5.out⟩
end Go.Proofs.YthjmakjhidjbaaaGreat

/-
 Layer 7, the program's reader: comments, what is passed over. Condition: the reader lies in memory.
-/
namespace Go.Proofs.YthjmakjhidjbaaaGreat
open Go.ChangeShapes Go.WideShapes Go.ChangeAt Go.RowKit Go.Deep
set_option linter.unusedVariables false
set_option maxHeartbeats 1000000

theorem at_two {s : ByteArray} {i : Nat} {a c : UInt8} (hi : i ≤ s.size) (h : atB s i ⟨#[a, c]⟩ = true) : i + 2 ≤ s.size ∧ suf s i = a :: c :: suf s (i + 2) := by
 have hl : i + 2 ≤ s.size := at_fits hi h
 refine ⟨hl, ?_⟩
 obtain ⟨t, ht⟩ := List.isPrefixOf_iff_prefix.1 h
 rw [suf_two s (by omega)] at ht ⊢
 have ht' : a :: c :: t = s[i] :: s[i + 1] :: suf s (i + 2) := ht
 simp only [List.cons.injEq] at ht'
 rw [ht'.1, ht'.2.1]
/-- How a comment goes on: o are open. -/
def CNow (R : Option (List UInt8)) (l : List UInt8) (o : Nat) : Prop := (o = 0 → R = some l) ∧ (∀ d, o = d + 1 → skipC d l = R)
theorem cnow_succ {R : Option (List UInt8)} {l : List UInt8} {d : Nat} (h : skipC d l = R) : CNow R l (d + 1) := ⟨fun c => absurd c (by omega), fun d' hd => by rw [show d' = d by omega]; exact h⟩
theorem skip_beg (d : Nat) (l : List UInt8) : skipC d (40 :: 42 :: l) = skipC (d + 1) l := by
 rw [skipC.eq_def]; simp
theorem skip_end0 (l : List UInt8) : skipC 0 (42 :: 41 :: l) = some l := by
 rw [skipC.eq_def]; simp
theorem skip_end1 (d : Nat) (l : List UInt8) : skipC (d + 1) (42 :: 41 :: l) = skipC d l := by
 rw [skipC.eq_def]; simp
theorem skip_else (d : Nat) {a c : UInt8} (l : List UInt8) (g1 : ¬ (a = 42 ∧ c = 41)) (g2 : ¬ (a = 40 ∧ c = 42)) : skipC d (a :: c :: l) = skipC d (c :: l) := by
 rw [skipC.eq_def]; simp only [if_neg g1, if_neg g2]
theorem skipD_open {s : ByteArray} {i d : Nat} (hi : i ≤ s.size) (h : atB s i begC = true) : i + 2 ≤ s.size ∧ skipC d (suf s i) = skipC (d + 1) (suf s (i + 2)) := by
 obtain ⟨h1, h2⟩ := at_two hi h
 refine ⟨h1, ?_⟩
 rw [h2, skip_beg]
theorem skipD_close {s : ByteArray} {i d : Nat} {R : Option (List UInt8)} (hi : i ≤ s.size) (h : atB s i endC = true) (e : skipC d (suf s i) = R) : i + 2 ≤ s.size ∧ CNow R (suf s (i + 2)) d := by
 obtain ⟨h1, h2⟩ := at_two hi h
 refine ⟨h1, fun h0 => ?_, fun d' hd => ?_⟩
 ·subst h0; rw [h2, skip_end0] at e; exact e.symm
 ·subst hd; rw [h2, skip_end1] at e; exact e
theorem skipD_one {s : ByteArray} {i d : Nat} (hi : i < s.size) (h1 : atB s i endC = false) (h2 : atB s i begC = false) : skipC d (suf s i) = skipC d (suf s (i + 1)) := by
 by_cases hl : i + 1 < s.size
 ·have e := suf_two s hl
  have e1 := suf_cons s hl
  unfold atB endC at h1
  unfold atB begC at h2
  rw [e] at h1 h2 ⊢
  have g1 : ¬ (s[i] = 42 ∧ s[i + 1] = 41) := fun c => by rw [c.1, c.2] at h1; simp [List.isPrefixOf] at h1
  have g2 : ¬ (s[i] = 40 ∧ s[i + 1] = 42) := fun c => by rw [c.1, c.2] at h2; simp [List.isPrefixOf] at h2
  rw [skip_else d _ g1 g2, e1]
 ·have e0 : suf s (i + 1) = [] := suf_end hl
  rw [suf_cons s hi, e0]
  unfold skipC
  rfl
/-- What is so behind a comment. -/
def CommentAs (R : Option (List UInt8)) (b : Nat) (s : ByteArray) (i : Nat) (w : World) (e : Ending) (w' : World) : Prop :=
 match R with
 | some r => e = .returned (.tuple #[]) ∧ RD w' b s (s.size - r.length) i ∧ OnlyB b w w'
 | none => e = .panicked [faultP 20 i] ∧ OnlyB b w w'
/-- How a comment stands while it is read. -/
def InC (R : Option (List UInt8)) (b : Nat) (s : ByteArray) (i : Nat) (w : World) (gk : Nat) (ov : Value) (wr : World) : Prop :=
 ∃ j o : Nat, j ≤ s.size ∧ o ≤ j ∧ gk = s.size + 1 - j ∧ ov = .int .i64 (o : Int) ∧ CNow R (suf s j) o ∧ RD wr b s j i ∧ OnlyB b w wr
theorem comment_as {w : World} {b : Nat} {s : ByteArray} {i f : Nat} (h : RD w b s i f) (hi : i ≤ s.size) (hs : s.size ≤ 1000000) (ho : atB s i begC = true) : Calls Tryz.prog 58 #[.pointer (some ⟨b, 0, none⟩)] w fun e w' => CommentAs (skipC 0 (suf s (i + 2))) b s i w e w' := by
 obtain ⟨R, hR⟩ : ∃ R, skipC 0 (suf s (i + 2)) = R := ⟨_, rfl⟩
 rw [hR]
 have HR := hidden hR
 have H := hidden h
 have HB : Hid (atB s i ⟨#[40, 42]⟩ = true) := ho
 have h2 := at_fits hi ho
 have h3 : i + 2 ≤ s.size := h2
 obtain ⟨c0, c1, c2, hf⟩ := h.cells
 clear hR h ho h2
 go_enter Tryz.func58, Tryz.ntmps58
 go_wp2_with (go_at_call 84; refine (take_yes _ (H.out.to2 (z := (i : Int)) (j := i) rfl) hi hs HB.out).mono ?_; rintro e w5 ⟨rfl, hr, ho⟩; have R5 := hidden hr; have O5 : Hid (OnlyB b w w5) := ((Only.refl (fun k => k = b) w).setCell (a := ⟨b, 2, none⟩) (Or.inr rfl) _).trans ho; clear hr ho)
 clear c0 c1 c2 hf
 go_loopg [2] (s.size + 1 - (i + 2)) (fun gk ov wr => InC R b s i w gk ov wr)
 case atStart => exact ⟨i + 2, 1, h3, by omega, rfl, rfl, cnow_succ HR.out, R5.out, O5.out⟩
 case round =>
  clear HR R5 O5 H
  obtain ⟨j, o, j1, j2, j3, rfl, j4, j5, j6⟩ := hrel
  have HJ := hidden j4
  have HRD := hidden j5
  have HO := hidden j6
  have HG := hidden j3
  clear j3 j4 j5 j6
  by_cases hz : o = 0
  ·subst hz
   have HE : Hid (R = some (suf s j)) := HJ.out.1 rfl
   go_wp2_with fail
   go_end0
   rw [HE.out]
   exact ⟨rfl, by rw [suf_len, show s.size - (s.size - j) = j by omega]; exact HRD.out, HO.out⟩
  ·obtain ⟨d, rfl⟩ : ∃ d, o = d + 1 := ⟨o - 1, by omega⟩
   have HJ2 : Hid (skipC d (suf s j) = R) := HJ.out.2 d rfl
   have zp : (0 : Int) < (d : Int) + 1 := by omega
   clear HJ
   cases hb : atB s j begC with
   | true =>
    obtain ⟨q1, q2⟩ := skipD_open (d := d) j1 hb
    have HB2 : Hid (atB s j ⟨#[40, 42]⟩ = true) := hb
    have HN : Hid (skipC (d + 1) (suf s (j + 2)) = R) := by show _ = _; rw [← q2]; exact HJ2.out
    clear hb q2
    go_wp2_with (go_at_call 84; refine (take_yes _ HRD.out j1 hs HB2.out).mono ?_; rintro e w6 ⟨rfl, hr, ho⟩; have R6 := hidden hr; have O6 := hidden (HO.out.trans ho); clear hr ho)
    go_roundg (s.size + 1 - (j + 2))
    case rel => exact ⟨j + 2, d + 2, q1, by omega, rfl, by go_num, cnow_succ HN.out, R6.out, O6.out⟩
    case measure => rw [HG.out]; omega
   | false =>
    have HB2 : Hid (atB s j ⟨#[40, 42]⟩ = false) := hb
    cases he : atB s j endC with
    | true =>
     obtain ⟨q1, q2⟩ := skipD_close (d := d) j1 he HJ2.out
     have HE2 : Hid (atB s j ⟨#[42, 41]⟩ = true) := he
     have HN := hidden q2
     clear hb he q2
     go_wp2_with (go_at_call 84; first
      | (refine (take_yes _ R6.out j1 hs HE2.out).mono ?_; rintro e w7 ⟨rfl, hr, ho⟩; have R7 := hidden hr; have O7 := hidden (O6.out.trans ho); clear hr ho)
      | (refine (take_no _ HRD.out j1 hs HB2.out).mono ?_; rintro e w6 ⟨rfl, hr, ho⟩; have R6 := hidden hr; have O6 := hidden (HO.out.trans ho); clear hr ho))
     go_roundg (s.size + 1 - (j + 2))
     case rel => exact ⟨j + 2, d, q1, by omega, rfl, by go_num, HN.out, R7.out, O7.out⟩
     case measure => rw [HG.out]; omega
    | false =>
     have HE2 : Hid (atB s j ⟨#[42, 41]⟩ = false) := he
     by_cases hlt : j < s.size
     ·have HN : Hid (skipC d (suf s (j + 1)) = R) := by show _ = _; rw [← skipD_one hlt he hb]; exact HJ2.out
      clear hb he
      go_wp2_with (first
       | (go_at_call 84; first
        | (refine (take_no _ R6.out j1 hs HE2.out).mono ?_; rintro e w7 ⟨rfl, hr, ho⟩; have R7 := hidden hr; have O7 := hidden (O6.out.trans ho); clear hr ho)
        | (refine (take_no _ HRD.out j1 hs HB2.out).mono ?_; rintro e w6 ⟨rfl, hr, ho⟩; have R6 := hidden hr; have O6 := hidden (HO.out.trans ho); clear hr ho))
       | (go_at_call 85; refine (next_yes R7.out hlt hs).mono ?_; rintro e w8 ⟨rfl, hr, ho⟩; have R8 := hidden hr; have O8 := hidden (O7.out.trans ho); clear hr ho))
      go_roundg (s.size + 1 - (j + 1))
      case rel => exact ⟨j + 1, d + 1, by omega, by omega, rfl, by go_num, cnow_succ HN.out, R8.out, O8.out⟩
      case measure => rw [HG.out]; omega
     ·have HN : Hid (R = none) := by
       show _ = _
       rw [← HJ2.out, suf_end hlt]
       unfold skipC
       rfl
      have hjs : j = s.size := by omega
      have HJS := hidden hjs
      clear hb he hjs
      go_wp2_with (first
       | (go_at_call 84; first
        | (refine (take_no _ R6.out j1 hs HE2.out).mono ?_; rintro e w7 ⟨rfl, hr, ho⟩; have R7 := hidden hr; have O7 := hidden (O6.out.trans ho); clear hr ho)
        | (refine (take_no _ HRD.out j1 hs HB2.out).mono ?_; rintro e w6 ⟨rfl, hr, ho⟩; have R6 := hidden hr; have O6 := hidden (HO.out.trans ho); clear hr ho))
       | (go_at_call 85; refine (next_no R7.out HJS.out hs).mono ?_; rintro e w8 ⟨rfl, ho⟩; have O8 := hidden (O7.out.trans ho); clear ho))
      refine And.intro rfl ?_
      rw [HN.out]
      exact ⟨rfl, O8.out⟩
theorem comment_yes {w : World} {b : Nat} {s : ByteArray} {i f : Nat} {r : List UInt8} (h : RD w b s i f) (hi : i ≤ s.size) (hs : s.size ≤ 1000000) (ho : atB s i begC = true) (e : skipC 0 (suf s (i + 2)) = some r) : Calls Tryz.prog 58 #[.pointer (some ⟨b, 0, none⟩)] w fun e w' => e = .returned (.tuple #[]) ∧ RD w' b s (s.size - r.length) i ∧ OnlyB b w w' := by
 have := comment_as h hi hs ho
 rw [e] at this
 exact this
theorem comment_no {w : World} {b : Nat} {s : ByteArray} {i f : Nat} (h : RD w b s i f) (hi : i ≤ s.size) (hs : s.size ≤ 1000000) (ho : atB s i begC = true) (e : skipC 0 (suf s (i + 2)) = none) : Calls Tryz.prog 58 #[.pointer (some ⟨b, 0, none⟩)] w fun e w' => e = .panicked [faultP 20 i] ∧ OnlyB b w w' := by
 have := comment_as h hi hs ho
 rw [e] at this
 exact this
/-- A source's tokens, or what is wrong first. -/
def lexC (W : LexW) (l : List UInt8) : Except (Int × Nat) (List (Tk × Nat)) := lexF W (l.length + 1) l
theorem lexF_more {W : LexW} (hW : SignsOk W) : ∀ (n m : Nat) (l : List UInt8), l.length < n → l.length < m → lexF W n l = lexF W m l
 | 0, m, l, h, _ => by omega
 | n + 1, 0, l, _, h => by omega
 | n + 1, m + 1, [], _, _ => rfl
 | n + 1, m + 1, c :: x, h1, h2 => by
  simp only [List.length_cons] at h1 h2
  unfold lexF
  by_cases c1 : blankB c = true
  ·rw [if_pos c1, if_pos c1]; exact lexF_more hW n m x (by omega) (by omega)
  ·rw [if_neg c1, if_neg c1]
   by_cases c2 : opensC (c :: x) = true
   ·rw [if_pos c2, if_pos c2]
    cases hr : skipC 0 (x.drop 1) with
    | none => rfl
    | some r =>
     have := skipC_len _ _ hr
     rw [List.length_drop] at this
     exact lexF_more hW n m r (by omega) (by omega)
   ·rw [if_neg c2, if_neg c2]
    cases ht : tokAt W (c :: x) with
    | error e => rfl
    | ok p =>
     obtain ⟨t, r⟩ := p
     have := tok_len hW ht
     simp only [List.length_cons] at this
     simp only
     rw [lexF_more hW n m r (by omega) (by omega)]
section
variable {W : LexW} (hW : SignsOk W)
theorem lexC_nil : lexC W [] = .ok [] := rfl
include hW
theorem lexC_blank {c : UInt8} {x : List UInt8} (h : blankB c = true) : lexC W (c :: x) = lexC W x := by
 show lexF W (x.length + 1 + 1) (c :: x) = _
 rw [lexF, if_pos h]
 exact lexF_more hW _ _ _ (by omega) (by omega)
theorem lexC_comment {x : List UInt8} : lexC W (40 :: 42 :: x) = (match skipC 0 x with | none => .error (20, x.length + 2) | some r => lexC W r) := by
 show lexF W (x.length + 1 + 1 + 1) (40 :: 42 :: x) = _
 rw [lexF, if_neg (by decide), if_pos (show opensC (40 :: 42 :: x) = true from rfl)]
 show (match skipC 0 x with | none => _ | some r => _) = _
 cases hr : skipC 0 x with
 | none => rfl
 | some r =>
  have := skipC_len _ _ hr
  exact lexF_more hW _ _ _ (by omega) (by omega)
theorem lexC_tok {c : UInt8} {x : List UInt8} (h1 : blankB c = false) (h2 : opensC (c :: x) = false) : lexC W (c :: x) = (match tokAt W (c :: x) with | .error e => .error (e, (c :: x).length) | .ok (t, r) => (match lexC W r with | .error e => .error e | .ok ts => .ok ((t, (c :: x).length) :: ts))) := by
 show lexF W (x.length + 1 + 1) (c :: x) = _
 rw [lexF, if_neg (by rw [h1]; decide), if_neg (by rw [h2]; decide)]
 cases ht : tokAt W (c :: x) with
 | error e => rfl
 | ok p =>
  obtain ⟨t, r⟩ := p
  have := tok_len hW ht
  simp only [List.length_cons] at this
  simp only
  rw [lexF_more hW (x.length + 1) (r.length + 1) r (by omega) (by omega)]
  rfl
theorem lexC_lexes {l : List UInt8} {ts : List (Tk × Nat)} : lexC W l = .ok ts ↔ Lexes W l ts := ⟨fun h => lexF_lexes _ _ h, fun h => lexes_lexF hW h _ (by omega)⟩
end
end Go.Proofs.YthjmakjhidjbaaaGreat

/-
 Layer 7, the program's reader: blanks and comments are passed over. Condition: the reader lies in memory.
-/
namespace Go.Proofs.YthjmakjhidjbaaaGreat
open Go.ChangeShapes Go.WideShapes Go.ChangeAt Go.RowKit Go.Deep
set_option linter.unusedVariables false
set_option maxHeartbeats 1000000

/-- What is so behind blanks and comments. -/
def PassAs (b : Nat) (s : ByteArray) (i : Nat) (w : World) (e : Ending) (w' : World) : Prop :=
 (∃ j f', e = .returned (.tuple #[]) ∧ i ≤ j ∧ j ≤ s.size ∧ lexC docW (suf s i) = lexC docW (suf s j) ∧ (∀ hj : j < s.size, blankB s[j] = false ∧ atB s j begC = false) ∧ RD w' b s j f' ∧ OnlyB b w w') ∨
 (∃ k, k ≤ s.size ∧ e = .panicked [faultP 20 (k : Nat)] ∧ lexC docW (suf s i) = .error (20, s.size - k) ∧ OnlyB b w w')
theorem at_opens {s : ByteArray} {k : Nat} (hk : k ≤ s.size) (h : atB s k begC = false) : opensC (suf s k) = false := by
 cases c : opensC (suf s k) with
 | false => rfl
 | true =>
  obtain ⟨x, hx⟩ := opens_is c
  unfold atB at h
  rw [hx] at h
  cases h
set_option maxRecDepth 20000 in
theorem pass_any {w : World} {b : Nat} {s : ByteArray} {i f : Nat} (h : RD w b s i f) (hi : i ≤ s.size) (hs : s.size ≤ 1000000) : Calls Tryz.prog 35 #[.pointer (some ⟨b, 0, none⟩)] w fun e w' => PassAs b s i w e w' := by
 have H := hidden h
 clear h
 go_enter Tryz.func35, Tryz.ntmps35
 go_wp2_with fail
 go_loopg [] (s.size + 1 - i) (fun gk wr => ∃ k f' : Nat, i ≤ k ∧ k ≤ s.size ∧ gk = s.size + 1 - k ∧ lexC docW (suf s i) = lexC docW (suf s k) ∧ RD wr b s k f' ∧ OnlyB b w wr)
 case atStart => exact ⟨i, f, Nat.le_refl _, hi, rfl, rfl, H.out, Only.refl _ _⟩
 case round =>
  clear H
  obtain ⟨k, f', k1, k2, k3, k4, k5, k6⟩ := hrel
  obtain ⟨c0, c1, c2, hf⟩ := k5.cells
  have HL := hidden k4
  have HR := hidden k5
  have HO := hidden k6
  have HG := hidden k3
  clear k3 k4 k5 k6
  by_cases hlt : k < s.size
  ·have zz : (k : Int) < (s.size : Int) := by omega
   have e0 := hidden (suf_cons s hlt)
   cases hb : blankB s[k] with
   | true =>
    have HB := hidden hb
    have HL2 : Hid (lexC docW (suf s i) = lexC docW (suf s (k + 1))) := by
     show _ = _
     rw [HL.out, e0.out]
     exact lexC_blank docSigns hb
    clear hb HL
    go_wp2_with fail
    go_quiet (fail)
    have HR1 := hidden (HR.out.drewN nq)
    have HO1 := hidden (HO.out.drewN nq)
    obtain ⟨d0, d1, d2, df⟩ := HR1.out.cells
    clear c0 c1 c2 hf HR HO
    generalize wr.drewN nq = w1 at *
    go_wp2_with fail
    go_quiet ((go_at_call 56; exact Calls.quiet_of_same (isBlank_any _ _ HB.out)))
    go_wp2_with fail
    go_roundg (s.size + 1 - (k + 1))
    case rel => exact ⟨k + 1, f', by omega, by omega, rfl, HL2.out, (HR1.out.drewN _).to1 (by omega), (HO1.out.drewN _).setCell (a := ⟨b, 1, none⟩) (Or.inr rfl) _⟩
    case measure => rw [HG.out]; omega
   | false =>
    have HB := hidden hb
    cases ho : atB s k begC with
    | true =>
     obtain ⟨q1, q2⟩ := at_two k2 ho
     have HA := hidden ho
     have HA2 : Hid (atB s k ⟨#[40, 42]⟩ = true) := ho
     cases hk : skipC 0 (suf s (k + 2)) with
     | some r =>
      obtain ⟨r1, r2, r3⟩ := skip_suf hk q1
      have HK := hidden hk
      have HL2 : Hid (lexC docW (suf s i) = lexC docW (suf s (s.size - r.length))) := by
       show _ = _
       rw [HL.out, q2, lexC_comment docSigns, hk, ← r1]
      clear hb HL ho q2 hk r1
      go_wp2_with fail
      go_quiet (fail)
      have HR1 := hidden (HR.out.drewN nq)
      have HO1 := hidden (HO.out.drewN nq)
      obtain ⟨d0, d1, d2, df⟩ := HR1.out.cells
      clear c0 c1 c2 hf HR HO
      generalize wr.drewN nq = w1 at *
      go_wp2_with fail
      go_quiet ((go_at_call 56; exact Calls.quiet_of_same (isBlank_any _ _ HB.out)))
      go_wp2_with (first
       | (go_at_call 57; refine (ahead_rd _ (HR1.out.drewN _) k2 hs HA2.out).mono ?_; rintro e w6 ⟨rfl, hr, ho⟩; have R6 := hidden hr; have O6 := hidden ((HO1.out.drewN _).trans ho); clear hr ho)
       | (go_at_call 58; refine (comment_yes R6.out k2 hs HA.out HK.out).mono ?_; rintro e w7 ⟨rfl, hr, ho⟩; have R7 := hidden hr; have O7 := hidden (O6.out.trans ho); clear hr ho))
      go_roundg (s.size + 1 - (s.size - r.length))
      case rel => exact ⟨s.size - r.length, k, by omega, by omega, rfl, HL2.out, R7.out, O7.out⟩
      case measure => rw [HG.out]; omega
     | none =>
      have HK := hidden hk
      have HL2 : Hid (lexC docW (suf s i) = .error (20, s.size - k)) := by
       show _ = _
       rw [HL.out, q2, lexC_comment docSigns, hk, suf_len]
       simp only
       rw [show s.size - (k + 2) + 2 = s.size - k by omega]
      clear hb HL ho q2 hk
      go_wp2_with fail
      go_quiet (fail)
      have HR1 := hidden (HR.out.drewN nq)
      have HO1 := hidden (HO.out.drewN nq)
      obtain ⟨d0, d1, d2, df⟩ := HR1.out.cells
      clear c0 c1 c2 hf HR HO
      generalize wr.drewN nq = w1 at *
      go_wp2_with fail
      go_quiet ((go_at_call 56; exact Calls.quiet_of_same (isBlank_any _ _ HB.out)))
      go_wp2_with (first
       | (go_at_call 57; refine (ahead_rd _ (HR1.out.drewN _) k2 hs HA2.out).mono ?_; rintro e w6 ⟨rfl, hr, ho⟩; have R6 := hidden hr; have O6 := hidden ((HO1.out.drewN _).trans ho); clear hr ho)
       | (go_at_call 58; refine (comment_no R6.out k2 hs HA.out HK.out).mono ?_; rintro e w7 ⟨rfl, ho⟩; have O7 := hidden (O6.out.trans ho); clear ho))
      refine And.intro rfl ?_
      exact Or.inr ⟨k, k2, rfl, HL2.out, O7.out⟩
    | false =>
     have HA := hidden ho
     have HA2 : Hid (atB s k ⟨#[40, 42]⟩ = false) := ho
     clear hb ho
     go_wp2_with fail
     go_quiet (fail)
     have HR1 := hidden (HR.out.drewN nq)
     have HO1 := hidden (HO.out.drewN nq)
     obtain ⟨d0, d1, d2, df⟩ := HR1.out.cells
     clear c0 c1 c2 hf HR HO
     generalize wr.drewN nq = w1 at *
     go_wp2_with fail
     go_quiet ((go_at_call 56; exact Calls.quiet_of_same (isBlank_any _ _ HB.out)))
     go_wp2_with (go_at_call 57; refine (ahead_rd _ (HR1.out.drewN _) k2 hs HA2.out).mono ?_; rintro e w6 ⟨rfl, hr, ho⟩; have R6 := hidden hr; have O6 := hidden ((HO1.out.drewN _).trans ho); clear hr ho)
     all_goals first | go_end0 | refine bodyPost_ret (results_none rfl _ _ _) rfl ?_
     exact Or.inl ⟨k, f', rfl, k1, k2, HL.out, fun hj => ⟨HB.out, HA.out⟩, R6.out, O6.out⟩
  ·have zz : ¬ (k : Int) < (s.size : Int) := by omega
   go_wp2_with fail
   go_quiet (fail)
   go_wp2_with fail
   all_goals first | go_end0 | refine bodyPost_ret (results_none rfl _ _ _) rfl ?_
   exact Or.inl ⟨k, f', rfl, k1, k2, HL.out, fun hj => absurd hj hlt, HR.out.drewN _, HO.out.drewN _⟩
end Go.Proofs.YthjmakjhidjbaaaGreat
