/-
  Layer 7, the program's reader: a token. Condition: the reader lies in memory.
-/
import Derived.Test.YtapecobalkjdhaaDoorP7Txt
import Derived.Test.YtapecobalkjdhaaDoorP7Sign
import Derived.Test.YtapecobalkjdhaaDoorP7Num
namespace Go.Proofs.YtapecobalkjdhaaDoor
open Go.ChangeShapes Go.WideShapes Go.ChangeAt Go.RowKit Go.Deep
set_option linter.unusedVariables false
set_option maxHeartbeats 1000000

/-- A Token's four cells, in a block of its own. -/
def TB (w : World) (q : Nat) (a b c : Int) (x : ByteArray) : Prop := w.heap[q]? = some (.cells #[.int .i64 a, .int .i64 b, .int .i64 c, .string x] 31 (0, 0))
section
variable {w w' : World} {q : Nat} {a b c : Int} {x : ByteArray}
theorem TB.cells (h : TB w q a b c x) : w.cell? ⟨q, 0, none⟩ = some (.int .i64 a) ∧ w.cell? ⟨q, 1, none⟩ = some (.int .i64 b) ∧ w.cell? ⟨q, 2, none⟩ = some (.int .i64 c) ∧ w.cell? ⟨q, 3, none⟩ = some (.string x) ∧ ∀ o, w.frozen? ⟨q, o, none⟩ = false := by
  unfold TB at h
  simp [World.cell?, World.frozen?, h]
theorem TB.only {k : Nat} (h : TB w q a b c x) (o : OnlyB k w w') (hk : q ≠ k) : TB w' q a b c x := (o.block q (lt_of_some h) hk).trans h
end
theorem TB.other {w : World} {q : Nat} {a b c : Int} {x : ByteArray} (h : TB w q a b c x) {p : Addr} (hp : p.block ≠ q) (v : Value) : TB (w.setCell p v) q a b c x := (blk_setCell_other _ _ _ _ (Ne.symm hp)).trans h
theorem RD.other {w : World} {b : Nat} {s : ByteArray} {i f : Nat} (h : RD w b s i f) {p : Addr} (hp : p.block ≠ b) (v : Value) : RD (w.setCell p v) b s i f := (blk_setCell_other _ _ _ _ (Ne.symm hp)).trans h
/-- Four cells are written. -/
def four (w : World) (p : Nat) (k i n : Int) (y : ByteArray) : World := (((w.setCell ⟨p, 0, none⟩ (.int .i64 k)).setCell ⟨p, 1, none⟩ (.int .i64 i)).setCell ⟨p, 2, none⟩ (.int .i64 n)).setCell ⟨p, 3, none⟩ (.string y)
theorem four_at {w : World} {p : Nat} {a b c : Int} {x : ByteArray} (h : TB w p a b c x) (k i n : Int) (y : ByteArray) : (four w p k i n y).heap[p]? = some (.cells #[.int .i64 k, .int .i64 i, .int .i64 n, .string y] 31 (0, 0)) := by
  unfold TB at h
  unfold four
  simp [World.setCell, Array.getElem?_modify, h]
theorem tok_done {w w6 : World} {b j f : Nat} {s : ByteArray} {z0 z1 z2 : Int} {x : ByteArray} (R : RD w6 b s j f) (O : OnlyB b w w6) (P : TB w6 w.heap.size z0 z1 z2 x) (hb : w.heap.size ≠ b) (k i n : Int) (y : ByteArray) :
    RD (four w6 w.heap.size k i n y) b s j f ∧ OnlyB b w (four w6 w.heap.size k i n y) ∧ (four w6 w.heap.size k i n y).heap[w.heap.size]? = some (.cells #[.int .i64 k, .int .i64 i, .int .i64 n, .string y] 31 (0, 0)) :=
  ⟨(((R.other hb _).other hb _).other hb _).other hb _, (((O.setCell (a := ⟨w.heap.size, 0, none⟩) (Or.inl (Nat.le_refl _)) _).setCell (a := ⟨w.heap.size, 1, none⟩) (Or.inl (Nat.le_refl _)) _).setCell (a := ⟨w.heap.size, 2, none⟩) (Or.inl (Nat.le_refl _)) _).setCell (a := ⟨w.heap.size, 3, none⟩) (Or.inl (Nat.le_refl _)) _, four_at P k i n y⟩
theorem tok_two {w w6 : World} {b j f : Nat} {s : ByteArray} (R : RD w6 b s j f) (O : OnlyB b w w6) (P : TB w6 w.heap.size 0 0 0 ⟨#[]⟩) (hq : w.heap.size + 1 ≠ b) (o1 o2 : Nat) (v1 v2 : Value) :
    RD ((w6.setCell ⟨w.heap.size + 1, o1, none⟩ v1).setCell ⟨w.heap.size + 1, o2, none⟩ v2) b s j f ∧ OnlyB b w ((w6.setCell ⟨w.heap.size + 1, o1, none⟩ v1).setCell ⟨w.heap.size + 1, o2, none⟩ v2) ∧ TB ((w6.setCell ⟨w.heap.size + 1, o1, none⟩ v1).setCell ⟨w.heap.size + 1, o2, none⟩ v2) w.heap.size 0 0 0 ⟨#[]⟩ :=
  ⟨(R.other hq _).other hq _, (O.setCell (a := ⟨w.heap.size + 1, o1, none⟩) (Or.inl (Nat.le_succ _)) _).setCell (a := ⟨w.heap.size + 1, o2, none⟩) (Or.inl (Nat.le_succ _)) _, (P.other (p := ⟨w.heap.size + 1, o1, none⟩) (Nat.succ_ne_self _) _).other (p := ⟨w.heap.size + 1, o2, none⟩) (Nat.succ_ne_self _) _⟩
/-- What is so behind a token. -/
def TokAs (T : Except Int (Tk × List UInt8)) (b : Nat) (s : ByteArray) (i : Nat) (w : World) (e : Ending) (w' : World) : Prop :=
  match T with
  | .ok (t, r) => e = .returned (.agg #[.int .i64 t.kind, .int .i64 i, .int .i64 t.N, .string ⟨t.S.toArray⟩]) ∧ RD w' b s (s.size - r.length) i ∧ OnlyB b w w'
  | .error e' => e = .panicked [faultP e' i] ∧ OnlyB b w w'
set_option maxRecDepth 20000 in
theorem token_as {w : World} {b : Nat} {s : ByteArray} {i f : Nat} (h : RD w b s i f) (hi : i < s.size) (hs : s.size ≤ 900000) : Calls Tryd.prog 22 #[.pointer (some ⟨b, 0, none⟩)] w fun e w' => TokAs (tokAt docW (suf s i)) b s i w e w' := by
  have e0 := suf_cons s hi
  obtain ⟨T, hT⟩ : ∃ T, tokAt docW (suf s i) = T := ⟨_, rfl⟩
  rw [hT]
  have HT := hidden hT
  have H := hidden h
  have hs1 : s.size ≤ 1000000 := by omega
  have hbw := h.lt
  obtain ⟨c0, c1, c2, hf⟩ := h.cells
  obtain ⟨c, hc⟩ : ∃ c, s[i] = c := ⟨_, rfl⟩
  rw [hc] at e0
  have E0 := hidden e0
  have HC := hidden hc
  clear hT h e0 hc
  go_enter Tryd.func22, Tryd.ntmps22
  go_upto_region 3 with fail
  have R1 := hidden (((H.out.to2 (z := (i : Int)) (j := i) rfl).alloc (.cells #[.int .i64 0, .int .i64 0, .int .i64 0, .string ⟨#[]⟩] 31)).alloc (.cells #[.int .i64 0, .int .i64 i, .int .i64 0, .string ⟨#[]⟩] 31))
  have O1 := hidden ((((Only.refl (fun k => k = b) w).setCell (a := ⟨b, 2, none⟩) (Or.inr rfl) (.int .i64 i)).alloc (.cells #[.int .i64 0, .int .i64 0, .int .i64 0, .string ⟨#[]⟩] 31)).alloc (.cells #[.int .i64 0, .int .i64 i, .int .i64 0, .string ⟨#[]⟩] 31))
  have P1 : Hid (TB (((w.setCell ⟨b, 2, none⟩ (.int .i64 i)).alloc (.cells #[.int .i64 0, .int .i64 0, .int .i64 0, .string ⟨#[]⟩] 31)).alloc (.cells #[.int .i64 0, .int .i64 i, .int .i64 0, .string ⟨#[]⟩] 31)) w.heap.size 0 0 0 ⟨#[]⟩) := by
    show _ = _
    rw [blk_alloc_lt _ _ _ (by rw [nblk_alloc, nblk_setCell]; omega), ← nblk_setCell w ⟨b, 2, none⟩ (.int .i64 i)]
    exact blk_alloc_new _ _
  have Q1 : Hid (TB (((w.setCell ⟨b, 2, none⟩ (.int .i64 i)).alloc (.cells #[.int .i64 0, .int .i64 0, .int .i64 0, .string ⟨#[]⟩] 31)).alloc (.cells #[.int .i64 0, .int .i64 i, .int .i64 0, .string ⟨#[]⟩] 31)) (w.heap.size + 1) 0 i 0 ⟨#[]⟩) := by
    show _ = _
    have e : w.heap.size + 1 = ((w.setCell ⟨b, 2, none⟩ (.int .i64 i)).alloc (.cells #[.int .i64 0, .int .i64 0, .int .i64 0, .string ⟨#[]⟩] 31)).heap.size := by rw [nblk_alloc, nblk_setCell]
    rw [e]
    exact blk_alloc_new _ _
  clear c0 c1 c2 hf H
  generalize ((w.setCell ⟨b, 2, none⟩ (.int .i64 i)).alloc (.cells #[.int .i64 0, .int .i64 0, .int .i64 0, .string ⟨#[]⟩] 31)).alloc (.cells #[.int .i64 0, .int .i64 i, .int .i64 0, .string ⟨#[]⟩] 31) = w1 at *
  obtain ⟨c0, c1, c2, hf⟩ := R1.out.cells
  have hc := HC.out
  go_quiet (fail)
  have R2 := hidden (R1.out.drewN nq)
  have O2 := hidden (O1.out.drewN nq)
  have P2 : Hid (TB (w1.drewN nq) w.heap.size 0 0 0 ⟨#[]⟩) := P1.out
  have Q2 : Hid (TB (w1.drewN nq) (w.heap.size + 1) 0 i 0 ⟨#[]⟩) := Q1.out
  clear c0 c1 c2 hf R1 O1 P1 Q1 hc
  generalize w1.drewN nq = w2 at *
  have hq : w.heap.size + 1 ≠ b := by omega
  have hp : w.heap.size ≠ b := by omega
  by_cases hsm : (smallB c || greatB c) = true
  · have ht : tokAt docW (suf s i) = .ok (⟨kindL ((suf s i).takeWhile nameB), (suf s i).takeWhile nameB, 0⟩, (suf s i).dropWhile nameB) := by
      have : nameB c = true := by unfold nameB; rw [Bool.or_eq_true] at hsm; rcases hsm with e | e <;> simp [e]
      rw [E0.out]
      unfold tokAt kindL
      simp only [if_pos hsm]
      rw [List.takeWhile_cons, this]
      rfl
    have hne : (suf s i).takeWhile nameB ≠ [] := by
      have : nameB c = true := by unfold nameB; rw [Bool.or_eq_true] at hsm; rcases hsm with e | e <;> simp [e]
      rw [E0.out, List.takeWhile_cons, this]
      simp
    have hll : ((suf s i).takeWhile nameB).length ≤ 1000000 := by
      have := (List.takeWhile_prefix nameB (l := suf s i)).length_le
      rw [suf_len] at this
      omega
    rw [HT.out] at ht
    have HT2 := hidden ht
    have HN := hidden (name_any R2.out (by omega) hs1)
    have HK := hidden (fun w => kindOf_any _ w hne hll)
    clear ht hne hll HT E0
    generalize (suf s i).takeWhile nameB = l at *
    generalize (suf s i).dropWhile nameB = r at *
    cases h1 : smallB c with
    | true =>
      have H1 := hidden h1
      clear h1 hsm
      go_wp2_with (first
        | (go_at_call 36; refine (isSmall_any c _ H1.out).mono ?_; rintro e w' ⟨rfl, hw'⟩; rw [hw']; clear hw' w')
        | (go_at_call 38; refine HN.out.mono ?_; rintro e w5 ⟨rfl, hr, ho⟩; have R5 := hidden hr; have P5 := hidden (P2.out.only ho hp); have Q5 := hidden (Q2.out.only ho hq); have O5 := hidden (O2.out.trans ho); obtain ⟨q0, q1, q2, q3, qf⟩ := Q5.out.cells; obtain ⟨p0, p1, p2, p3, pf⟩ := P5.out.cells; clear hr ho)
        | (go_at_call 39; refine (HK.out _).mono ?_; rintro e w' ⟨rfl, hw'⟩; rw [hw']; clear hw' w'))
      obtain ⟨r6, o6, p6⟩ := tok_two R5.out O5.out P5.out hq 3 0 (.string ⟨l.toArray⟩) (.int .i64 (kindL l))
      obtain ⟨r7, o7, p7⟩ := tok_done r6 o6 p6 hp (kindL l) i 0 ⟨l.toArray⟩
      refine bodyPost_ret (results_cell_row rfl _ _ w.heap.size 31 #[.int .i64 (kindL l), .int .i64 i, .int .i64 0, .string ⟨l.toArray⟩] (0, 0) _ rfl p7 Tryd.underlying31 rfl (by kernel_rfl)) rfl ?_
      rw [HT2.out]
      exact ⟨rfl, r7, o7⟩
    | false =>
      have h2 : greatB c = true := by rw [h1, Bool.false_or] at hsm; exact hsm
      have H1 := hidden h1
      have H2 := hidden h2
      clear h1 h2 hsm
      go_wp2_with (first
        | (go_at_call 36; refine (isSmall_any c _ H1.out).mono ?_; rintro e w' ⟨rfl, hw'⟩; rw [hw']; clear hw' w')
        | (go_at_call 37; refine (isGreat_any c _ H2.out).mono ?_; rintro e w' ⟨rfl, hw'⟩; rw [hw']; clear hw' w')
        | (go_at_call 38; refine HN.out.mono ?_; rintro e w5 ⟨rfl, hr, ho⟩; have R5 := hidden hr; have P5 := hidden (P2.out.only ho hp); have Q5 := hidden (Q2.out.only ho hq); have O5 := hidden (O2.out.trans ho); obtain ⟨q0, q1, q2, q3, qf⟩ := Q5.out.cells; obtain ⟨p0, p1, p2, p3, pf⟩ := P5.out.cells; clear hr ho)
        | (go_at_call 39; refine (HK.out _).mono ?_; rintro e w' ⟨rfl, hw'⟩; rw [hw']; clear hw' w'))
      obtain ⟨r6, o6, p6⟩ := tok_two R5.out O5.out P5.out hq 3 0 (.string ⟨l.toArray⟩) (.int .i64 (kindL l))
      obtain ⟨r7, o7, p7⟩ := tok_done r6 o6 p6 hp (kindL l) i 0 ⟨l.toArray⟩
      refine bodyPost_ret (results_cell_row rfl _ _ w.heap.size 31 #[.int .i64 (kindL l), .int .i64 i, .int .i64 0, .string ⟨l.toArray⟩] (0, 0) _ rfl p7 Tryd.underlying31 rfl (by kernel_rfl)) rfl ?_
      rw [HT2.out]
      exact ⟨rfl, r7, o7⟩
  · have hsg : smallB c = false ∧ greatB c = false := by simpa using hsm
    have H1 := hidden hsg.1
    have H2 := hidden hsg.2
    have hsm2 : ¬ (smallB c || greatB c) = true := hsm
    clear hsg
    cases hd : digitB c with
    | true =>
      have H3 := hidden hd
      have ht : tokAt docW (suf s i) = (if parE ⟨((suf s i).takeWhile nameB).toArray⟩ = 5 then .error 20 else if parE ⟨((suf s i).takeWhile nameB).toArray⟩ ≠ 0 then .error (parE ⟨((suf s i).takeWhile nameB).toArray⟩) else .ok (⟨1, [], numW (parV ⟨((suf s i).takeWhile nameB).toArray⟩)⟩, (suf s i).dropWhile nameB)) := by
        have e := E0.out
        generalize suf s i = L at *
        subst e
        unfold tokAt
        simp only [if_neg hsm2, if_pos hd]
        rfl
      rw [HT.out] at ht
      have HT2 := hidden ht
      have HN := hidden (number_as R2.out (by omega) hs1)
      have hc := parE_cases ⟨((suf s i).takeWhile nameB).toArray⟩
      clear ht HT E0 hd hsm hsm2
      generalize (suf s i).takeWhile nameB = l at *
      generalize (suf s i).dropWhile nameB = r at *
      rcases hc with hc | hc | hc
      · have HT3 : Hid (T = .ok (⟨1, [], numW (parV ⟨l.toArray⟩)⟩, r)) := by show _ = _; rw [HT2.out, hc]; rfl
        have HC0 := hidden hc
        clear HT2 hc
        go_wp2_with (first
          | (go_at_call 36; refine (isSmall_any c _ H1.out).mono ?_; rintro e w' ⟨rfl, hw'⟩; rw [hw']; clear hw' w')
          | (go_at_call 37; refine (isGreat_any c _ H2.out).mono ?_; rintro e w' ⟨rfl, hw'⟩; rw [hw']; clear hw' w')
          | (go_at_call 40; refine (isDigit_any c _ H3.out).mono ?_; rintro e w' ⟨rfl, hw'⟩; rw [hw']; clear hw' w')
          | (go_at_call 41; refine HN.out.mono ?_; rintro e w5 hn5; obtain ⟨rfl, hr, ho⟩ := hn5.1 HC0.out; clear hn5; have R5 := hidden hr; have P5 := hidden (P2.out.only ho hp); have Q5 := hidden (Q2.out.only ho hq); have O5 := hidden (O2.out.trans ho); obtain ⟨q0, q1, q2, q3, qf⟩ := Q5.out.cells; obtain ⟨p0, p1, p2, p3, pf⟩ := P5.out.cells; clear hr ho))
        obtain ⟨r6, o6, p6⟩ := tok_two R5.out O5.out P5.out hq 0 2 (.int .i64 1) (.int .i64 (numW (parV ⟨l.toArray⟩)))
        obtain ⟨r7, o7, p7⟩ := tok_done r6 o6 p6 hp 1 i (numW (parV ⟨l.toArray⟩)) ⟨#[]⟩
        refine bodyPost_ret (results_cell_row rfl _ _ w.heap.size 31 #[.int .i64 1, .int .i64 i, .int .i64 (numW (parV ⟨l.toArray⟩)), .string ⟨#[]⟩] (0, 0) _ rfl p7 Tryd.underlying31 rfl (by kernel_rfl)) rfl ?_
        rw [HT3.out]
        exact ⟨rfl, r7, o7⟩
      · have HT3 : Hid (T = .error 2) := by show _ = _; rw [HT2.out, hc]; rfl
        have HC0 := hidden hc
        clear HT2 hc
        go_wp2_with (first
          | (go_at_call 36; refine (isSmall_any c _ H1.out).mono ?_; rintro e w' ⟨rfl, hw'⟩; rw [hw']; clear hw' w')
          | (go_at_call 37; refine (isGreat_any c _ H2.out).mono ?_; rintro e w' ⟨rfl, hw'⟩; rw [hw']; clear hw' w')
          | (go_at_call 40; refine (isDigit_any c _ H3.out).mono ?_; rintro e w' ⟨rfl, hw'⟩; rw [hw']; clear hw' w')
          | (go_at_call 41; refine HN.out.mono ?_; rintro e w5 hn5; obtain ⟨rfl, ho⟩ := hn5.2.1 HC0.out; clear hn5; have O5 := hidden (O2.out.trans ho); clear ho))
        refine And.intro rfl ?_
        rw [HT3.out]
        exact ⟨rfl, O5.out⟩
      · have HT3 : Hid (T = .error 20) := by show _ = _; rw [HT2.out, hc]; rfl
        have HC0 := hidden hc
        clear HT2 hc
        go_wp2_with (first
          | (go_at_call 36; refine (isSmall_any c _ H1.out).mono ?_; rintro e w' ⟨rfl, hw'⟩; rw [hw']; clear hw' w')
          | (go_at_call 37; refine (isGreat_any c _ H2.out).mono ?_; rintro e w' ⟨rfl, hw'⟩; rw [hw']; clear hw' w')
          | (go_at_call 40; refine (isDigit_any c _ H3.out).mono ?_; rintro e w' ⟨rfl, hw'⟩; rw [hw']; clear hw' w')
          | (go_at_call 41; refine HN.out.mono ?_; rintro e w5 hn5; obtain ⟨rfl, ho⟩ := hn5.2.2 HC0.out; clear hn5; have O5 := hidden (O2.out.trans ho); clear ho))
        refine And.intro rfl ?_
        rw [HT3.out]
        exact ⟨rfl, O5.out⟩
    | false =>
      have H3 := hidden hd
      have hd2 : ¬ digitB c = true := by rw [hd]; decide
      by_cases hq4 : c = 34
      · have ht : tokAt docW (suf s i) = (match txtB (suf s (i + 1)) with | some (x, r) => .ok (⟨2, x, 0⟩, r) | none => .error 20) := by
          rw [E0.out]
          unfold tokAt
          simp only [if_neg hsm2, if_neg hd2, if_pos hq4]
          rfl
        rw [HT.out] at ht
        have HN := hidden (textP_as R2.out hi hs)
        cases hx : txtB (suf s (i + 1)) with
        | some xr =>
          obtain ⟨x, r⟩ := xr
          rw [hx] at ht HN
          have HT3 : Hid (T = .ok (⟨2, x, 0⟩, r)) := ht
          have HC2 := hidden (hq4 ▸ HC.out)
          subst hq4
          clear ht HT E0 hd hsm hsm2 hx hd2
          go_wp2_with (first
            | (go_at_call 36; refine (isSmall_any 34 _ H1.out).mono ?_; rintro e w' ⟨rfl, hw'⟩; rw [hw']; clear hw' w')
            | (go_at_call 37; refine (isGreat_any 34 _ H2.out).mono ?_; rintro e w' ⟨rfl, hw'⟩; rw [hw']; clear hw' w')
            | (go_at_call 40; refine (isDigit_any 34 _ H3.out).mono ?_; rintro e w' ⟨rfl, hw'⟩; rw [hw']; clear hw' w')
            | (go_at_call 42; refine HN.out.mono ?_; rintro e w5 ⟨rfl, hr, ho⟩; have R5 := hidden hr; have P5 := hidden (P2.out.only ho hp); have Q5 := hidden (Q2.out.only ho hq); have O5 := hidden (O2.out.trans ho); obtain ⟨q0, q1, q2, q3, qf⟩ := Q5.out.cells; obtain ⟨p0, p1, p2, p3, pf⟩ := P5.out.cells; clear hr ho))
          obtain ⟨r6, o6, p6⟩ := tok_two R5.out O5.out P5.out hq 0 3 (.int .i64 2) (.string ⟨x.toArray⟩)
          obtain ⟨r7, o7, p7⟩ := tok_done r6 o6 p6 hp 2 i 0 ⟨x.toArray⟩
          refine bodyPost_ret (results_cell_row rfl _ _ w.heap.size 31 #[.int .i64 2, .int .i64 i, .int .i64 0, .string ⟨x.toArray⟩] (0, 0) _ rfl p7 Tryd.underlying31 rfl (by kernel_rfl)) rfl ?_
          rw [HT3.out]
          exact ⟨rfl, r7, o7⟩
        | none =>
          rw [hx] at ht HN
          have HT3 : Hid (T = .error 20) := ht
          subst hq4
          clear ht HT E0 hd hsm hsm2 hx hd2
          go_wp2_with (first
            | (go_at_call 36; refine (isSmall_any 34 _ H1.out).mono ?_; rintro e w' ⟨rfl, hw'⟩; rw [hw']; clear hw' w')
            | (go_at_call 37; refine (isGreat_any 34 _ H2.out).mono ?_; rintro e w' ⟨rfl, hw'⟩; rw [hw']; clear hw' w')
            | (go_at_call 40; refine (isDigit_any 34 _ H3.out).mono ?_; rintro e w' ⟨rfl, hw'⟩; rw [hw']; clear hw' w')
            | (go_at_call 42; refine HN.out.mono ?_; rintro e w5 ⟨rfl, ho⟩; have O5 := hidden (O2.out.trans ho); clear ho))
          refine And.intro rfl ?_
          rw [HT3.out]
          exact ⟨rfl, O5.out⟩
      · have g1 : ((c.toNat : Int) == 34) = false := u8_ne (n := 34) (by decide) hq4
        have ht : tokAt docW (suf s i) = (match signsL.find? (fun x => x.isPrefixOf (suf s i)) with | some x => .ok (⟨5, x, 0⟩, (suf s i).drop x.length) | none => .error 20) := by
          have e := E0.out
          generalize suf s i = L at *
          subst e
          unfold tokAt
          simp only [if_neg hsm2, if_neg hd2, if_neg hq4]
          rfl
        rw [HT.out] at ht
        have HN := hidden (sign_as R2.out (by omega) hs1)
        cases hx : signsL.find? (fun x => x.isPrefixOf (suf s i)) with
        | some x =>
          rw [hx] at ht HN
          have hpre : x.length ≤ (suf s i).length := by
            have := List.find?_some hx
            exact (List.isPrefixOf_iff_prefix.1 this).length_le
          rw [suf_len] at hpre
          have HT3 : Hid (T = .ok (⟨5, x, 0⟩, (suf s i).drop x.length)) := ht
          have HJ : Hid (s.size - ((suf s i).drop x.length).length = i + x.length) := by show _ = _; rw [List.length_drop, suf_len]; omega
          clear ht HT E0 hd hsm hsm2 hx hd2 hpre hq4
          go_wp2_with (first
            | (go_at_call 36; refine (isSmall_any c _ H1.out).mono ?_; rintro e w' ⟨rfl, hw'⟩; rw [hw']; clear hw' w')
            | (go_at_call 37; refine (isGreat_any c _ H2.out).mono ?_; rintro e w' ⟨rfl, hw'⟩; rw [hw']; clear hw' w')
            | (go_at_call 40; refine (isDigit_any c _ H3.out).mono ?_; rintro e w' ⟨rfl, hw'⟩; rw [hw']; clear hw' w')
            | (go_at_call 43; refine HN.out.mono ?_; rintro e w5 ⟨rfl, hr, ho⟩; have R5 := hidden hr; have P5 := hidden (P2.out.only ho hp); have Q5 := hidden (Q2.out.only ho hq); have O5 := hidden (O2.out.trans ho); obtain ⟨q0, q1, q2, q3, qf⟩ := Q5.out.cells; obtain ⟨p0, p1, p2, p3, pf⟩ := P5.out.cells; clear hr ho))
          obtain ⟨r6, o6, p6⟩ := tok_two R5.out O5.out P5.out hq 0 3 (.int .i64 5) (.string ⟨x.toArray⟩)
          obtain ⟨r7, o7, p7⟩ := tok_done r6 o6 p6 hp 5 i 0 ⟨x.toArray⟩
          refine bodyPost_ret (results_cell_row rfl _ _ w.heap.size 31 #[.int .i64 5, .int .i64 i, .int .i64 0, .string ⟨x.toArray⟩] (0, 0) _ rfl p7 Tryd.underlying31 rfl (by kernel_rfl)) rfl ?_
          rw [HT3.out]
          exact ⟨rfl, by rw [HJ.out]; exact r7, o7⟩
        | none =>
          rw [hx] at ht HN
          have HT3 : Hid (T = .error 20) := ht
          clear ht HT E0 hd hsm hsm2 hx hd2 hq4
          go_wp2_with (first
            | (go_at_call 36; refine (isSmall_any c _ H1.out).mono ?_; rintro e w' ⟨rfl, hw'⟩; rw [hw']; clear hw' w')
            | (go_at_call 37; refine (isGreat_any c _ H2.out).mono ?_; rintro e w' ⟨rfl, hw'⟩; rw [hw']; clear hw' w')
            | (go_at_call 40; refine (isDigit_any c _ H3.out).mono ?_; rintro e w' ⟨rfl, hw'⟩; rw [hw']; clear hw' w')
            | (go_at_call 43; refine HN.out.mono ?_; rintro e w5 ⟨rfl, ho⟩; have O5 := hidden (O2.out.trans ho); clear ho))
          refine And.intro rfl ?_
          rw [HT3.out]
          exact ⟨rfl, O5.out⟩
end Go.Proofs.YtapecobalkjdhaaDoor
