/-
 Layer 8, the statements: where a source is wrong first; a source behind a blank, read back. No program is named but by its plain answer.
-/
import Derived.Test.YthjmakjhidjbaaaGreatL8Awake
import Derived.Test.YthjmakjhidjbaaaGreatLibAY
import Derived.Test.YthjmakjhidjbaaaGreatLibAC
namespace Go.Proofs.YthjmakjhidjbaaaGreat
set_option linter.unusedVariables false
set_option linter.unusedSimpArgs false
set_option maxHeartbeats 1000000

/-- What is lexed behind a source that is, and a blank, is lexed by itself. -/
theorem lexes_split {W : LexW} (hW : SignsOk W) {a b : List UInt8} {c : UInt8} {ts : List (Tk × Nat)} (hc : blankB c = true) (h : Lexes W a ts) : ∀ {vs : List (Tk × Nat)}, Lexes W (a ++ c :: b) vs → ∃ us, Lexes W b us ∧ vs = ts.map (fun p => (p.1, p.2 + (b.length + 1))) ++ us := by
 have hz : GapZ (c :: b) := fun c' x e => by cases e; exact hc
 have h40 : blankB 40 = false := by decide
 induction h with
 | nil =>
  intro vs hv
  rw [List.nil_append] at hv
  refine ⟨vs, ?_, by simp⟩
  generalize hl : c :: b = l at hv
  cases hv with
  | nil => cases hl
  | blank hc' h' => cases hl; exact h'
  | comment hc' h' => cases hl; rw [h40] at hc; cases hc
  | tok hb' hn' ht' h' => have := hb' _ _ hl.symm; rw [hc] at this; cases this
 | @blank c0 l ts hc0 h0 ih =>
  intro vs hv
  generalize hl : c0 :: l ++ c :: b = l2 at hv
  cases hv with
  | nil => cases hl
  | blank hc' h' => cases hl; exact ih h'
  | comment hc' h' => have e0 := (List.cons.inj hl).1; rw [e0, h40] at hc0; cases hc0
  | tok hb' hn' ht' h' => have := hb' _ _ hl.symm; rw [hc0] at this; cases this
 | @comment l r ts hc0 h0 ih =>
  intro vs hv
  generalize hl : 40 :: 42 :: l ++ c :: b = l2 at hv
  cases hv with
  | nil => cases hl
  | blank hc' h' => cases hl; rw [h40] at hc'; cases hc'
  | comment hc' h' =>
   cases hl
   have e := skipC_app l 0 (c :: b) hc0
   rw [show l.append (c :: b) = l ++ c :: b from rfl, e] at hc'
   cases hc'
   exact ih h'
  | tok hb' hn' ht' h' => exact absurd hl.symm (hn' _)
 | @tok l r t ts hb0 hn0 ht0 h0 ih =>
  intro vs hv
  have e := tok_gap hW hz ht0
  obtain ⟨d, x, rfl⟩ : ∃ d x, l = d :: x := by
   cases l with
   | nil => unfold tokAt at ht0; cases ht0
   | cons d x => exact ⟨d, x, rfl⟩
  generalize hl : d :: x ++ c :: b = l2 at hv
  cases hv with
  | nil => cases hl
  | blank hc' h' => cases hl; have := hb0 _ _ rfl; rw [hc'] at this; cases this
  | comment hc' h' =>
   cases x with
   | nil =>
        cases hl; have : blankB 42 = false := by decide
        rw [this] at hc; cases hc
   | cons d2 x2 => cases hl; exact absurd rfl (hn0 _)
  | tok hb' hn' ht' h' =>
   subst hl
   rw [e] at ht'
   cases ht'
   obtain ⟨us, hu, rfl⟩ := ih h'
   exact ⟨us, hu, by simp; omega⟩
theorem lex_not21 {s : ByteArray} {e : Int} {k : Nat} (h : lexR s = .error (e, k)) : e = 2 ∨ e = 4 ∨ e = 20 := by
 have ht : ∀ {l : List UInt8} {e : Int}, tokAt docW l = .error e → e = 2 ∨ e = 4 ∨ e = 20 := by
  intro l e h
  unfold tokAt at h
  split at h
  ·simp only [Except.error.injEq] at h; omega
  ·split at h
   ·cases h
   ·split at h
    ·split at h
     ·simp only [Except.error.injEq] at h; omega
     ·split at h
      ·rename_i c1 c2
       simp only [Except.error.injEq] at h
       rw [← h]
       rcases parE_cases ⟨(List.takeWhile nameB (_ :: _)).toArray⟩ with q | q | q
       ·exact absurd q c2
       ·exact Or.inl q
       ·exact absurd q c1
      ·cases h
    ·split at h
     ·split at h
      ·cases h
      ·simp only [Except.error.injEq] at h; omega
     ·split at h
      ·cases h
      ·simp only [Except.error.injEq] at h; omega
 have hf : ∀ (n : Nat) (l : List UInt8) {e : Int} {k : Nat}, l.length < n → lexF docW n l = .error (e, k) → e = 2 ∨ e = 4 ∨ e = 20 := by
  intro n
  induction n with
  | zero => intro l e k hn; omega
  | succ n ih =>
   intro l e k hn h
   cases l with
   | nil => cases h
   | cons c x =>
    simp only [List.length_cons] at hn
    unfold lexF at h
    by_cases c1 : blankB c = true
    ·rw [if_pos c1] at h; exact ih x (by omega) h
    ·rw [if_neg c1] at h
     by_cases c2 : opensC (c :: x) = true
     ·rw [if_pos c2] at h
      cases hr : skipC 0 (x.drop 1) with
      | none => rw [hr] at h; simp only [Except.error.injEq, Prod.mk.injEq] at h; omega
      | some r =>
       rw [hr] at h
       have := skipC_len _ _ hr
       rw [List.length_drop] at this
       exact ih r (by omega) h
     ·rw [if_neg c2] at h
      cases hq : tokAt docW (c :: x) with
      | error e2 =>
       rw [hq] at h
       simp only [Except.error.injEq, Prod.mk.injEq] at h
       rw [← h.1]
       exact ht hq
      | ok p =>
       obtain ⟨t, r⟩ := p
       rw [hq] at h
       simp only at h
       have hl := tok_len docSigns hq
       simp only [List.length_cons] at hl
       cases hr : lexF docW n r with
       | error ek =>
        rw [hr] at h
        obtain ⟨e3, k3⟩ := ek
        simp only [Except.error.injEq, Prod.mk.injEq] at h
        rw [← h.1]
        exact ih r (by omega) hr
       | ok us => rw [hr] at h; cases h
 unfold lexR at h
 split at h
 ·simp only [Except.error.injEq, Prod.mk.injEq] at h; omega
 ·exact hf _ _ (Nat.lt_succ_self _) h
/-- A syntax error stands at a token. -/
theorem parse_syntax {s : ByteArray} {p : Int} (h : parseR s = .error (21, p)) : ∃ tp m, lexR s = .ok tp ∧ reads (srcT tp) .items 0 = .error m ∧ m ≤ tp.length ∧ p = plM (toks s tp) m := by
 unfold parseR at h
 cases hl : lexR s with
 | error ek =>
  obtain ⟨e, k⟩ := ek
  rw [hl] at h
  simp only [Except.error.injEq, Prod.mk.injEq] at h
  have := lex_not21 hl
  omega
 | ok tp =>
  rw [hl] at h
  simp only at h
  cases hr : reads (srcT tp) .items 0 with
  | error m =>
   rw [hr] at h
   simp only [Except.error.injEq, Prod.mk.injEq] at h
   have hf := reads_fine (ts := srcT tp) .items (i := 0) (Nat.zero_le _)
   rw [hr] at hf
   have h2 : m ≤ (srcT tp).length := hf.2.1
   rw [srcT_len] at h2
   exact ⟨tp, m, rfl, hr, h2, h.2.symm⟩
  | ok xj =>
   obtain ⟨x, j⟩ := xj
   rw [hr] at h
   simp only at h
   split at h
   ·simp only [Except.error.injEq, Prod.mk.injEq] at h; omega
   ·split at h
    ·simp only [Except.error.injEq, Prod.mk.injEq] at h; omega
    ·cases h
theorem pl_at {s : ByteArray} {tp : List (Tk × Nat)} {m : Nat} (h : m < tp.length) : plM (toks s tp) m = ((s.size - (tp[m]).2 : Nat) : Int) := by
 unfold plM tv toks tvs
 rw [List.getD_eq_getElem?_getD, List.getElem?_append_left (by rw [List.length_map]; exact h), List.getElem?_map, List.getElem?_eq_getElem h]
 rfl
theorem pl_end {s : ByteArray} {tp : List (Tk × Nat)} : plM (toks s tp) tp.length = (s.size : Int) := by
 unfold plM tv toks tvs endV
 rw [List.getD_eq_getElem?_getD, List.getElem?_append_right (by rw [List.length_map]; exact Nat.le_refl _), List.length_map, Nat.sub_self]
 rfl
/-- Where a source is wrong first doesn't change by what stands behind. -/
theorem first_law {s own more : ByteArray} {p : Int} {vs : List (Tk × Nat)} (h : parseR s = .error (21, p)) (hp : p < (s.size : Int)) (hv : lexR own = .ok vs) (ho : own.data.toList = s.data.toList ++ 32 :: more.data.toList) : parseR own = .error (21, p) := by
 obtain ⟨tp, m, h1, h2, h3, h4⟩ := parse_syntax h
 have hlt : m < tp.length := by
  rcases Nat.lt_or_ge m tp.length with c | c
  ·exact c
  ·have e : m = tp.length := by omega
   rw [e, pl_end] at h4
   omega
 obtain ⟨hs, hx⟩ := lexR_lexes h1
 obtain ⟨hs2, hx2⟩ := lexR_lexes hv
 rw [suf_zero] at hx hx2
 rw [ho] at hx2
 obtain ⟨us, hu, rfl⟩ := lexes_split docSigns (by decide) hx hx2
 have hsz : own.size = s.size + (more.data.toList.length + 1) := by
  rw [← len_data own, ho]
  simp only [List.length_append, List.length_cons, len_data]
 have e1 : srcT (tp.map (fun p => (p.1, p.2 + (more.data.toList.length + 1))) ++ us) = srcT tp ++ srcT us := by
  unfold srcT
  rw [List.map_append, List.map_map]
  rfl
 unfold parseR
 rw [hv]
 simp only
 rw [e1, items_first h2 (by rw [srcT_len]; exact hlt)]
 simp only [Except.error.injEq, Prod.mk.injEq, true_and]
 rw [h4, pl_at hlt, pl_at (by rw [List.length_append, List.length_map]; omega), List.getElem_append_left (by rw [List.length_map]; exact hlt), List.getElem_map]
 have hb := lexes_bound (s := s) (by rw [suf_zero]; exact hx) (List.getElem_mem hlt)
 simp only
 omega
end Go.Proofs.YthjmakjhidjbaaaGreat
