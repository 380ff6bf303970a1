/-
  Layer 7, plain: a source that is cut ahead of a token; a source has one list of tokens; the function that reads them. No program is named.
-/
import Derived.Test.YtapecobalkjdhaaDoorX7Cut
namespace Go.Proofs.YtapecobalkjdhaaDoor
set_option linter.unusedVariables false
set_option maxHeartbeats 1000000

variable {W : LexW}
theorem skipC_suf : ∀ (l : List UInt8) (d : Nat) {r : List UInt8}, skipC d l = some r → r <:+ l
  | [], d, r, h => by simp [skipC] at h
  | [c], d, r, h => by simp [skipC] at h
  | a :: b :: l, d, r, h => by
    unfold skipC at h
    have e2 : l <:+ a :: b :: l := ⟨[a, b], rfl⟩
    have e1 : b :: l <:+ a :: b :: l := ⟨[a], rfl⟩
    by_cases c1 : a = 42 ∧ b = 41
    · rw [if_pos c1] at h
      cases d with
      | zero => simp only [Option.some.injEq] at h; rw [← h]; exact e2
      | succ d => exact (skipC_suf l d h).trans e2
    · rw [if_neg c1] at h
      by_cases c2 : a = 40 ∧ b = 42
      · rw [if_pos c2] at h; exact (skipC_suf l (d + 1) h).trans e2
      · rw [if_neg c2] at h; exact (skipC_suf (b :: l) d h).trans e1
theorem formB_suf {l r : List UInt8} {c : UInt8} (h : formB l = some (c, r)) : r <:+ l := by
  obtain ⟨q, e, _⟩ := formB_cut (l := l) (z := []) (by rw [List.append_nil]; exact h) (Nat.zero_le _)
  cases l with
  | nil => cases h
  | cons a l =>
    rw [formB_cons] at h
    have e1 : l <:+ a :: l := ⟨[a], rfl⟩
    by_cases c1 : a = 34 ∨ a = 92
    · rw [if_pos c1] at h; simp only [Option.some.injEq, Prod.mk.injEq] at h; rw [← h.2]; exact e1
    · rw [if_neg c1] at h
      by_cases c2 : a = 110
      · rw [if_pos c2] at h; simp only [Option.some.injEq, Prod.mk.injEq] at h; rw [← h.2]; exact e1
      · rw [if_neg c2] at h
        by_cases c3 : a = 116
        · rw [if_pos c3] at h; simp only [Option.some.injEq, Prod.mk.injEq] at h; rw [← h.2]; exact e1
        · rw [if_neg c3] at h
          by_cases c4 : a = 120
          · rw [if_pos c4] at h
            match l, h with
            | x :: y :: m, h =>
              have h' : (match hexB x, hexB y with | some a, some b => some (a * 16 + b, m) | _, _ => none) = some (c, r) := h
              cases hx : hexB x with
              | none => rw [hx] at h'; cases h'
              | some p =>
                cases hy : hexB y with
                | none => rw [hx, hy] at h'; cases h'
                | some p' =>
                  rw [hx, hy] at h'
                  simp only [Option.some.injEq, Prod.mk.injEq] at h'
                  rw [← h'.2]
                  exact ⟨[a, x, y], rfl⟩
            | [x], h => cases h
            | [], h => cases h
          · rw [if_neg c4] at h; cases h
theorem txtB_suf : ∀ (n : Nat) (l : List UInt8) {x r : List UInt8}, l.length ≤ n → txtB l = some (x, r) → r <:+ l := by
  intro n
  induction n with
  | zero =>
    intro l x r hn h
    have : l = [] := List.length_eq_zero_iff.1 (by omega)
    subst this
    simp [txtB] at h
  | succ n ih =>
    intro l x r hn h
    cases l with
    | nil => simp [txtB] at h
    | cons c t =>
      have e1 : t <:+ c :: t := ⟨[c], rfl⟩
      simp only [List.length_cons] at hn
      rw [txtB] at h
      by_cases c1 : c = 34
      · rw [if_pos c1] at h; simp only [Option.some.injEq, Prod.mk.injEq] at h; rw [← h.2]; exact e1
      · rw [if_neg c1] at h
        by_cases c2 : c = 92
        · rw [if_pos c2] at h
          split at h
          · rename_i b r1 hf
            have hlen := formB_len hf
            cases hx : txtB r1 with
            | none => rw [hx] at h; cases h
            | some p =>
              obtain ⟨x1, r2⟩ := p
              rw [hx] at h
              simp only [Option.some.injEq, Prod.mk.injEq] at h
              rw [← h.2]
              exact ((ih r1 (by omega) hx).trans (formB_suf hf)).trans e1
          · cases h
        · rw [if_neg c2] at h
          cases hx : txtB t with
          | none => rw [hx] at h; cases h
          | some p =>
            obtain ⟨x1, r2⟩ := p
            rw [hx] at h
            simp only [Option.some.injEq, Prod.mk.injEq] at h
            rw [← h.2]
            exact (ih t (by omega) hx).trans e1
theorem tok_suf {l r : List UInt8} {t : Tk} (h : tokAt W l = .ok (t, r)) : r <:+ l := by
  cases l with
  | nil => cases h
  | cons c x =>
    unfold tokAt at h
    simp only at h
    by_cases c1 : (smallB c || greatB c) = true
    · rw [if_pos c1] at h
      simp only [Except.ok.injEq, Prod.mk.injEq] at h
      rw [← h.2]
      exact List.dropWhile_suffix _
    · rw [if_neg c1] at h
      by_cases c2 : digitB c = true
      · rw [if_pos c2] at h
        by_cases c3 : (W.num (List.takeWhile nameB (c :: x))).2 = 5
        · rw [if_pos c3] at h; cases h
        · rw [if_neg c3] at h
          by_cases c4 : (W.num (List.takeWhile nameB (c :: x))).2 ≠ 0
          · rw [if_pos c4] at h; cases h
          · rw [if_neg c4] at h
            simp only [Except.ok.injEq, Prod.mk.injEq] at h
            rw [← h.2]
            exact List.dropWhile_suffix _
      · rw [if_neg c2] at h
        by_cases c3 : c = 34
        · rw [if_pos c3] at h
          cases hx : txtB x with
          | none => rw [hx] at h; cases h
          | some p =>
            obtain ⟨y, r2⟩ := p
            rw [hx] at h
            simp only [Except.ok.injEq, Prod.mk.injEq] at h
            rw [← h.2]
            exact (txtB_suf _ _ (Nat.le_refl _) hx).trans ⟨[c], rfl⟩
        · rw [if_neg c3] at h
          cases hx : W.signs.find? (fun s => s.isPrefixOf (c :: x)) with
          | none => rw [hx] at h; cases h
          | some s =>
            rw [hx] at h
            simp only [Except.ok.injEq, Prod.mk.injEq] at h
            rw [← h.2]
            exact List.drop_suffix _ _
/-- Places fall, from the front. -/
theorem lexes_le (hW : SignsOk W) {l : List UInt8} {ts : List (Tk × Nat)} (h : Lexes W l ts) : ∀ p, p ∈ ts → 0 < p.2 ∧ p.2 ≤ l.length := by
  induction h with
  | nil => intro p hp; cases hp
  | blank hc h ih => intro p hp; have := ih p hp; simp; omega
  | comment hs h ih => intro p hp; have := ih p hp; have := skipC_len _ _ hs; simp; omega
  | @tok l r t ts hb hn ht h ih =>
    have hlen := tok_len hW ht
    intro p hp
    rcases List.mem_cons.1 hp with rfl | hp
    · simp only; omega
    · have := ih p hp; omega
theorem suf_of {a z r l : List UInt8} (e : l = a ++ z) (h : r <:+ l) (hl : z.length ≤ r.length) : ∃ q, r = q ++ z := by
  have h2 : z <:+ r := List.suffix_of_suffix_length_le (e ▸ List.suffix_append a z) h hl
  obtain ⟨q, hq⟩ := h2
  exact ⟨q, hq.symm⟩
/-- A source that is cut ahead of a token. -/
theorem lexes_cut (hW : SignsOk W) {l : List UInt8} {ts : List (Tk × Nat)} (h : Lexes W l ts) : ∀ {a z : List UInt8} {ts1 ts2 : List (Tk × Nat)} {t : Tk}, l = a ++ z → ts = ts1 ++ (t, z.length) :: ts2 → Lexes W a (ts1.map (fun p => (p.1, p.2 - z.length))) ∧ Lexes W z ((t, z.length) :: ts2) := by
  induction h with
  | nil => intro a z ts1 ts2 t e e2; simp at e2
  | @blank c l ts hc h ih =>
    intro a z ts1 ts2 t e e2
    have hz := lexes_le hW h (t, z.length) (by rw [e2]; simp)
    cases a with
    | nil => rw [List.nil_append] at e; rw [← e] at hz; simp at hz; omega
    | cons c' a =>
      simp only [List.cons_append, List.cons.injEq] at e
      obtain ⟨rfl, e⟩ := e
      obtain ⟨h1, h2⟩ := ih e e2
      exact ⟨Lexes.blank hc h1, h2⟩
  | @comment l r ts hs h ih =>
    intro a z ts1 ts2 t e e2
    have hz := lexes_le hW h (t, z.length) (by rw [e2]; simp)
    have hlen := skipC_len _ _ hs
    simp only at hz
    match a, e with
    | [], e => have := congrArg List.length e; simp at this; omega
    | [c], e => have := congrArg List.length e; simp at this; omega
    | c :: c' :: a, e =>
      simp only [List.cons_append, List.cons.injEq] at e
      obtain ⟨rfl, rfl, e⟩ := e
      obtain ⟨q, hq⟩ := suf_of e (skipC_suf _ _ hs) hz.2
      obtain ⟨h1, h2⟩ := ih hq e2
      rw [e, hq] at hs
      exact ⟨Lexes.comment (skipC_cut _ _ hs) h1, h2⟩
  | @tok l r t0 ts hb hn ht h ih =>
    intro a z ts1 ts2 t e e2
    cases ts1 with
    | nil =>
      simp only [List.nil_append, List.cons.injEq, Prod.mk.injEq] at e2
      obtain ⟨⟨rfl, e3⟩, rfl⟩ := e2
      have ha : a = [] := List.length_eq_zero_iff.1 (by have := congrArg List.length e; rw [List.length_append] at this; omega)
      subst ha
      rw [List.nil_append] at e
      subst e
      exact ⟨Lexes.nil, Lexes.tok hb hn ht h⟩
    | cons p ts1 =>
      simp only [List.cons_append, List.cons.injEq] at e2
      obtain ⟨rfl, e2⟩ := e2
      have hz := lexes_le hW h (t, z.length) (by rw [e2]; simp)
      have hlen := tok_len hW ht
      simp only at hz
      obtain ⟨q, hq⟩ := suf_of e (tok_suf ht) hz.2
      obtain ⟨h1, h2⟩ := ih hq e2
      have hll := congrArg List.length e
      rw [List.length_append] at hll
      refine ⟨?_, h2⟩
      rw [e, hq] at ht
      rw [List.map_cons]
      have ea : l.length - z.length = a.length := by omega
      simp only [ea]
      refine Lexes.tok (fun c x ec => hb c (x ++ z) (by rw [e, ec]; rfl)) (fun x ec => hn (x ++ z) (by rw [e, ec]; rfl)) (tok_cut hW ht) h1
end Go.Proofs.YtapecobalkjdhaaDoor
