/-
  Layer 7, plain: what a source's tokens are: blanks, comments, names, numbers, texts, signs; sources that are cut, joined, with more between. No program is named.
-/
namespace Go.Proofs.YtapecobalkjdhaaDoor
set_option linter.unusedVariables false
set_option maxHeartbeats 1000000

def blankB (c : UInt8) : Bool := c == 32 || c == 10 || c == 9 || c == 13
def smallB (c : UInt8) : Bool := (decide (97 ≤ c) && decide (c ≤ 122)) || c == 95
def greatB (c : UInt8) : Bool := decide (65 ≤ c) && decide (c ≤ 90)
def digitB (c : UInt8) : Bool := decide (48 ≤ c) && decide (c ≤ 57)
def nameB (c : UInt8) : Bool := smallB c || greatB c || digitB c || c == 39
/-- What stands behind a comment whose beginning was passed; d comments more are open within it. -/
def skipC : Nat → List UInt8 → Option (List UInt8)
  | _, [] => none
  | d, [c] => none
  | d, a :: b :: l =>
    if a = 42 ∧ b = 41 then (match d with | 0 => some l | d + 1 => skipC d l)
    else if a = 40 ∧ b = 42 then skipC (d + 1) l
    else skipC d (b :: l)
/-- A digit's number, of 0 to 9, a to f. -/
def hexB (c : UInt8) : Option UInt8 := if digitB c then some (c - 48) else if 97 ≤ c ∧ c ≤ 102 then some (c - 97 + 10) else none
/-- A form behind a backslash: its byte, and what stands behind it. -/
def formB : List UInt8 → Option (UInt8 × List UInt8)
  | [] => none
  | c :: l =>
    if c = 34 ∨ c = 92 then some (c, l)
    else if c = 110 then some (10, l)
    else if c = 116 then some (9, l)
    else if c = 120 then (match l with | x :: y :: r => (match hexB x, hexB y with | some a, some b => some (a * 16 + b, r) | _, _ => none) | _ => none)
    else none
theorem formB_len {l r : List UInt8} {c : UInt8} (h : formB l = some (c, r)) : r.length < l.length := by
  unfold formB at h
  split at h
  · cases h
  · rename_i c' l'
    split at h
    · simp only [Option.some.injEq, Prod.mk.injEq] at h; rw [← h.2]; simp
    · split at h
      · simp only [Option.some.injEq, Prod.mk.injEq] at h; rw [← h.2]; simp
      · split at h
        · simp only [Option.some.injEq, Prod.mk.injEq] at h; rw [← h.2]; simp
        · split at h
          · split at h
            · split at h
              · simp only [Option.some.injEq, Prod.mk.injEq] at h; rw [← h.2]; simp; omega
              · cases h
            · cases h
          · cases h
/-- A text whose first mark was passed: its bytes, and what stands behind it. -/
def txtB (l : List UInt8) : Option (List UInt8 × List UInt8) :=
  match l with
  | [] => none
  | c :: t =>
    if c = 34 then some ([], t)
    else if c = 92 then (match h : formB t with
      | some (b, r) => (match txtB r with | some (x, r') => some (b :: x, r') | none => none)
      | none => none)
    else (match txtB t with | some (x, r') => some (c :: x, r') | none => none)
termination_by l.length
decreasing_by
  · have := formB_len h; simp; omega
  · simp
/-- A token, without its place. -/
structure Tk where
  kind : Int
  S : List UInt8
  N : Int
/-- What a token is read by: the language's words, its signs (the longer ones first), what a number's text is. -/
structure LexW where
  word : List UInt8 → Bool
  signs : List (List UInt8)
  num : List UInt8 → Int × Int
/-- The token that stands first, and what stands behind it; or what is wrong. -/
def tokAt (W : LexW) (l : List UInt8) : Except Int (Tk × List UInt8) :=
  match l with
  | [] => .error 20
  | c :: t =>
    if smallB c || greatB c then .ok (⟨if greatB c then 4 else if W.word (l.takeWhile nameB) || l.takeWhile nameB == [95] then 5 else 3, l.takeWhile nameB, 0⟩, l.dropWhile nameB)
    else if digitB c then (if (W.num (l.takeWhile nameB)).2 = 5 then .error 20 else if (W.num (l.takeWhile nameB)).2 ≠ 0 then .error (W.num (l.takeWhile nameB)).2 else .ok (⟨1, [], (W.num (l.takeWhile nameB)).1⟩, l.dropWhile nameB))
    else if c = 34 then (match txtB t with | some (x, r) => .ok (⟨2, x, 0⟩, r) | none => .error 20)
    else (match W.signs.find? (fun s => s.isPrefixOf l) with | some s => .ok (⟨5, s, 0⟩, l.drop s.length) | none => .error 20)
/-- A source's tokens, each with what stands behind its first byte's place; nothing is wrong with it. -/
inductive Lexes (W : LexW) : List UInt8 → List (Tk × Nat) → Prop where
  | nil : Lexes W [] []
  | blank {c : UInt8} {l : List UInt8} {ts : List (Tk × Nat)} (hc : blankB c = true) (h : Lexes W l ts) : Lexes W (c :: l) ts
  | comment {l r : List UInt8} {ts : List (Tk × Nat)} (hc : skipC 0 l = some r) (h : Lexes W r ts) : Lexes W (40 :: 42 :: l) ts
  | tok {l r : List UInt8} {t : Tk} {ts : List (Tk × Nat)} (hb : ∀ c x, l = c :: x → blankB c = false) (hn : ∀ x, l ≠ 40 :: 42 :: x) (ht : tokAt W l = .ok (t, r)) (h : Lexes W r ts) : Lexes W l ((t, l.length) :: ts)
/-- The language's signs and words as they must be: no sign is empty or has a blank, a name's byte, a mark of a text, or begins with it. -/
structure SignsOk (W : LexW) : Prop where
  ne : ∀ s, s ∈ W.signs → s ≠ []
  plain : ∀ s, s ∈ W.signs → ∀ c, c ∈ s → blankB c = false ∧ nameB c = false ∧ c ≠ 34
variable {W : LexW}
theorem skipC_app : ∀ (l : List UInt8) (d : Nat) {r : List UInt8} (z : List UInt8), skipC d l = some r → skipC d (l ++ z) = some (r ++ z)
  | [], d, r, z, h => by simp [skipC] at h
  | [c], d, r, z, h => by simp [skipC] at h
  | a :: b :: l, d, r, z, h => by
    rw [List.cons_append, List.cons_append]
    unfold skipC at h ⊢
    by_cases c1 : a = 42 ∧ b = 41
    · rw [if_pos c1] at h ⊢
      cases d with
      | zero => simp only [Option.some.injEq] at h ⊢; rw [h]
      | succ d => exact skipC_app l d z h
    · rw [if_neg c1] at h ⊢
      by_cases c2 : a = 40 ∧ b = 42
      · rw [if_pos c2] at h ⊢; exact skipC_app l (d + 1) z h
      · rw [if_neg c2] at h ⊢; exact skipC_app (b :: l) d z h
theorem formB_cons (c : UInt8) (l : List UInt8) : formB (c :: l) = if c = 34 ∨ c = 92 then some (c, l) else if c = 110 then some (10, l) else if c = 116 then some (9, l) else if c = 120 then (match l with | x :: y :: r => (match hexB x, hexB y with | some a, some b => some (a * 16 + b, r) | _, _ => none) | _ => none) else none := rfl
theorem formB_app {l r : List UInt8} {c : UInt8} (z : List UInt8) (h : formB l = some (c, r)) : formB (l ++ z) = some (c, r ++ z) := by
  cases l with
  | nil => cases h
  | cons a l =>
    rw [List.cons_append]
    rw [formB_cons] at h ⊢
    by_cases c1 : a = 34 ∨ a = 92
    · rw [if_pos c1] at h ⊢; simp only [Option.some.injEq, Prod.mk.injEq] at h ⊢; exact ⟨h.1, by rw [h.2]⟩
    · rw [if_neg c1] at h ⊢
      by_cases c2 : a = 110
      · rw [if_pos c2] at h ⊢; simp only [Option.some.injEq, Prod.mk.injEq] at h ⊢; exact ⟨h.1, by rw [h.2]⟩
      · rw [if_neg c2] at h ⊢
        by_cases c3 : a = 116
        · rw [if_pos c3] at h ⊢; simp only [Option.some.injEq, Prod.mk.injEq] at h ⊢; exact ⟨h.1, by rw [h.2]⟩
        · rw [if_neg c3] at h ⊢
          by_cases c4 : a = 120
          · rw [if_pos c4] at h ⊢
            match l, h with
            | x :: y :: l, h =>
              show (match hexB x, hexB y with | some a, some b => some (a * 16 + b, l ++ z) | _, _ => none) = _
              have h' : (match hexB x, hexB y with | some a, some b => some (a * 16 + b, l) | _, _ => none) = some (c, r) := h
              cases hx : hexB x with
              | none => rw [hx] at h'; cases h'
              | some p =>
                cases hy : hexB y with
                | none => rw [hx, hy] at h'; cases h'
                | some q => rw [hx, hy] at h'; simp only [Option.some.injEq, Prod.mk.injEq] at h' ⊢; exact ⟨h'.1, by rw [h'.2]⟩
            | [x], h => cases h
            | [], h => cases h
          · rw [if_neg c4] at h; cases h
theorem txtB_app : ∀ (n : Nat) (l : List UInt8) {x r : List UInt8} (z : List UInt8), l.length ≤ n → txtB l = some (x, r) → txtB (l ++ z) = some (x, r ++ z) := by
  intro n
  induction n with
  | zero =>
    intro l x r z hn h
    have : l = [] := List.length_eq_zero_iff.1 (by omega)
    subst this
    simp [txtB] at h
  | succ n ih =>
    intro l x r z hn h
    cases l with
    | nil => simp [txtB] at h
    | cons c t =>
      rw [List.cons_append]
      rw [txtB] at h ⊢
      by_cases c1 : c = 34
      · rw [if_pos c1] at h ⊢; simp only [Option.some.injEq, Prod.mk.injEq] at h ⊢; exact ⟨h.1, by rw [h.2]⟩
      · rw [if_neg c1] at h ⊢
        by_cases c2 : c = 92
        · rw [if_pos c2] at h ⊢
          split at h
          · rename_i b r1 hf
            have hf2 := formB_app z hf
            have hlen := formB_len hf
            simp only [List.length_cons] at hn
            cases hx : txtB r1 with
            | none => rw [hx] at h; cases h
            | some p =>
              obtain ⟨x1, r2⟩ := p
              rw [hx] at h
              simp only [Option.some.injEq, Prod.mk.injEq] at h
              have h2 := ih r1 z (by omega) hx
              split
              · rename_i b' r' hf'
                rw [hf2] at hf'
                simp only [Option.some.injEq, Prod.mk.injEq] at hf'
                rw [← hf'.2, h2]
                simp only [Option.some.injEq, Prod.mk.injEq]
                exact ⟨by rw [← hf'.1]; exact h.1, by rw [h.2]⟩
              · rename_i hf'
                rw [hf2] at hf'; cases hf'
          · cases h
        · rw [if_neg c2] at h ⊢
          simp only [List.length_cons] at hn
          cases hx : txtB t with
          | none => rw [hx] at h; cases h
          | some p =>
            obtain ⟨x1, r2⟩ := p
            rw [hx] at h
            simp only [Option.some.injEq, Prod.mk.injEq] at h
            rw [ih t z (by omega) hx]
            simp only [Option.some.injEq, Prod.mk.injEq]
            exact ⟨h.1, by rw [h.2]⟩
end Go.Proofs.YtapecobalkjdhaaDoor
