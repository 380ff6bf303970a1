/-
  Several small texts in one; each tells at its head what it proves, and on what condition.
-/

/-
 Layer 7, plain: what a source's tokens are: blanks, comments, names, numbers, texts, signs; sources that are cut, joined, with more between. No program is named.
-/
namespace Go.Proofs.YthjmakjhidjbaaaGreat
set_option linter.unusedVariables false
set_option maxHeartbeats 1000000

def blankB (c : UInt8) : Bool := c == 32 || c == 10 || c == 9 || c == 13
def smallB (c : UInt8) : Bool := (decide (97 ≤ c) && decide (c ≤ 122)) || c == 95
def greatB (c : UInt8) : Bool := decide (65 ≤ c) && decide (c ≤ 90)
def digitB (c : UInt8) : Bool := decide (48 ≤ c) && decide (c ≤ 57)
def nameB (c : UInt8) : Bool := smallB c || greatB c || digitB c || c == 39
/-- What stands behind a comment whose beginning was passed; d comments more are open within it. -/
def skipC : Nat → List UInt8 → Option (List UInt8)
 | _, [] => none
 | d, [c] => none
 | d, a :: b :: l =>
  if a = 42 ∧ b = 41 then (match d with | 0 => some l | d + 1 => skipC d l)
  else if a = 40 ∧ b = 42 then skipC (d + 1) l
  else skipC d (b :: l)
/-- A digit's number, of 0 to 9, a to f. -/
def hexB (c : UInt8) : Option UInt8 := if digitB c then some (c - 48) else if 97 ≤ c ∧ c ≤ 102 then some (c - 97 + 10) else none
/-- A form behind a backslash: its byte, and what stands behind it. -/
def formB : List UInt8 → Option (UInt8 × List UInt8)
 | [] => none
 | c :: l =>
  if c = 34 ∨ c = 92 then some (c, l)
  else if c = 110 then some (10, l)
  else if c = 116 then some (9, l)
  else if c = 120 then (match l with | x :: y :: r => (match hexB x, hexB y with | some a, some b => some (a * 16 + b, r) | _, _ => none) | _ => none)
  else none
theorem formB_len {l r : List UInt8} {c : UInt8} (h : formB l = some (c, r)) : r.length < l.length := by
 unfold formB at h
 split at h
 ·cases h
 ·rename_i c' l'
  split at h
  ·simp only [Option.some.injEq, Prod.mk.injEq] at h; rw [← h.2]; simp
  ·split at h
   ·simp only [Option.some.injEq, Prod.mk.injEq] at h; rw [← h.2]; simp
   ·split at h
    ·simp only [Option.some.injEq, Prod.mk.injEq] at h; rw [← h.2]; simp
    ·split at h
     ·split at h
      ·split at h
       ·simp only [Option.some.injEq, Prod.mk.injEq] at h; rw [← h.2]; simp; omega
       ·cases h
      ·cases h
     ·cases h
/-- A text whose first mark was passed: its bytes, and what stands behind it. -/
def txtB (l : List UInt8) : Option (List UInt8 × List UInt8) :=
 match l with
 | [] => none
 | c :: t =>
  if c = 34 then some ([], t)
  else if c = 92 then (match h : formB t with
   | some (b, r) => (match txtB r with | some (x, r') => some (b :: x, r') | none => none)
   | none => none)
  else (match txtB t with | some (x, r') => some (c :: x, r') | none => none)
termination_by l.length
decreasing_by
 ·have := formB_len h; simp; omega
 ·simp
/-- A token, without its place. -/
structure Tk where
 kind : Int
 S : List UInt8
 N : Int
/-- What a token is read by: the language's words, its signs (the longer ones first), what a number's text is. -/
structure LexW where
 word : List UInt8 → Bool
 signs : List (List UInt8)
 num : List UInt8 → Int × Int
/-- The token that stands first, and what stands behind it; or what is wrong. -/
def tokAt (W : LexW) (l : List UInt8) : Except Int (Tk × List UInt8) :=
 match l with
 | [] => .error 20
 | c :: t =>
  if smallB c || greatB c then .ok (⟨if greatB c then 4 else if W.word (l.takeWhile nameB) || l.takeWhile nameB == [95] then 5 else 3, l.takeWhile nameB, 0⟩, l.dropWhile nameB)
  else if digitB c then (if (W.num (l.takeWhile nameB)).2 = 5 then .error 20 else if (W.num (l.takeWhile nameB)).2 ≠ 0 then .error (W.num (l.takeWhile nameB)).2 else .ok (⟨1, [], (W.num (l.takeWhile nameB)).1⟩, l.dropWhile nameB))
  else if c = 34 then (match txtB t with | some (x, r) => .ok (⟨2, x, 0⟩, r) | none => .error 20)
  else (match W.signs.find? (fun s => s.isPrefixOf l) with | some s => .ok (⟨5, s, 0⟩, l.drop s.length) | none => .error 20)
/-- A source's tokens, each with what stands behind its first byte's place; nothing is wrong with it. -/
inductive Lexes (W : LexW) : List UInt8 → List (Tk × Nat) → Prop where
 | nil : Lexes W [] []
 | blank {c : UInt8} {l : List UInt8} {ts : List (Tk × Nat)} (hc : blankB c = true) (h : Lexes W l ts) : Lexes W (c :: l) ts
 | comment {l r : List UInt8} {ts : List (Tk × Nat)} (hc : skipC 0 l = some r) (h : Lexes W r ts) : Lexes W (40 :: 42 :: l) ts
 | tok {l r : List UInt8} {t : Tk} {ts : List (Tk × Nat)} (hb : ∀ c x, l = c :: x → blankB c = false) (hn : ∀ x, l ≠ 40 :: 42 :: x) (ht : tokAt W l = .ok (t, r)) (h : Lexes W r ts) : Lexes W l ((t, l.length) :: ts)
/-- The language's signs and words as they must be: no sign is empty or has a blank, a name's byte, a mark of a text, or begins with it. -/
structure SignsOk (W : LexW) : Prop where
 ne : ∀ s, s ∈ W.signs → s ≠ []
 plain : ∀ s, s ∈ W.signs → ∀ c, c ∈ s → blankB c = false ∧ nameB c = false ∧ c ≠ 34
variable {W : LexW}
theorem skipC_app : ∀ (l : List UInt8) (d : Nat) {r : List UInt8} (z : List UInt8), skipC d l = some r → skipC d (l ++ z) = some (r ++ z)
 | [], d, r, z, h => by simp [skipC] at h
 | [c], d, r, z, h => by simp [skipC] at h
 | a :: b :: l, d, r, z, h => by
  rw [List.cons_append, List.cons_append]
  unfold skipC at h ⊢
  by_cases c1 : a = 42 ∧ b = 41
  ·rw [if_pos c1] at h ⊢
   cases d with
   | zero => simp only [Option.some.injEq] at h ⊢; rw [h]
   | succ d => exact skipC_app l d z h
  ·rw [if_neg c1] at h ⊢
   by_cases c2 : a = 40 ∧ b = 42
   ·rw [if_pos c2] at h ⊢; exact skipC_app l (d + 1) z h
   ·rw [if_neg c2] at h ⊢; exact skipC_app (b :: l) d z h
theorem formB_cons (c : UInt8) (l : List UInt8) : formB (c :: l) = if c = 34 ∨ c = 92 then some (c, l) else if c = 110 then some (10, l) else if c = 116 then some (9, l) else if c = 120 then (match l with | x :: y :: r => (match hexB x, hexB y with | some a, some b => some (a * 16 + b, r) | _, _ => none) | _ => none) else none := rfl
theorem formB_app {l r : List UInt8} {c : UInt8} (z : List UInt8) (h : formB l = some (c, r)) : formB (l ++ z) = some (c, r ++ z) := by
 cases l with
 | nil => cases h
 | cons a l =>
  rw [List.cons_append]
  rw [formB_cons] at h ⊢
  by_cases c1 : a = 34 ∨ a = 92
  ·rw [if_pos c1] at h ⊢; simp only [Option.some.injEq, Prod.mk.injEq] at h ⊢; exact ⟨h.1, by rw [h.2]⟩
  ·rw [if_neg c1] at h ⊢
   by_cases c2 : a = 110
   ·rw [if_pos c2] at h ⊢; simp only [Option.some.injEq, Prod.mk.injEq] at h ⊢; exact ⟨h.1, by rw [h.2]⟩
   ·rw [if_neg c2] at h ⊢
    by_cases c3 : a = 116
    ·rw [if_pos c3] at h ⊢; simp only [Option.some.injEq, Prod.mk.injEq] at h ⊢; exact ⟨h.1, by rw [h.2]⟩
    ·rw [if_neg c3] at h ⊢
     by_cases c4 : a = 120
     ·rw [if_pos c4] at h ⊢
      match l, h with
      | x :: y :: l, h =>
       show (match hexB x, hexB y with | some a, some b => some (a * 16 + b, l ++ z) | _, _ => none) = _
       have h' : (match hexB x, hexB y with | some a, some b => some (a * 16 + b, l) | _, _ => none) = some (c, r) := h
       cases hx : hexB x with
       | none => rw [hx] at h'; cases h'
       | some p =>
        cases hy : hexB y with
        | none => rw [hx, hy] at h'; cases h'
        | some q => rw [hx, hy] at h'; simp only [Option.some.injEq, Prod.mk.injEq] at h' ⊢; exact ⟨h'.1, by rw [h'.2]⟩
      | [x], h => cases h
      | [], h => cases h
     ·rw [if_neg c4] at h; cases h
theorem txtB_app : ∀ (n : Nat) (l : List UInt8) {x r : List UInt8} (z : List UInt8), l.length ≤ n → txtB l = some (x, r) → txtB (l ++ z) = some (x, r ++ z) := by
 intro n
 induction n with
 | zero =>
  intro l x r z hn h
  have : l = [] := List.length_eq_zero_iff.1 (by omega)
  subst this
  simp [txtB] at h
 | succ n ih =>
  intro l x r z hn h
  cases l with
  | nil => simp [txtB] at h
  | cons c t =>
   rw [List.cons_append]
   rw [txtB] at h ⊢
   by_cases c1 : c = 34
   ·rw [if_pos c1] at h ⊢; simp only [Option.some.injEq, Prod.mk.injEq] at h ⊢; exact ⟨h.1, by rw [h.2]⟩
   ·rw [if_neg c1] at h ⊢
    by_cases c2 : c = 92
    ·rw [if_pos c2] at h ⊢
     split at h
     ·rename_i b r1 hf
      have hf2 := formB_app z hf
      have hlen := formB_len hf
      simp only [List.length_cons] at hn
      cases hx : txtB r1 with
      | none => rw [hx] at h; cases h
      | some p =>
       obtain ⟨x1, r2⟩ := p
       rw [hx] at h
       simp only [Option.some.injEq, Prod.mk.injEq] at h
       have h2 := ih r1 z (by omega) hx
       split
       ·rename_i b' r' hf'
        rw [hf2] at hf'
        simp only [Option.some.injEq, Prod.mk.injEq] at hf'
        rw [← hf'.2, h2]
        simp only [Option.some.injEq, Prod.mk.injEq]
        exact ⟨by rw [← hf'.1]; exact h.1, by rw [h.2]⟩
       ·rename_i hf'
        rw [hf2] at hf'; cases hf'
     ·cases h
    ·rw [if_neg c2] at h ⊢
     simp only [List.length_cons] at hn
     cases hx : txtB t with
     | none => rw [hx] at h; cases h
     | some p =>
      obtain ⟨x1, r2⟩ := p
      rw [hx] at h
      simp only [Option.some.injEq, Prod.mk.injEq] at h
      rw [ih t z (by omega) hx]
      simp only [Option.some.injEq, Prod.mk.injEq]
      exact ⟨h.1, by rw [h.2]⟩
end Go.Proofs.YthjmakjhidjbaaaGreat

/-
 Layer 7, plain: tokens where more stands behind a blank, and where a source is cut ahead of a token. No program is named.
-/
namespace Go.Proofs.YthjmakjhidjbaaaGreat
set_option linter.unusedVariables false
set_option maxHeartbeats 1000000

variable {W : LexW}
/-- What stands behind begins with a blank, or nothing does. -/
def GapZ (z : List UInt8) : Prop := ∀ c x, z = c :: x → blankB c = true
theorem blank_name {c : UInt8} (h : blankB c = true) : nameB c = false := by
 unfold blankB at h
 simp only [Bool.or_eq_true, beq_iff_eq] at h
 rcases h with ((rfl | rfl) | rfl) | rfl <;> rfl
theorem take_gap {z : List UInt8} (hz : GapZ z) : ∀ l : List UInt8, (l ++ z).takeWhile nameB = l.takeWhile nameB ∧ (l ++ z).dropWhile nameB = l.dropWhile nameB ++ z
 | [] => by
  cases z with
  | nil => exact ⟨rfl, rfl⟩
  | cons c x =>
   have := blank_name (hz c x rfl)
   simp [this]
 | a :: l => by
  obtain ⟨h1, h2⟩ := take_gap hz l
  rw [List.cons_append, List.takeWhile_cons, List.takeWhile_cons, List.dropWhile_cons, List.dropWhile_cons]
  cases nameB a with
  | true => simp [h1, h2]
  | false => simp
theorem drop_len (l : List UInt8) : (l.dropWhile nameB).length ≤ l.length := by
 induction l with
 | nil => simp
 | cons a l ih =>
  rw [List.dropWhile_cons]
  split
  ·simp; omega
  ·simp
theorem take_cut : ∀ (l : List UInt8) {r z : List UInt8}, (l ++ z).dropWhile nameB = r ++ z → (l ++ z).takeWhile nameB = l.takeWhile nameB ∧ l.dropWhile nameB = r
 | [], r, z, h => by
  rw [List.nil_append] at h
  have hl := drop_len z
  rw [h, List.length_append] at hl
  have hr : r = [] := List.length_eq_zero_iff.1 (by omega)
  subst hr
  refine ⟨?_, rfl⟩
  rw [List.nil_append] at h ⊢
  cases z with
  | nil => rfl
  | cons c x =>
   rw [List.dropWhile_cons] at h
   rw [List.takeWhile_cons]
   cases hc : nameB c with
   | false => rfl
   | true =>
    rw [hc] at h
    simp only [if_true] at h
    have := drop_len x
    rw [h] at this
    simp at this
    omega
 | a :: l, r, z, h => by
  rw [List.cons_append, List.dropWhile_cons] at h
  rw [List.cons_append, List.takeWhile_cons, List.takeWhile_cons, List.dropWhile_cons]
  cases ha : nameB a with
  | true =>
   rw [ha] at h
   simp only [if_true] at h ⊢
   obtain ⟨h1, h2⟩ := take_cut l h
   exact ⟨by rw [h1], h2⟩
  | false =>
   rw [ha] at h
   simp only [Bool.false_eq_true, if_false] at h ⊢
   exact ⟨trivial, List.append_cancel_right (by rw [List.cons_append]; exact h)⟩
theorem prefix_gap {s l z : List UInt8} (hz : GapZ z) (hs : ∀ c, c ∈ s → blankB c = false) : s.isPrefixOf (l ++ z) = s.isPrefixOf l := by
 by_cases h : s <+: l
 ·have h2 : s <+: l ++ z := h.trans (List.prefix_append l z)
  rw [List.isPrefixOf_iff_prefix.2 h, List.isPrefixOf_iff_prefix.2 h2]
 ·have h2 : ¬ s <+: l ++ z := fun c => h (by
   by_cases hl : s.length ≤ l.length
   ·exact List.prefix_of_prefix_length_le c (List.prefix_append l z) hl
   ·exfalso
    cases z with
    | nil => rw [List.append_nil] at c; exact h c
    | cons b x =>
     have hb := hz b x rfl
     obtain ⟨t, ht⟩ := c
     have hm : b ∈ s := by
      have e : (l ++ b :: x)[l.length]? = some b := by simp
      rw [← ht, List.getElem?_append_left (by omega)] at e
      exact List.mem_of_getElem? e
     rw [hs b hm] at hb
     cases hb)
  have e1 : s.isPrefixOf l = false := by cases e : s.isPrefixOf l; rfl; exact absurd (List.isPrefixOf_iff_prefix.1 e) h
  have e2 : s.isPrefixOf (l ++ z) = false := by cases e : s.isPrefixOf (l ++ z); rfl; exact absurd (List.isPrefixOf_iff_prefix.1 e) h2
  rw [e1, e2]
theorem find_congr {p q : List UInt8 → Bool} : ∀ (L : List (List UInt8)), (∀ s, s ∈ L → p s = q s) → L.find? p = L.find? q
 | [], _ => rfl
 | a :: L, h => by
  rw [List.find?_cons, List.find?_cons, h a List.mem_cons_self, find_congr L (fun s hs => h s (List.mem_cons_of_mem _ hs))]
/-- A token where a blank, or nothing, stands behind. -/
theorem tok_gap (hW : SignsOk W) {l r z : List UInt8} {t : Tk} (hz : GapZ z) (h : tokAt W l = .ok (t, r)) : tokAt W (l ++ z) = .ok (t, r ++ z) := by
 cases l with
 | nil => cases h
 | cons c x =>
  obtain ⟨h1, h2⟩ := take_gap hz (c :: x)
  have hpre : W.signs.find? (fun s => s.isPrefixOf (c :: x ++ z)) = W.signs.find? (fun s => s.isPrefixOf (c :: x)) := find_congr _ (fun s hs => prefix_gap hz (fun b hb => (hW.plain s hs b hb).1))
  rw [List.cons_append] at h1 h2 hpre ⊢
  unfold tokAt at h ⊢
  simp only at h ⊢
  rw [h1, h2, hpre]
  by_cases c1 : (smallB c || greatB c) = true
  ·rw [if_pos c1] at h ⊢
   simp only [Except.ok.injEq, Prod.mk.injEq] at h ⊢
   exact ⟨h.1, by rw [h.2]⟩
  ·rw [if_neg c1] at h ⊢
   by_cases c2 : digitB c = true
   ·rw [if_pos c2] at h ⊢
    by_cases c3 : (W.num (List.takeWhile nameB (c :: x))).2 = 5
    ·rw [if_pos c3] at h; cases h
    ·rw [if_neg c3] at h ⊢
     by_cases c4 : (W.num (List.takeWhile nameB (c :: x))).2 ≠ 0
     ·rw [if_pos c4] at h; cases h
     ·rw [if_neg c4] at h ⊢
      simp only [Except.ok.injEq, Prod.mk.injEq] at h ⊢
      exact ⟨h.1, by rw [h.2]⟩
   ·rw [if_neg c2] at h ⊢
    by_cases c3 : c = 34
    ·rw [if_pos c3] at h ⊢
     cases hx : txtB x with
     | none => rw [hx] at h; cases h
     | some p =>
      obtain ⟨y, r2⟩ := p
      rw [hx] at h
      rw [txtB_app x.length x z (Nat.le_refl _) hx]
      simp only [Except.ok.injEq, Prod.mk.injEq] at h ⊢
      exact ⟨h.1, by rw [h.2]⟩
    ·rw [if_neg c3] at h ⊢
     cases hx : W.signs.find? (fun s => s.isPrefixOf (c :: x)) with
     | none => rw [hx] at h; cases h
     | some s =>
      rw [hx] at h
      simp only [Except.ok.injEq, Prod.mk.injEq] at h ⊢
      refine ⟨h.1, ?_⟩
      have hp0 : s.isPrefixOf (c :: x) = true := List.find?_some (p := fun (s : List UInt8) => s.isPrefixOf (c :: x)) hx
      have hp := List.isPrefixOf_iff_prefix.1 hp0
      rw [← h.2, ← List.cons_append, List.drop_append_of_le_length hp.length_le]
/-- Two sources with a blank between them. -/
theorem lexes_join (hW : SignsOk W) {a b : List UInt8} {c : UInt8} {ts us : List (Tk × Nat)} (h : Lexes W a ts) (hc : blankB c = true) (hb : Lexes W b us) : Lexes W (a ++ c :: b) (ts.map (fun p => (p.1, p.2 + (b.length + 1))) ++ us) := by
 induction h with
 | nil => exact Lexes.blank hc hb
 | blank hc' h ih => exact Lexes.blank hc' ih
 | comment hs h ih => exact Lexes.comment (skipC_app _ _ _ hs) ih
 | @tok l r t ts hb' hn ht h ih =>
  have hz : GapZ (c :: b) := fun d x e => by cases e; exact hc
  have hne : l ≠ [] := fun e => by subst e; cases ht
  rw [List.map_cons, List.cons_append]
  have e : l.length + (b.length + 1) = (l ++ c :: b).length := by simp
  rw [e]
  refine Lexes.tok (fun d x e2 => ?_) (fun x e2 => ?_) (tok_gap hW hz ht) ih
  ·cases l with
   | nil => exact absurd rfl hne
   | cons d1 x1 => cases e2; exact hb' _ _ rfl
  ·match l, hne, hn, e2 with
   | [d], _, _, e2 =>
    simp only [List.cons_append, List.nil_append, List.cons.injEq] at e2
    rw [e2.2.1] at hc
    cases hc
   | d :: d' :: y, _, hn, e2 =>
    simp only [List.cons_append, List.cons.injEq] at e2
    exact hn y (by rw [e2.1, e2.2.1])
theorem skipC_len : ∀ (l : List UInt8) (d : Nat) {r : List UInt8}, skipC d l = some r → r.length + 2 ≤ l.length
 | [], d, r, h => by simp [skipC] at h
 | [c], d, r, h => by simp [skipC] at h
 | a :: b :: l, d, r, h => by
  unfold skipC at h
  by_cases c1 : a = 42 ∧ b = 41
  ·rw [if_pos c1] at h
   cases d with
   | zero => simp only [Option.some.injEq] at h; rw [← h]; simp
   | succ d => have := skipC_len l d h; simp; omega
  ·rw [if_neg c1] at h
   by_cases c2 : a = 40 ∧ b = 42
   ·rw [if_pos c2] at h; have := skipC_len l (d + 1) h; simp; omega
   ·rw [if_neg c2] at h; have := skipC_len (b :: l) d h; simp at this ⊢; omega
theorem skipC_cut : ∀ (l : List UInt8) (d : Nat) {r z : List UInt8}, skipC d (l ++ z) = some (r ++ z) → skipC d l = some r
 | [], d, r, z, h => by
  have := skipC_len _ _ h
  simp at this
  omega
 | [c], d, r, z, h => by
  have := skipC_len _ _ h
  simp at this
  omega
 | a :: b :: l, d, r, z, h => by
  rw [List.cons_append, List.cons_append] at h
  unfold skipC at h ⊢
  by_cases c1 : a = 42 ∧ b = 41
  ·rw [if_pos c1] at h ⊢
   cases d with
   | zero => simp only [Option.some.injEq] at h ⊢; exact List.append_cancel_right h
   | succ d => exact skipC_cut l d h
  ·rw [if_neg c1] at h ⊢
   by_cases c2 : a = 40 ∧ b = 42
   ·rw [if_pos c2] at h ⊢; exact skipC_cut l (d + 1) h
   ·rw [if_neg c2] at h ⊢; exact skipC_cut (b :: l) d h
/-- A form ends within what it stands in. -/
theorem formB_cut {l q z : List UInt8} {c : UInt8} (h : formB (l ++ z) = some (c, q)) (hq : z.length ≤ q.length) : ∃ r, q = r ++ z ∧ formB l = some (c, r) := by
 cases l with
 | nil =>
  have := formB_len h
  simp at this
  omega
 | cons a l =>
  rw [List.cons_append, formB_cons] at h
  by_cases c1 : a = 34 ∨ a = 92
  ·rw [if_pos c1] at h
   simp only [Option.some.injEq, Prod.mk.injEq] at h
   exact ⟨l, h.2.symm, by rw [formB_cons, if_pos c1, h.1]⟩
  ·rw [if_neg c1] at h
   by_cases c2 : a = 110
   ·rw [if_pos c2] at h
    simp only [Option.some.injEq, Prod.mk.injEq] at h
    exact ⟨l, h.2.symm, by rw [formB_cons, if_neg c1, if_pos c2, h.1]⟩
   ·rw [if_neg c2] at h
    by_cases c3 : a = 116
    ·rw [if_pos c3] at h
     simp only [Option.some.injEq, Prod.mk.injEq] at h
     exact ⟨l, h.2.symm, by rw [formB_cons, if_neg c1, if_neg c2, if_pos c3, h.1]⟩
    ·rw [if_neg c3] at h
     by_cases c4 : a = 120
     ·rw [if_pos c4] at h
      have key : ∀ m : List UInt8, (match m with | x :: y :: r => (match hexB x, hexB y with | some a, some b => some (a * 16 + b, r) | _, _ => none) | _ => none) = some (c, q) → ∃ x y, m = x :: y :: q ∧ ∃ p p', hexB x = some p ∧ hexB y = some p' ∧ p * 16 + p' = c := by
       intro m hm
       match m, hm with
       | x :: y :: r, hm =>
        have hm' : (match hexB x, hexB y with | some a, some b => some (a * 16 + b, r) | _, _ => none) = some (c, q) := hm
        cases hx : hexB x with
        | none => rw [hx] at hm'; cases hm'
        | some p =>
         cases hy : hexB y with
         | none => rw [hx, hy] at hm'; cases hm'
         | some p' =>
          rw [hx, hy] at hm'
          simp only [Option.some.injEq, Prod.mk.injEq] at hm'
          exact ⟨x, y, by rw [hm'.2], p, p', hx, hy, hm'.1⟩
       | [x], hm => cases hm
       | [], hm => cases hm
      obtain ⟨x, y, e, p, p', hx, hy, hc⟩ := key _ h
      match l, e with
      | x' :: y' :: r, e2 =>
       simp only [List.cons_append, List.cons.injEq] at e2
       obtain ⟨f1, f2, f3⟩ := e2
       rw [← f1] at hx
       rw [← f2] at hy
       refine ⟨r, f3.symm, ?_⟩
       rw [formB_cons, if_neg c1, if_neg c2, if_neg c3, if_pos c4]
       show (match hexB x', hexB y' with | some a, some b => some (a * 16 + b, r) | _, _ => none) = _
       rw [hx, hy, ← hc]
      | [x'], e2 =>
       exfalso
       have := congrArg List.length e2
       simp at this
       omega
      | [], e2 =>
       exfalso
       have := congrArg List.length e2
       simp at this
       omega
     ·rw [if_neg c4] at h; cases h
theorem txtB_len : ∀ (n : Nat) (l : List UInt8) {x r : List UInt8}, l.length ≤ n → txtB l = some (x, r) → r.length < l.length := by
 intro n
 induction n with
 | zero =>
  intro l x r hn h
  have : l = [] := List.length_eq_zero_iff.1 (by omega)
  subst this
  simp [txtB] at h
 | succ n ih =>
  intro l x r hn h
  cases l with
  | nil => simp [txtB] at h
  | cons c t =>
   simp only [List.length_cons] at hn ⊢
   rw [txtB] at h
   by_cases c1 : c = 34
   ·rw [if_pos c1] at h; simp only [Option.some.injEq, Prod.mk.injEq] at h; rw [← h.2]; omega
   ·rw [if_neg c1] at h
    by_cases c2 : c = 92
    ·rw [if_pos c2] at h
     split at h
     ·rename_i b r1 hf
      have hlen := formB_len hf
      cases hx : txtB r1 with
      | none => rw [hx] at h; cases h
      | some p =>
       obtain ⟨x1, r2⟩ := p
       rw [hx] at h
       simp only [Option.some.injEq, Prod.mk.injEq] at h
       have := ih r1 (by omega) hx
       rw [← h.2]; omega
     ·cases h
    ·rw [if_neg c2] at h
     cases hx : txtB t with
     | none => rw [hx] at h; cases h
     | some p =>
      obtain ⟨x1, r2⟩ := p
      rw [hx] at h
      simp only [Option.some.injEq, Prod.mk.injEq] at h
      have := ih t (by omega) hx
      rw [← h.2]; omega
theorem txtB_cut : ∀ (n : Nat) (l : List UInt8) {x r z : List UInt8}, l.length ≤ n → txtB (l ++ z) = some (x, r ++ z) → txtB l = some (x, r) := by
 intro n
 induction n with
 | zero =>
  intro l x r z hn h
  have : l = [] := List.length_eq_zero_iff.1 (by omega)
  subst this
  have := txtB_len _ _ (Nat.le_refl _) h
  simp at this
  omega
 | succ n ih =>
  intro l x r z hn h
  cases l with
  | nil =>
   have := txtB_len _ _ (Nat.le_refl _) h
   simp at this
   omega
  | cons c t =>
   simp only [List.length_cons] at hn
   rw [List.cons_append, txtB] at h
   rw [txtB]
   by_cases c1 : c = 34
   ·rw [if_pos c1] at h ⊢
    simp only [Option.some.injEq, Prod.mk.injEq] at h ⊢
    exact ⟨h.1, List.append_cancel_right h.2⟩
   ·rw [if_neg c1] at h ⊢
    by_cases c2 : c = 92
    ·rw [if_pos c2] at h ⊢
     split at h
     ·rename_i b r1 hf
      cases hx : txtB r1 with
      | none => rw [hx] at h; cases h
      | some p =>
       obtain ⟨x1, r2⟩ := p
       rw [hx] at h
       simp only [Option.some.injEq, Prod.mk.injEq] at h
       have hlen := txtB_len _ _ (Nat.le_refl _) hx
       rw [h.2, List.length_append] at hlen
       obtain ⟨q, rfl, hf2⟩ := formB_cut hf (by omega)
       have hlen2 := formB_len hf2
       rw [h.2] at hx
       have h3 := ih q (by omega) hx
       split
       ·rename_i b' r' hf'
        rw [hf2] at hf'
        simp only [Option.some.injEq, Prod.mk.injEq] at hf'
        rw [← hf'.2, h3]
        simp only [Option.some.injEq, Prod.mk.injEq]
        exact ⟨by rw [← hf'.1]; exact h.1, trivial⟩
       ·rename_i hf'
        rw [hf2] at hf'; cases hf'
     ·cases h
    ·rw [if_neg c2] at h ⊢
     cases hx : txtB (t ++ z) with
     | none => rw [hx] at h; cases h
     | some p =>
      obtain ⟨x1, r2⟩ := p
      rw [hx] at h
      simp only [Option.some.injEq, Prod.mk.injEq] at h
      rw [h.2] at hx
      rw [ih t (by omega) hx]
      simp only [Option.some.injEq, Prod.mk.injEq]
      exact ⟨h.1, trivial⟩
theorem tok_len (hW : SignsOk W) {l r : List UInt8} {t : Tk} (h : tokAt W l = .ok (t, r)) : r.length < l.length := by
 cases l with
 | nil => cases h
 | cons c x =>
  have hd : nameB c = true → ((c :: x).dropWhile nameB).length < (c :: x).length := fun hc => by
   rw [List.dropWhile_cons, if_pos hc]
   have := drop_len x
   simp; omega
  unfold tokAt at h
  simp only at h
  by_cases c1 : (smallB c || greatB c) = true
  ·rw [if_pos c1] at h
   simp only [Except.ok.injEq, Prod.mk.injEq] at h
   rw [← h.2]
   exact hd (by unfold nameB; rw [c1]; rfl)
  ·rw [if_neg c1] at h
   by_cases c2 : digitB c = true
   ·rw [if_pos c2] at h
    by_cases c3 : (W.num (List.takeWhile nameB (c :: x))).2 = 5
    ·rw [if_pos c3] at h; cases h
    ·rw [if_neg c3] at h
     by_cases c4 : (W.num (List.takeWhile nameB (c :: x))).2 ≠ 0
     ·rw [if_pos c4] at h; cases h
     ·rw [if_neg c4] at h
      simp only [Except.ok.injEq, Prod.mk.injEq] at h
      rw [← h.2]
      exact hd (by unfold nameB; rw [c2]; simp)
   ·rw [if_neg c2] at h
    by_cases c3 : c = 34
    ·rw [if_pos c3] at h
     cases hx : txtB x with
     | none => rw [hx] at h; cases h
     | some p =>
      obtain ⟨y, r2⟩ := p
      rw [hx] at h
      simp only [Except.ok.injEq, Prod.mk.injEq] at h
      have := txtB_len _ _ (Nat.le_refl _) hx
      rw [← h.2]; simp; omega
    ·rw [if_neg c3] at h
     cases hx : W.signs.find? (fun s => s.isPrefixOf (c :: x)) with
     | none => rw [hx] at h; cases h
     | some s =>
      rw [hx] at h
      simp only [Except.ok.injEq, Prod.mk.injEq] at h
      have hm := hW.ne s (List.mem_of_find?_eq_some hx)
      have : 0 < s.length := List.length_pos_iff.2 hm
      rw [← h.2]; simp; omega
/-- A token of a source that is cut behind it. -/
theorem tok_cut (hW : SignsOk W) {l r z : List UInt8} {t : Tk} (h : tokAt W (l ++ z) = .ok (t, r ++ z)) : tokAt W l = .ok (t, r) := by
 cases l with
 | nil =>
  have := tok_len hW h
  simp at this
  omega
 | cons c x =>
  rw [List.cons_append] at h
  unfold tokAt at h ⊢
  simp only at h ⊢
  by_cases c1 : (smallB c || greatB c) = true
  ·rw [if_pos c1] at h ⊢
   simp only [Except.ok.injEq, Prod.mk.injEq] at h ⊢
   obtain ⟨h1, h2⟩ := take_cut (c :: x) (r := r) (z := z) (by rw [List.cons_append]; exact h.2)
   rw [List.cons_append] at h1
   rw [h1] at h
   exact ⟨h.1, h2⟩
  ·rw [if_neg c1] at h ⊢
   by_cases c2 : digitB c = true
   ·rw [if_pos c2] at h ⊢
    by_cases c3 : (W.num (List.takeWhile nameB (c :: (x ++ z)))).2 = 5
    ·rw [if_pos c3] at h; cases h
    ·rw [if_neg c3] at h
     by_cases c4 : (W.num (List.takeWhile nameB (c :: (x ++ z)))).2 ≠ 0
     ·rw [if_pos c4] at h; cases h
     ·rw [if_neg c4] at h
      simp only [Except.ok.injEq, Prod.mk.injEq] at h ⊢
      obtain ⟨h1, h2⟩ := take_cut (c :: x) (r := r) (z := z) (by rw [List.cons_append]; exact h.2)
      rw [List.cons_append] at h1
      rw [h1] at h c3 c4
      rw [if_neg c3, if_neg c4]
      simp only [Except.ok.injEq, Prod.mk.injEq]
      exact ⟨h.1, h2⟩
   ·rw [if_neg c2] at h ⊢
    by_cases c3 : c = 34
    ·rw [if_pos c3] at h ⊢
     cases hx : txtB (x ++ z) with
     | none => rw [hx] at h; cases h
     | some p =>
      obtain ⟨y, r2⟩ := p
      rw [hx] at h
      simp only [Except.ok.injEq, Prod.mk.injEq] at h
      rw [h.2] at hx
      rw [txtB_cut _ x (Nat.le_refl _) hx]
      simp only [Except.ok.injEq, Prod.mk.injEq]
      exact ⟨h.1, trivial⟩
    ·rw [if_neg c3] at h ⊢
     cases hx : W.signs.find? (fun s => s.isPrefixOf (c :: (x ++ z))) with
     | none => rw [hx] at h; cases h
     | some s =>
      rw [hx] at h
      simp only [Except.ok.injEq, Prod.mk.injEq] at h
      have hp0 : s.isPrefixOf (c :: (x ++ z)) = true := List.find?_some (p := fun (s : List UInt8) => s.isPrefixOf (c :: (x ++ z))) hx
      have hp := List.isPrefixOf_iff_prefix.1 hp0
      have hlen : s.length ≤ (c :: x).length := by
       have e := congrArg List.length h.2
       rw [List.length_drop, List.length_append] at e
       have := hp.length_le
       simp at e this ⊢
       omega
      have hps : s <+: c :: x := List.prefix_of_prefix_length_le hp (by rw [← List.cons_append]; exact List.prefix_append _ _) hlen
      have hf : W.signs.find? (fun s => s.isPrefixOf (c :: x)) = some s := by
       rw [List.find?_eq_some_iff_append] at hx ⊢
       obtain ⟨h1, as, bs, h2, h3⟩ := hx
       refine ⟨List.isPrefixOf_iff_prefix.2 hps, as, bs, h2, fun a ha => ?_⟩
       have h4 := h3 a ha
       cases e : a.isPrefixOf (c :: x) with
       | false => rfl
       | true =>
        have : a <+: c :: (x ++ z) := (List.isPrefixOf_iff_prefix.1 e).trans (by rw [← List.cons_append]; exact List.prefix_append _ _)
        rw [List.isPrefixOf_iff_prefix.2 this] at h4
        cases h4
      rw [hf]
      simp only [Except.ok.injEq, Prod.mk.injEq]
      refine ⟨h.1, ?_⟩
      have e := h.2
      rw [← List.cons_append, List.drop_append_of_le_length hlen] at e
      exact List.append_cancel_right e
end Go.Proofs.YthjmakjhidjbaaaGreat

/-
 Layer 7, plain: a source that is cut ahead of a token; a source has one list of tokens; the function that reads them. No program is named.
-/
namespace Go.Proofs.YthjmakjhidjbaaaGreat
set_option linter.unusedVariables false
set_option maxHeartbeats 1000000

variable {W : LexW}
theorem skipC_suf : ∀ (l : List UInt8) (d : Nat) {r : List UInt8}, skipC d l = some r → r <:+ l
 | [], d, r, h => by simp [skipC] at h
 | [c], d, r, h => by simp [skipC] at h
 | a :: b :: l, d, r, h => by
  unfold skipC at h
  have e2 : l <:+ a :: b :: l := ⟨[a, b], rfl⟩
  have e1 : b :: l <:+ a :: b :: l := ⟨[a], rfl⟩
  by_cases c1 : a = 42 ∧ b = 41
  ·rw [if_pos c1] at h
   cases d with
   | zero => simp only [Option.some.injEq] at h; rw [← h]; exact e2
   | succ d => exact (skipC_suf l d h).trans e2
  ·rw [if_neg c1] at h
   by_cases c2 : a = 40 ∧ b = 42
   ·rw [if_pos c2] at h; exact (skipC_suf l (d + 1) h).trans e2
   ·rw [if_neg c2] at h; exact (skipC_suf (b :: l) d h).trans e1
theorem formB_suf {l r : List UInt8} {c : UInt8} (h : formB l = some (c, r)) : r <:+ l := by
 obtain ⟨q, e, _⟩ := formB_cut (l := l) (z := []) (by rw [List.append_nil]; exact h) (Nat.zero_le _)
 cases l with
 | nil => cases h
 | cons a l =>
  rw [formB_cons] at h
  have e1 : l <:+ a :: l := ⟨[a], rfl⟩
  by_cases c1 : a = 34 ∨ a = 92
  ·rw [if_pos c1] at h; simp only [Option.some.injEq, Prod.mk.injEq] at h; rw [← h.2]; exact e1
  ·rw [if_neg c1] at h
   by_cases c2 : a = 110
   ·rw [if_pos c2] at h; simp only [Option.some.injEq, Prod.mk.injEq] at h; rw [← h.2]; exact e1
   ·rw [if_neg c2] at h
    by_cases c3 : a = 116
    ·rw [if_pos c3] at h; simp only [Option.some.injEq, Prod.mk.injEq] at h; rw [← h.2]; exact e1
    ·rw [if_neg c3] at h
     by_cases c4 : a = 120
     ·rw [if_pos c4] at h
      match l, h with
      | x :: y :: m, h =>
       have h' : (match hexB x, hexB y with | some a, some b => some (a * 16 + b, m) | _, _ => none) = some (c, r) := h
       cases hx : hexB x with
       | none => rw [hx] at h'; cases h'
       | some p =>
        cases hy : hexB y with
        | none => rw [hx, hy] at h'; cases h'
        | some p' =>
         rw [hx, hy] at h'
         simp only [Option.some.injEq, Prod.mk.injEq] at h'
         rw [← h'.2]
         exact ⟨[a, x, y], rfl⟩
      | [x], h => cases h
      | [], h => cases h
     ·rw [if_neg c4] at h; cases h
theorem txtB_suf : ∀ (n : Nat) (l : List UInt8) {x r : List UInt8}, l.length ≤ n → txtB l = some (x, r) → r <:+ l := by
 intro n
 induction n with
 | zero =>
  intro l x r hn h
  have : l = [] := List.length_eq_zero_iff.1 (by omega)
  subst this
  simp [txtB] at h
 | succ n ih =>
  intro l x r hn h
  cases l with
  | nil => simp [txtB] at h
  | cons c t =>
   have e1 : t <:+ c :: t := ⟨[c], rfl⟩
   simp only [List.length_cons] at hn
   rw [txtB] at h
   by_cases c1 : c = 34
   ·rw [if_pos c1] at h; simp only [Option.some.injEq, Prod.mk.injEq] at h; rw [← h.2]; exact e1
   ·rw [if_neg c1] at h
    by_cases c2 : c = 92
    ·rw [if_pos c2] at h
     split at h
     ·rename_i b r1 hf
      have hlen := formB_len hf
      cases hx : txtB r1 with
      | none => rw [hx] at h; cases h
      | some p =>
       obtain ⟨x1, r2⟩ := p
       rw [hx] at h
       simp only [Option.some.injEq, Prod.mk.injEq] at h
       rw [← h.2]
       exact ((ih r1 (by omega) hx).trans (formB_suf hf)).trans e1
     ·cases h
    ·rw [if_neg c2] at h
     cases hx : txtB t with
     | none => rw [hx] at h; cases h
     | some p =>
      obtain ⟨x1, r2⟩ := p
      rw [hx] at h
      simp only [Option.some.injEq, Prod.mk.injEq] at h
      rw [← h.2]
      exact (ih t (by omega) hx).trans e1
theorem tok_suf {l r : List UInt8} {t : Tk} (h : tokAt W l = .ok (t, r)) : r <:+ l := by
 cases l with
 | nil => cases h
 | cons c x =>
  unfold tokAt at h
  simp only at h
  by_cases c1 : (smallB c || greatB c) = true
  ·rw [if_pos c1] at h
   simp only [Except.ok.injEq, Prod.mk.injEq] at h
   rw [← h.2]
   exact List.dropWhile_suffix _
  ·rw [if_neg c1] at h
   by_cases c2 : digitB c = true
   ·rw [if_pos c2] at h
    by_cases c3 : (W.num (List.takeWhile nameB (c :: x))).2 = 5
    ·rw [if_pos c3] at h; cases h
    ·rw [if_neg c3] at h
     by_cases c4 : (W.num (List.takeWhile nameB (c :: x))).2 ≠ 0
     ·rw [if_pos c4] at h; cases h
     ·rw [if_neg c4] at h
      simp only [Except.ok.injEq, Prod.mk.injEq] at h
      rw [← h.2]
      exact List.dropWhile_suffix _
   ·rw [if_neg c2] at h
    by_cases c3 : c = 34
    ·rw [if_pos c3] at h
     cases hx : txtB x with
     | none => rw [hx] at h; cases h
     | some p =>
      obtain ⟨y, r2⟩ := p
      rw [hx] at h
      simp only [Except.ok.injEq, Prod.mk.injEq] at h
      rw [← h.2]
      exact (txtB_suf _ _ (Nat.le_refl _) hx).trans ⟨[c], rfl⟩
    ·rw [if_neg c3] at h
     cases hx : W.signs.find? (fun s => s.isPrefixOf (c :: x)) with
     | none => rw [hx] at h; cases h
     | some s =>
      rw [hx] at h
      simp only [Except.ok.injEq, Prod.mk.injEq] at h
      rw [← h.2]
      exact List.drop_suffix _ _
/-- Places fall, from the front. -/
theorem lexes_le (hW : SignsOk W) {l : List UInt8} {ts : List (Tk × Nat)} (h : Lexes W l ts) : ∀ p, p ∈ ts → 0 < p.2 ∧ p.2 ≤ l.length := by
 induction h with
 | nil => intro p hp; cases hp
 | blank hc h ih => intro p hp; have := ih p hp; simp; omega
 | comment hs h ih => intro p hp; have := ih p hp; have := skipC_len _ _ hs; simp; omega
 | @tok l r t ts hb hn ht h ih =>
  have hlen := tok_len hW ht
  intro p hp
  rcases List.mem_cons.1 hp with rfl | hp
  ·simp only; omega
  ·have := ih p hp; omega
theorem suf_of {a z r l : List UInt8} (e : l = a ++ z) (h : r <:+ l) (hl : z.length ≤ r.length) : ∃ q, r = q ++ z := by
 have h2 : z <:+ r := List.suffix_of_suffix_length_le (e ▸ List.suffix_append a z) h hl
 obtain ⟨q, hq⟩ := h2
 exact ⟨q, hq.symm⟩
/-- A source that is cut ahead of a token. -/
theorem lexes_cut (hW : SignsOk W) {l : List UInt8} {ts : List (Tk × Nat)} (h : Lexes W l ts) : ∀ {a z : List UInt8} {ts1 ts2 : List (Tk × Nat)} {t : Tk}, l = a ++ z → ts = ts1 ++ (t, z.length) :: ts2 → Lexes W a (ts1.map (fun p => (p.1, p.2 - z.length))) ∧ Lexes W z ((t, z.length) :: ts2) := by
 induction h with
 | nil => intro a z ts1 ts2 t e e2; simp at e2
 | @blank c l ts hc h ih =>
  intro a z ts1 ts2 t e e2
  have hz := lexes_le hW h (t, z.length) (by rw [e2]; simp)
  cases a with
  | nil => rw [List.nil_append] at e; rw [← e] at hz; simp at hz; omega
  | cons c' a =>
   simp only [List.cons_append, List.cons.injEq] at e
   obtain ⟨rfl, e⟩ := e
   obtain ⟨h1, h2⟩ := ih e e2
   exact ⟨Lexes.blank hc h1, h2⟩
 | @comment l r ts hs h ih =>
  intro a z ts1 ts2 t e e2
  have hz := lexes_le hW h (t, z.length) (by rw [e2]; simp)
  have hlen := skipC_len _ _ hs
  simp only at hz
  match a, e with
  | [], e => have := congrArg List.length e; simp at this; omega
  | [c], e => have := congrArg List.length e; simp at this; omega
  | c :: c' :: a, e =>
   simp only [List.cons_append, List.cons.injEq] at e
   obtain ⟨rfl, rfl, e⟩ := e
   obtain ⟨q, hq⟩ := suf_of e (skipC_suf _ _ hs) hz.2
   obtain ⟨h1, h2⟩ := ih hq e2
   rw [e, hq] at hs
   exact ⟨Lexes.comment (skipC_cut _ _ hs) h1, h2⟩
 | @tok l r t0 ts hb hn ht h ih =>
  intro a z ts1 ts2 t e e2
  cases ts1 with
  | nil =>
   simp only [List.nil_append, List.cons.injEq, Prod.mk.injEq] at e2
   obtain ⟨⟨rfl, e3⟩, rfl⟩ := e2
   have ha : a = [] := List.length_eq_zero_iff.1 (by have := congrArg List.length e; rw [List.length_append] at this; omega)
   subst ha
   rw [List.nil_append] at e
   subst e
   exact ⟨Lexes.nil, Lexes.tok hb hn ht h⟩
  | cons p ts1 =>
   simp only [List.cons_append, List.cons.injEq] at e2
   obtain ⟨rfl, e2⟩ := e2
   have hz := lexes_le hW h (t, z.length) (by rw [e2]; simp)
   have hlen := tok_len hW ht
   simp only at hz
   obtain ⟨q, hq⟩ := suf_of e (tok_suf ht) hz.2
   obtain ⟨h1, h2⟩ := ih hq e2
   have hll := congrArg List.length e
   rw [List.length_append] at hll
   refine ⟨?_, h2⟩
   rw [e, hq] at ht
   rw [List.map_cons]
   have ea : l.length - z.length = a.length := by omega
   simp only [ea]
   refine Lexes.tok (fun c x ec => hb c (x ++ z) (by rw [e, ec]; rfl)) (fun x ec => hn (x ++ z) (by rw [e, ec]; rfl)) (tok_cut hW ht) h1
end Go.Proofs.YthjmakjhidjbaaaGreat

/-
 Layer 7, plain: the function that reads a source's tokens, or tells what is wrong first, and where. No program is named.
-/
namespace Go.Proofs.YthjmakjhidjbaaaGreat
set_option linter.unusedVariables false
set_option maxHeartbeats 1000000

variable {W : LexW}
/-- Does a comment begin there? -/
def opensC (l : List UInt8) : Bool := match l with | 40 :: 42 :: _ => true | _ => false
/-- All tokens, each with how much of the source stands from its first byte on; or what is wrong, and how much stands from that place on. -/
def lexF (W : LexW) : Nat → List UInt8 → Except (Int × Nat) (List (Tk × Nat))
 | 0, _ => .error (0, 0)
 | _ + 1, [] => .ok []
 | n + 1, c :: x =>
  if blankB c then lexF W n x
  else if opensC (c :: x) then (match skipC 0 (x.drop 1) with | none => .error (20, (c :: x).length) | some r => lexF W n r)
  else (match tokAt W (c :: x) with
   | .error e => .error (e, (c :: x).length)
   | .ok (t, r) => (match lexF W n r with | .error e => .error e | .ok ts => .ok ((t, (c :: x).length) :: ts)))
theorem opens_is {l : List UInt8} (h : opensC l = true) : ∃ x, l = 40 :: 42 :: x := by
 unfold opensC at h
 split at h
 ·exact ⟨_, rfl⟩
 ·cases h
theorem opens_not {l : List UInt8} (h : opensC l = false) : ∀ x, l ≠ 40 :: 42 :: x := by
 rintro x rfl
 cases h
theorem lexF_lexes : ∀ (n : Nat) (l : List UInt8) {ts : List (Tk × Nat)}, lexF W n l = .ok ts → Lexes W l ts
 | 0, l, ts, h => by cases h
 | n + 1, [], ts, h => by
  simp only [lexF, Except.ok.injEq] at h
  rw [← h]; exact Lexes.nil
 | n + 1, c :: x, ts, h => by
  unfold lexF at h
  by_cases c1 : blankB c = true
  ·rw [if_pos c1] at h; exact Lexes.blank c1 (lexF_lexes n x h)
  ·rw [if_neg c1] at h
   by_cases c2 : opensC (c :: x) = true
   ·rw [if_pos c2] at h
    obtain ⟨y, e⟩ := opens_is c2
    simp only [List.cons.injEq] at e
    obtain ⟨rfl, rfl⟩ := e
    simp only [List.drop_succ_cons, List.drop_zero] at h
    cases hs : skipC 0 y with
    | none => rw [hs] at h; cases h
    | some r => rw [hs] at h; exact Lexes.comment hs (lexF_lexes n r h)
   ·rw [if_neg c2] at h
    cases ht : tokAt W (c :: x) with
    | error e => rw [ht] at h; cases h
    | ok p =>
     obtain ⟨t, r⟩ := p
     rw [ht] at h
     simp only at h
     cases hr : lexF W n r with
     | error e => rw [hr] at h; cases h
     | ok us =>
      rw [hr] at h
      simp only [Except.ok.injEq] at h
      rw [← h]
      refine Lexes.tok (fun d y e => ?_) (opens_not (by simpa using c2)) ht (lexF_lexes n r hr)
      cases e
      simpa using c1
theorem lexes_lexF (hW : SignsOk W) {l : List UInt8} {ts : List (Tk × Nat)} (h : Lexes W l ts) : ∀ n, l.length < n → lexF W n l = .ok ts := by
 induction h with
 | nil => intro n hn; obtain ⟨m, rfl⟩ : ∃ m, n = m + 1 := ⟨n - 1, by simp at hn; omega⟩; rfl
 | @blank c l ts hc h ih =>
  intro n hn
  obtain ⟨m, rfl⟩ : ∃ m, n = m + 1 := ⟨n - 1, by omega⟩
  unfold lexF
  rw [if_pos hc]
  exact ih m (by simp at hn; omega)
 | @comment l r ts hs h ih =>
  intro n hn
  obtain ⟨m, rfl⟩ : ∃ m, n = m + 1 := ⟨n - 1, by omega⟩
  have := skipC_len _ _ hs
  unfold lexF
  rw [if_neg (by decide), if_pos (show opensC (40 :: 42 :: l) = true from rfl)]
  simp only [List.drop_succ_cons, List.drop_zero]
  rw [hs]
  exact ih m (by simp at hn; omega)
 | @tok l r t ts hb hn' ht h ih =>
  intro n hn
  obtain ⟨m, rfl⟩ : ∃ m, n = m + 1 := ⟨n - 1, by omega⟩
  have hlen := tok_len hW ht
  cases l with
  | nil => cases ht
  | cons c x =>
   unfold lexF
   have h1 := hb c x rfl
   have h2 : opensC (c :: x) = false := by
    cases e : opensC (c :: x) with
    | false => rfl
    | true => obtain ⟨y, e2⟩ := opens_is e; exact absurd e2 (hn' y)
   rw [if_neg (by rw [h1]; decide), if_neg (by rw [h2]; decide), ht]
   simp only
   rw [ih m (by omega)]
/-- A source has one list of tokens. -/
theorem lexes_one (hW : SignsOk W) {l : List UInt8} {ts us : List (Tk × Nat)} (h : Lexes W l ts) (h' : Lexes W l us) : ts = us := by
 have h1 := lexes_lexF hW h (l.length + 1) (Nat.lt_succ_self _)
 have h2 := lexes_lexF hW h' (l.length + 1) (Nat.lt_succ_self _)
 rw [h1] at h2
 simpa using h2
end Go.Proofs.YthjmakjhidjbaaaGreat
