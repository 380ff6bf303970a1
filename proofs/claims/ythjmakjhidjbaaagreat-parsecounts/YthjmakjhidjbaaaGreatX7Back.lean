/-
 Layer 7, plain: a comment more between two tokens; tokens' texts, with a blank behind each, are read as these tokens. No program is named.
-/
import Derived.Test.YthjmakjhidjbaaaGreatLibAA
namespace Go.Proofs.YthjmakjhidjbaaaGreat
set_option linter.unusedVariables false
set_option maxHeartbeats 1000000

variable {W : LexW}
/-- No mark of a comment stands in it. -/
def noMarks : List UInt8 → Bool
 | a :: b :: l => !(a == 42 && b == 41) && !(a == 40 && b == 42) && noMarks (b :: l)
 | _ => true
theorem skipC_says : ∀ (l : List UInt8) (r : List UInt8), noMarks l = true → skipC 0 (l ++ 32 :: 42 :: 41 :: r) = some r
 | [], r, _ => by
  rw [List.nil_append]
  unfold skipC
  rw [if_neg (by decide), if_neg (by decide)]
  unfold skipC
  rw [if_pos ⟨rfl, rfl⟩]
 | [a], r, _ => by
  rw [List.cons_append, List.nil_append]
  unfold skipC
  rw [if_neg (fun c => by cases c.2), if_neg (fun c => by cases c.2)]
  exact skipC_says [] r rfl
 | a :: b :: l, r, h => by
  simp only [noMarks, Bool.and_eq_true, Bool.not_eq_true', Bool.and_eq_false_iff, beq_eq_false_iff_ne] at h
  rw [List.cons_append, List.cons_append]
  unfold skipC
  rw [if_neg (fun c => by rcases h.1.1 with d | d; exact d c.1; exact d c.2), if_neg (fun c => by rcases h.1.2 with d | d; exact d c.1; exact d c.2)]
  exact skipC_says (b :: l) r h.2
/-- A comment more. -/
theorem lexes_gap (hW : SignsOk W) {a z say : List UInt8} {ts us : List (Tk × Nat)} (h : Lexes W a ts) (hz : Lexes W z us) (hs : noMarks (32 :: say) = true) : Lexes W (a ++ 32 :: (40 :: 42 :: (32 :: say ++ 32 :: 42 :: 41 :: 10 :: z))) (ts.map (fun p => (p.1, p.2 + (z.length + say.length + 8))) ++ us) := by
 have h1 : Lexes W (40 :: 42 :: (32 :: say ++ 32 :: 42 :: 41 :: 10 :: z)) us := Lexes.comment (skipC_says _ _ hs) (Lexes.blank rfl hz)
 have h2 := lexes_join hW (c := 32) h rfl h1
 have e : (40 :: 42 :: (32 :: say ++ 32 :: 42 :: 41 :: 10 :: z)).length + 1 = z.length + say.length + 8 := by simp; omega
 rw [e] at h2
 exact h2
/-- A digit of 0 to 9, a to f. -/
def hexD (n : UInt8) : UInt8 := if n < 10 then n + 48 else n - 10 + 97
/-- A byte as a text has it. -/
def escB (c : UInt8) : List UInt8 :=
 if c = 34 then [92, 34] else if c = 92 then [92, 92] else if c = 10 then [92, 110] else if c = 9 then [92, 116]
 else if 32 ≤ c ∧ c ≤ 126 then [c] else [92, 120, hexD (c / 16), hexD (c % 16)]
theorem all_u8 {p : UInt8 → Prop} (h : ∀ n : Fin 256, p (UInt8.ofNat n.val)) (c : UInt8) : p c := by
 have := h ⟨c.toNat, c.toNat_lt⟩
 simpa using this
theorem hex_back (c : UInt8) : hexB (hexD (c / 16)) = some (c / 16) ∧ hexB (hexD (c % 16)) = some (c % 16) ∧ (c / 16) * 16 + c % 16 = c := by
 refine all_u8 (p := fun c => hexB (hexD (c / 16)) = some (c / 16) ∧ hexB (hexD (c % 16)) = some (c % 16) ∧ (c / 16) * 16 + c % 16 = c) ?_ c
 decide +kernel
theorem esc_one (c : UInt8) (r : List UInt8) : txtB (escB c ++ r) = (match txtB r with | some (x, q) => some (c :: x, q) | none => none) := by
 obtain ⟨h1, h2, h3⟩ := hex_back c
 have key : ∀ (t q : List UInt8) (b : UInt8), formB t = some (b, q) → txtB (92 :: t) = (match txtB q with | some (x, q') => some (b :: x, q') | none => none) := by
  intro t q b hf
  rw [txtB, if_neg (by decide), if_pos rfl]
  split
  ·rename_i b' r' hf'
   rw [hf] at hf'
   simp only [Option.some.injEq, Prod.mk.injEq] at hf'
   rw [← hf'.1, ← hf'.2]
   cases txtB q <;> rfl
  ·rename_i hf'
   rw [hf] at hf'; cases hf'
 unfold escB
 by_cases c1 : c = 34
 ·rw [if_pos c1, c1]; exact key _ _ _ rfl
 ·rw [if_neg c1]
  by_cases c2 : c = 92
  ·rw [if_pos c2, c2]; exact key _ _ _ rfl
  ·rw [if_neg c2]
   by_cases c3 : c = 10
   ·rw [if_pos c3, c3]; exact key _ _ _ rfl
   ·rw [if_neg c3]
    by_cases c4 : c = 9
    ·rw [if_pos c4, c4]; exact key _ _ _ rfl
    ·rw [if_neg c4]
     by_cases c5 : 32 ≤ c ∧ c ≤ 126
     ·rw [if_pos c5]
      show txtB (c :: r) = _
      rw [txtB, if_neg c1, if_neg c2]
      cases txtB r <;> rfl
     ·rw [if_neg c5]
      refine key _ r c ?_
      show formB (120 :: hexD (c / 16) :: hexD (c % 16) :: r) = _
      rw [formB_cons, if_neg (by decide), if_neg (by decide), if_neg (by decide), if_pos rfl]
      show (match hexB (hexD (c / 16)), hexB (hexD (c % 16)) with | some a, some b => some (a * 16 + b, r) | _, _ => none) = _
      rw [h1, h2]
      show some (c / 16 * 16 + c % 16, r) = _
      rw [h3]
/-- A text's bytes as a source has them. -/
def escT (x : List UInt8) : List UInt8 := x.flatMap escB
theorem esc_all (r : List UInt8) : ∀ x : List UInt8, txtB (escT x ++ 34 :: r) = some (x, r)
 | [] => by rw [escT, List.flatMap_nil, List.nil_append, txtB, if_pos rfl]
 | c :: x => by
  have e : escT (c :: x) = escB c ++ escT x := by unfold escT; rw [List.flatMap_cons]
  rw [e, List.append_assoc, esc_one, esc_all r x]
end Go.Proofs.YthjmakjhidjbaaaGreat
