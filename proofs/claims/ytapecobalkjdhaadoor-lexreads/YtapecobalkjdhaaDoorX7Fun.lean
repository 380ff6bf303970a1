/-
  Layer 7, plain: the function that reads a source's tokens, or tells what is wrong first, and where. No program is named.
-/
import Derived.Test.YtapecobalkjdhaaDoorX7Lex
namespace Go.Proofs.YtapecobalkjdhaaDoor
set_option linter.unusedVariables false
set_option maxHeartbeats 1000000

variable {W : LexW}
/-- Does a comment begin there? -/
def opensC (l : List UInt8) : Bool := match l with | 40 :: 42 :: _ => true | _ => false
/-- All tokens, each with how much of the source stands from its first byte on; or what is wrong, and how much stands from that place on. -/
def lexF (W : LexW) : Nat → List UInt8 → Except (Int × Nat) (List (Tk × Nat))
  | 0, _ => .error (0, 0)
  | _ + 1, [] => .ok []
  | n + 1, c :: x =>
    if blankB c then lexF W n x
    else if opensC (c :: x) then (match skipC 0 (x.drop 1) with | none => .error (20, (c :: x).length) | some r => lexF W n r)
    else (match tokAt W (c :: x) with
      | .error e => .error (e, (c :: x).length)
      | .ok (t, r) => (match lexF W n r with | .error e => .error e | .ok ts => .ok ((t, (c :: x).length) :: ts)))
theorem opens_is {l : List UInt8} (h : opensC l = true) : ∃ x, l = 40 :: 42 :: x := by
  unfold opensC at h
  split at h
  · exact ⟨_, rfl⟩
  · cases h
theorem opens_not {l : List UInt8} (h : opensC l = false) : ∀ x, l ≠ 40 :: 42 :: x := by
  rintro x rfl
  cases h
theorem lexF_lexes : ∀ (n : Nat) (l : List UInt8) {ts : List (Tk × Nat)}, lexF W n l = .ok ts → Lexes W l ts
  | 0, l, ts, h => by cases h
  | n + 1, [], ts, h => by
    simp only [lexF, Except.ok.injEq] at h
    rw [← h]; exact Lexes.nil
  | n + 1, c :: x, ts, h => by
    unfold lexF at h
    by_cases c1 : blankB c = true
    · rw [if_pos c1] at h; exact Lexes.blank c1 (lexF_lexes n x h)
    · rw [if_neg c1] at h
      by_cases c2 : opensC (c :: x) = true
      · rw [if_pos c2] at h
        obtain ⟨y, e⟩ := opens_is c2
        simp only [List.cons.injEq] at e
        obtain ⟨rfl, rfl⟩ := e
        simp only [List.drop_succ_cons, List.drop_zero] at h
        cases hs : skipC 0 y with
        | none => rw [hs] at h; cases h
        | some r => rw [hs] at h; exact Lexes.comment hs (lexF_lexes n r h)
      · rw [if_neg c2] at h
        cases ht : tokAt W (c :: x) with
        | error e => rw [ht] at h; cases h
        | ok p =>
          obtain ⟨t, r⟩ := p
          rw [ht] at h
          simp only at h
          cases hr : lexF W n r with
          | error e => rw [hr] at h; cases h
          | ok us =>
            rw [hr] at h
            simp only [Except.ok.injEq] at h
            rw [← h]
            refine Lexes.tok (fun d y e => ?_) (opens_not (by simpa using c2)) ht (lexF_lexes n r hr)
            cases e
            simpa using c1
theorem lexes_lexF (hW : SignsOk W) {l : List UInt8} {ts : List (Tk × Nat)} (h : Lexes W l ts) : ∀ n, l.length < n → lexF W n l = .ok ts := by
  induction h with
  | nil => intro n hn; obtain ⟨m, rfl⟩ : ∃ m, n = m + 1 := ⟨n - 1, by simp at hn; omega⟩; rfl
  | @blank c l ts hc h ih =>
    intro n hn
    obtain ⟨m, rfl⟩ : ∃ m, n = m + 1 := ⟨n - 1, by omega⟩
    unfold lexF
    rw [if_pos hc]
    exact ih m (by simp at hn; omega)
  | @comment l r ts hs h ih =>
    intro n hn
    obtain ⟨m, rfl⟩ : ∃ m, n = m + 1 := ⟨n - 1, by omega⟩
    have := skipC_len _ _ hs
    unfold lexF
    rw [if_neg (by decide), if_pos (show opensC (40 :: 42 :: l) = true from rfl)]
    simp only [List.drop_succ_cons, List.drop_zero]
    rw [hs]
    exact ih m (by simp at hn; omega)
  | @tok l r t ts hb hn' ht h ih =>
    intro n hn
    obtain ⟨m, rfl⟩ : ∃ m, n = m + 1 := ⟨n - 1, by omega⟩
    have hlen := tok_len hW ht
    cases l with
    | nil => cases ht
    | cons c x =>
      unfold lexF
      have h1 := hb c x rfl
      have h2 : opensC (c :: x) = false := by
        cases e : opensC (c :: x) with
        | false => rfl
        | true => obtain ⟨y, e2⟩ := opens_is e; exact absurd e2 (hn' y)
      rw [if_neg (by rw [h1]; decide), if_neg (by rw [h2]; decide), ht]
      simp only
      rw [ih m (by omega)]
/-- A source has one list of tokens. -/
theorem lexes_one (hW : SignsOk W) {l : List UInt8} {ts us : List (Tk × Nat)} (h : Lexes W l ts) (h' : Lexes W l us) : ts = us := by
  have h1 := lexes_lexF hW h (l.length + 1) (Nat.lt_succ_self _)
  have h2 := lexes_lexF hW h' (l.length + 1) (Nat.lt_succ_self _)
  rw [h1] at h2
  simpa using h2
end Go.Proofs.YtapecobalkjdhaaDoor
