/-
  Layer 7, plain: a token's text is read as this token; so are all of them, with a blank behind each. No program is named.
-/
import Derived.Test.YtapecobalkjdhaaDoorX7Back
namespace Go.Proofs.YtapecobalkjdhaaDoor
set_option linter.unusedVariables false
set_option maxHeartbeats 1000000

variable {W : LexW} {dig : Int → List UInt8}
/-- The language's signs and numbers as they must be. -/
structure LexOk (W : LexW) (dig : Int → List UInt8) : Prop where
  signs : SignsOk W
  self : ∀ s, s ∈ W.signs → W.signs.find? (fun q => q.isPrefixOf s) = some s
  noC : ∀ s, s ∈ W.signs → ∀ x, s ≠ 40 :: 42 :: x
  num : ∀ w, (W.num w).2 = 0 → dig (W.num w).1 = w
/-- A token's text. -/
def textT (dig : Int → List UInt8) (t : Tk) : List UInt8 := if t.kind = 1 then dig t.N else if t.kind = 0 then [] else if t.kind = 2 then 34 :: escT t.S ++ [34] else t.S
theorem take_all {z : List UInt8} (hz : GapZ z) : ∀ w : List UInt8, (∀ c, c ∈ w → nameB c = true) → (w ++ z).takeWhile nameB = w ∧ (w ++ z).dropWhile nameB = z := by
  intro w hw
  obtain ⟨h1, h2⟩ := take_gap hz w
  have e1 : ∀ w : List UInt8, (∀ c, c ∈ w → nameB c = true) → w.takeWhile nameB = w ∧ w.dropWhile nameB = [] := by
    intro w
    induction w with
    | nil => intro _; exact ⟨rfl, rfl⟩
    | cons a w ih =>
      intro hw
      obtain ⟨i1, i2⟩ := ih (fun c hc => hw c (List.mem_cons_of_mem _ hc))
      have ha := hw a List.mem_cons_self
      rw [List.takeWhile_cons, List.dropWhile_cons, if_pos ha, if_pos ha, i1, i2]
      exact ⟨rfl, rfl⟩
  rw [h1, h2, (e1 w hw).1, (e1 w hw).2]
  exact ⟨rfl, rfl⟩
theorem take_names (l : List UInt8) : ∀ c, c ∈ l.takeWhile nameB → nameB c = true := fun c hc => List.all_eq_true.1 (List.all_takeWhile (p := nameB) (l := l)) c hc
/-- A token's text, a blank behind it, is read as that token. -/
theorem tok_back (hW : LexOk W dig) {l r : List UInt8} {t : Tk} (h : tokAt W l = .ok (t, r)) (q : List UInt8) : tokAt W (textT dig t ++ 32 :: q) = .ok (t, 32 :: q) ∧ (∀ c x, textT dig t ++ 32 :: q = c :: x → blankB c = false) ∧ (∀ x, textT dig t ++ 32 :: q ≠ 40 :: 42 :: x) := by
  have hz : GapZ (32 :: q) := fun c x e => by cases e; rfl
  cases l with
  | nil => cases h
  | cons c x =>
    have hname : nameB c = true → blankB c = false := fun hc => by
      cases hb : blankB c with
      | false => rfl
      | true => rw [blank_name hb] at hc; cases hc
    have hhead : nameB c = true → ∃ w', (c :: x).takeWhile nameB = c :: w' := fun hc => ⟨x.takeWhile nameB, by rw [List.takeWhile_cons, if_pos hc]⟩
    have h40 : ∀ d : UInt8, nameB d = true → d ≠ 40 := fun d hd e => by rw [e] at hd; cases hd
    have hall := take_names (c :: x)
    unfold tokAt at h
    simp only at h
    by_cases c1 : (smallB c || greatB c) = true
    · have hc : nameB c = true := by unfold nameB; rw [c1]; rfl
      rw [if_pos c1] at h
      simp only [Except.ok.injEq, Prod.mk.injEq] at h
      obtain ⟨w', hw'⟩ := hhead hc
      have hk : t.kind = 3 ∨ t.kind = 4 ∨ t.kind = 5 := by
        rw [← h.1]
        by_cases g1 : greatB c = true
        · exact Or.inr (Or.inl (if_pos g1))
        · by_cases g2 : (W.word (List.takeWhile nameB (c :: x)) || List.takeWhile nameB (c :: x) == [95]) = true
          · exact Or.inr (Or.inr ((if_neg g1).trans (if_pos g2)))
          · exact Or.inl ((if_neg g1).trans (if_neg g2))
      have ht : textT dig t = (c :: x).takeWhile nameB := by
        have hS : t.S = (c :: x).takeWhile nameB := by rw [← h.1]
        unfold textT
        rw [if_neg (by omega), if_neg (by omega), if_neg (by omega), hS]
      rw [ht]
      obtain ⟨e1, e2⟩ := take_all hz _ hall
      have h1 := h.1
      refine ⟨?_, fun d y e => ?_, fun y e => ?_⟩
      · rw [hw', List.cons_append] at e1 e2 ⊢
        unfold tokAt
        simp only
        rw [if_pos c1, e1, e2]
        rw [hw'] at h1
        rw [h1]
      · rw [hw', List.cons_append] at e
        simp only [List.cons.injEq] at e
        rw [← e.1]; exact hname hc
      · rw [hw', List.cons_append] at e
        simp only [List.cons.injEq] at e
        exact h40 c hc e.1
    · rw [if_neg c1] at h
      by_cases c2 : digitB c = true
      · have hc : nameB c = true := by unfold nameB; rw [c2]; simp
        rw [if_pos c2] at h
        by_cases c3 : (W.num (List.takeWhile nameB (c :: x))).2 = 5
        · rw [if_pos c3] at h; cases h
        · rw [if_neg c3] at h
          by_cases c4 : (W.num (List.takeWhile nameB (c :: x))).2 ≠ 0
          · rw [if_pos c4] at h; cases h
          · rw [if_neg c4] at h
            have c5 : (W.num (List.takeWhile nameB (c :: x))).2 = 0 := Classical.byContradiction c4
            simp only [Except.ok.injEq, Prod.mk.injEq] at h
            obtain ⟨w', hw'⟩ := hhead hc
            have ht : textT dig t = (c :: x).takeWhile nameB := by
              rw [← h.1]
              unfold textT
              simp only
              rw [if_pos trivial]
              exact hW.num _ c5
            rw [ht]
            obtain ⟨e1, e2⟩ := take_all hz _ hall
            have h1 := h.1
            refine ⟨?_, fun d y e => ?_, fun y e => ?_⟩
            · rw [hw'] at c3 c4 h1
              rw [hw', List.cons_append] at e1 e2 ⊢
              unfold tokAt
              simp only
              rw [if_neg c1, if_pos c2, e1, e2, if_neg c3, if_neg c4, h1]
            · rw [hw', List.cons_append] at e
              simp only [List.cons.injEq] at e
              rw [← e.1]; exact hname hc
            · rw [hw', List.cons_append] at e
              simp only [List.cons.injEq] at e
              exact h40 c hc e.1
      · rw [if_neg c2] at h
        by_cases c3 : c = 34
        · rw [if_pos c3] at h
          cases hx : txtB x with
          | none => rw [hx] at h; cases h
          | some p =>
            obtain ⟨y, r2⟩ := p
            rw [hx] at h
            simp only [Except.ok.injEq, Prod.mk.injEq] at h
            have ht : textT dig t ++ 32 :: q = 34 :: (escT y ++ 34 :: (32 :: q)) := by
              rw [← h.1]
              unfold textT
              simp only
              rw [if_neg (by decide), if_neg (by decide), if_pos trivial]
              simp
            rw [ht]
            refine ⟨?_, fun d z e => ?_, fun z e => ?_⟩
            · unfold tokAt
              simp only
              rw [if_neg (by decide), if_neg (by decide), if_pos trivial, esc_all]
              show Except.ok ((⟨2, y, 0⟩ : Tk), 32 :: q) = _
              rw [h.1]
            · simp only [List.cons.injEq] at e
              rw [← e.1]; rfl
            · simp only [List.cons.injEq] at e
              exact absurd e.1 (by decide)
        · rw [if_neg c3] at h
          cases hx : W.signs.find? (fun s => s.isPrefixOf (c :: x)) with
          | none => rw [hx] at h; cases h
          | some s =>
            rw [hx] at h
            simp only [Except.ok.injEq, Prod.mk.injEq] at h
            have hm := List.mem_of_find?_eq_some hx
            have ht : textT dig t = s := by
              rw [← h.1]
              unfold textT
              simp only
              rw [if_neg (by decide), if_neg (by decide), if_neg (by decide)]
            rw [ht]
            have hf : W.signs.find? (fun u => u.isPrefixOf (s ++ 32 :: q)) = some s := by
              rw [find_congr (q := fun u => u.isPrefixOf s) _ (fun u hu => prefix_gap hz (fun b hb => (hW.signs.plain u hu b hb).1))]
              exact hW.self s hm
            cases hs : s with
            | nil => exact absurd hs (hW.signs.ne s hm)
            | cons d s' =>
              have hp := hW.signs.plain s hm d (by rw [hs]; exact List.mem_cons_self)
              rw [hs] at hf
              have hnc := hW.noC s hm
              rw [hs] at hnc
              refine ⟨?_, fun d' z e => ?_, fun z e => ?_⟩
              · rw [List.cons_append] at hf ⊢
                unfold tokAt
                simp only
                have n1 : (smallB d || greatB d) = false := by
                  have := hp.2.1
                  unfold nameB at this
                  simp only [Bool.or_eq_false_iff] at this ⊢
                  exact ⟨this.1.1.1, this.1.1.2⟩
                have n2 : digitB d = false := by
                  have := hp.2.1
                  unfold nameB at this
                  simp only [Bool.or_eq_false_iff] at this
                  exact this.1.2
                rw [if_neg (by rw [n1]; decide), if_neg (by rw [n2]; decide), if_neg hp.2.2, hf]
                simp only [Except.ok.injEq, Prod.mk.injEq]
                refine ⟨by rw [← h.1, hs], ?_⟩
                rw [← List.cons_append, List.drop_left]
              · rw [List.cons_append] at e
                simp only [List.cons.injEq] at e
                rw [← e.1]; exact hp.1
              · cases s' with
                | nil =>
                  simp only [List.cons_append, List.nil_append, List.cons.injEq] at e
                  exact absurd e.2.1 (by decide)
                | cons d2 s2 =>
                  simp only [List.cons_append, List.cons.injEq] at e
                  exact hnc s2 (by rw [e.1, e.2.1])
theorem lexes_toks {l : List UInt8} {ts : List (Tk × Nat)} (h : Lexes W l ts) : ∀ p, p ∈ ts → ∃ a r, tokAt W a = .ok (p.1, r) := by
  induction h with
  | nil => intro p hp; cases hp
  | blank hc h ih => exact ih
  | comment hs h ih => exact ih
  | tok hb hn ht h ih =>
    intro p hp
    rcases List.mem_cons.1 hp with rfl | hp
    · exact ⟨_, _, ht⟩
    · exact ih p hp
/-- All texts, a blank behind each. -/
def backT (dig : Int → List UInt8) (ts : List (Tk × Nat)) : List UInt8 := ts.flatMap (fun p => textT dig p.1 ++ [32])
theorem lexes_back (hW : LexOk W dig) (z : List UInt8) (hz : Lexes W z []) : ∀ (ts : List (Tk × Nat)), (∀ p, p ∈ ts → ∃ a r, tokAt W a = .ok (p.1, r)) → ∃ us, Lexes W (backT dig ts ++ z) us ∧ us.map (·.1) = ts.map (·.1)
  | [], _ => ⟨[], hz, rfl⟩
  | p :: ts, h => by
    obtain ⟨us, h1, h2⟩ := lexes_back hW z hz ts (fun q hq => h q (List.mem_cons_of_mem _ hq))
    obtain ⟨a, r, ht⟩ := h p List.mem_cons_self
    obtain ⟨k1, k2, k3⟩ := tok_back hW ht (backT dig ts ++ z)
    have e : backT dig (p :: ts) ++ z = textT dig p.1 ++ 32 :: (backT dig ts ++ z) := by unfold backT; simp
    rw [e]
    exact ⟨_, Lexes.tok k2 k3 k1 (Lexes.blank rfl h1), by rw [List.map_cons, List.map_cons, h2]⟩
end Go.Proofs.YtapecobalkjdhaaDoor
