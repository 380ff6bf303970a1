/-
 Layer 8, plain: tokens of sources with brackets, a let, signs between. No program is named.
-/
import Derived.Test.YthjmakjhidjbaaaGreatX8Two
import Derived.Test.YthjmakjhidjbaaaGreatLibAA
import Derived.Test.YthjmakjhidjbaaaGreatLibAT
import Derived.KernelRfl
namespace Go.Proofs.YthjmakjhidjbaaaGreat
set_option linter.unusedVariables false
set_option linter.unusedSimpArgs false
set_option maxHeartbeats 1000000

theorem take_stop {z : List UInt8} (hz : ∀ c x, z = c :: x → nameB c = false) : ∀ l : List UInt8, (l ++ z).takeWhile nameB = l.takeWhile nameB ∧ (l ++ z).dropWhile nameB = l.dropWhile nameB ++ z
 | [] => by
  cases z with
  | nil => exact ⟨rfl, rfl⟩
  | cons c x =>
   have := hz c x rfl
   simp [this]
 | a :: l => by
  obtain ⟨h1, h2⟩ := take_stop hz l
  rw [List.cons_append, List.takeWhile_cons, List.takeWhile_cons, List.dropWhile_cons, List.dropWhile_cons]
  cases nameB a with
  | true => simp [h1, h2]
  | false => simp
theorem prefix_close {s l b : List UInt8} {d : UInt8} (hs : (41 : UInt8) ∉ s.tail) : s.isPrefixOf (d :: l ++ 41 :: b) = s.isPrefixOf (d :: l) := by
 by_cases h : s <+: d :: l
 ·have h2 : s <+: d :: l ++ 41 :: b := h.trans (List.prefix_append _ _)
  rw [List.isPrefixOf_iff_prefix.2 h, List.isPrefixOf_iff_prefix.2 h2]
 ·have h2 : ¬ s <+: d :: l ++ 41 :: b := fun c => h (by
   by_cases hl : s.length ≤ (d :: l).length
   ·exact List.prefix_of_prefix_length_le c (List.prefix_append _ _) hl
   ·exfalso
    obtain ⟨t, ht⟩ := c
    have e : (d :: l ++ 41 :: b)[(d :: l).length]? = some 41 := by simp
    rw [← ht, List.getElem?_append_left (by omega)] at e
    apply hs
    cases s with
    | nil => simp at hl
    | cons a s =>
     rw [List.length_cons, List.getElem?_cons_succ] at e
     exact List.mem_of_getElem? e)
  have e1 : s.isPrefixOf (d :: l) = false := by cases e : s.isPrefixOf (d :: l); rfl; exact absurd (List.isPrefixOf_iff_prefix.1 e) h
  have e2 : s.isPrefixOf (d :: l ++ 41 :: b) = false := by cases e : s.isPrefixOf (d :: l ++ 41 :: b); rfl; exact absurd (List.isPrefixOf_iff_prefix.1 e) h2
  rw [e1, e2]
theorem signs_close : ∀ s, s ∈ docW.signs → (41 : UInt8) ∉ s.tail := by show ∀ s, s ∈ signsL → _; decide
/-- A token where a closing bracket stands behind. -/
theorem tok_close {l r b : List UInt8} {t : Tk} (h : tokAt docW l = .ok (t, r)) : tokAt docW (l ++ 41 :: b) = .ok (t, r ++ 41 :: b) := by
 cases l with
 | nil => cases h
 | cons c x =>
  obtain ⟨h1, h2⟩ := take_stop (z := 41 :: b) (fun d y e => by cases e; rfl) (c :: x)
  have hpre : docW.signs.find? (fun s => s.isPrefixOf (c :: x ++ 41 :: b)) = docW.signs.find? (fun s => s.isPrefixOf (c :: x)) := find_congr _ (fun s hs => prefix_close (signs_close s hs))
  rw [List.cons_append] at h1 h2 hpre ⊢
  unfold tokAt at h ⊢
  simp only at h ⊢
  rw [h1, h2, hpre]
  by_cases c1 : (smallB c || greatB c) = true
  ·rw [if_pos c1] at h ⊢
   simp only [Except.ok.injEq, Prod.mk.injEq] at h ⊢
   exact ⟨h.1, by rw [h.2]⟩
  ·rw [if_neg c1] at h ⊢
   by_cases c2 : digitB c = true
   ·rw [if_pos c2] at h ⊢
    by_cases c3 : (docW.num (List.takeWhile nameB (c :: x))).2 = 5
    ·rw [if_pos c3] at h; cases h
    ·rw [if_neg c3] at h ⊢
     by_cases c4 : (docW.num (List.takeWhile nameB (c :: x))).2 ≠ 0
     ·rw [if_pos c4] at h; cases h
     ·rw [if_neg c4] at h ⊢
      simp only [Except.ok.injEq, Prod.mk.injEq] at h ⊢
      exact ⟨h.1, by rw [h.2]⟩
   ·rw [if_neg c2] at h ⊢
    by_cases c3 : c = 34
    ·rw [if_pos c3] at h ⊢
     cases hx : txtB x with
     | none => rw [hx] at h; cases h
     | some p =>
      obtain ⟨y, r2⟩ := p
      rw [hx] at h
      rw [txtB_app x.length x (41 :: b) (Nat.le_refl _) hx]
      simp only [Except.ok.injEq, Prod.mk.injEq] at h ⊢
      exact ⟨h.1, by rw [h.2]⟩
    ·rw [if_neg c3] at h ⊢
     cases hx : docW.signs.find? (fun s => s.isPrefixOf (c :: x)) with
     | none => rw [hx] at h; cases h
     | some s =>
      rw [hx] at h
      simp only [Except.ok.injEq, Prod.mk.injEq] at h ⊢
      refine ⟨h.1, ?_⟩
      have hp0 : s.isPrefixOf (c :: x) = true := List.find?_some (p := fun (s : List UInt8) => s.isPrefixOf (c :: x)) hx
      have hp := List.isPrefixOf_iff_prefix.1 hp0
      rw [← h.2, ← List.cons_append, List.drop_append_of_le_length hp.length_le]
/-- A source, and a closing bracket behind it. -/
theorem lexes_close {a b : List UInt8} {ts us : List (Tk × Nat)} (h : Lexes docW a ts) (hb : Lexes docW (41 :: b) us) : Lexes docW (a ++ 41 :: b) (ts.map (fun p => (p.1, p.2 + (b.length + 1))) ++ us) := by
 induction h with
 | nil => exact hb
 | blank hc' h ih => exact Lexes.blank hc' ih
 | comment hs h ih => exact Lexes.comment (skipC_app _ _ _ hs) ih
 | @tok l r t ts hb' hn ht h ih =>
  have hne : l ≠ [] := fun e => by subst e; cases ht
  rw [List.map_cons, List.cons_append]
  have e : l.length + (b.length + 1) = (l ++ 41 :: b).length := by simp
  rw [e]
  refine Lexes.tok (fun d x e2 => ?_) (fun x e2 => ?_) (tok_close ht) ih
  ·cases l with
   | nil => exact absurd rfl hne
   | cons d1 x1 => cases e2; exact hb' _ _ rfl
  ·match l, hne, hn, e2 with
   | [d], _, _, e2 =>
    simp only [List.cons_append, List.nil_append, List.cons.injEq] at e2
    exact absurd e2.2.1 (by decide)
   | d :: d' :: y, _, hn, e2 =>
    simp only [List.cons_append, List.cons.injEq] at e2
    exact hn y (by rw [e2.1, e2.2.1])
theorem lexes_shut {b : List UInt8} {us : List (Tk × Nat)} (h : Lexes docW b us) : Lexes docW (41 :: b) ((⟨5, [41], 0⟩, b.length + 1) :: us) :=
 Lexes.tok (l := 41 :: b) (r := b) (fun c x e => by cases e; rfl) (fun x e => by cases e) rfl h
theorem lexes_open {b : List UInt8} {us : List (Tk × Nat)} (hb : ∀ x, b ≠ 42 :: x) (h : Lexes docW b us) : Lexes docW (40 :: b) ((⟨5, [40], 0⟩, b.length + 1) :: us) :=
 Lexes.tok (l := 40 :: b) (r := b) (fun c x e => by cases e; rfl) (fun x e => by simp only [List.cons.injEq, true_and] at e; exact hb x e) rfl h
/-- Brackets round a source. -/
theorem lex_br {a b : List UInt8} {ts us : List (Tk × Nat)} (h : Lexes docW a ts) (ha : ∀ x, a ≠ 42 :: x) (hb : Lexes docW b us) : ∃ vs, Lexes docW (40 :: (a ++ 41 :: b)) vs ∧ vs.map (·.1) = br P0 (ts.map (·.1)) ++ us.map (·.1) := by
 refine ⟨_, lexes_open (fun x e => ?_) (lexes_close h (lexes_shut hb)), ?_⟩
 ·cases a with
  | nil => cases e
  | cons c y => simp only [List.cons_append, List.cons.injEq] at e; exact ha y (by rw [e.1])
 ·simp [br, P0, List.map_map, Function.comp_def]
def letB : List UInt8 := [108, 101, 116, 32, 95, 32, 61]
theorem lex_let {b : List UInt8} {us : List (Tk × Nat)} (h : Lexes docW b us) : ∃ vs, Lexes docW (letB ++ 32 :: b) vs ∧ vs.map (·.1) = u3 ++ us.map (·.1) := by
 have h1 : Lexes docW letB [(⟨5, [108, 101, 116], 0⟩, 7), (⟨5, [95], 0⟩, 3), (⟨5, [61], 0⟩, 1)] := lexF_lexes 10 _ (by kernel_rfl)
 exact ⟨_, lexes_join docSigns h1 rfl h, by simp [u3]⟩
/-- A sign, blanks round it. -/
theorem lex_op {s : List UInt8} (hs : s ∈ opsL) : Lexes docW s [(⟨5, s, 0⟩, s.length)] := by
 simp only [opsL, List.mem_cons, List.not_mem_nil, or_false] at hs
 rcases hs with rfl | rfl | rfl | rfl | rfl | rfl | rfl | rfl | rfl | rfl | rfl | rfl | rfl | rfl | rfl | rfl | rfl
 all_goals exact lexF_lexes 10 _ (by kernel_rfl)
theorem lex_mid {s a b : List UInt8} (hs : s ∈ opsL) {ts us : List (Tk × Nat)} (ha : Lexes docW a ts) (hb : Lexes docW b us) : ∃ vs, Lexes docW (a ++ 32 :: (s ++ 32 :: b)) vs ∧ vs.map (·.1) = ts.map (·.1) ++ ⟨5, s, 0⟩ :: us.map (·.1) := by
 refine ⟨_, lexes_join docSigns ha rfl (lexes_join docSigns (lex_op hs) rfl hb), ?_⟩
 simp [List.map_map, Function.comp_def]
/-- begin and end round a source. -/
theorem lex_begin {a : List UInt8} {ts : List (Tk × Nat)} (h : Lexes docW a ts) : ∃ vs, Lexes docW ([98, 101, 103, 105, 110] ++ 32 :: (a ++ 32 :: [101, 110, 100])) vs ∧ vs.map (·.1) = br ([98, 101, 103, 105, 110], [101, 110, 100]) (ts.map (·.1)) := by
 have h1 : Lexes docW [98, 101, 103, 105, 110] [(⟨5, [98, 101, 103, 105, 110], 0⟩, 5)] := lexF_lexes 10 _ (by kernel_rfl)
 have h2 : Lexes docW [101, 110, 100] [(⟨5, [101, 110, 100], 0⟩, 3)] := lexF_lexes 10 _ (by kernel_rfl)
 refine ⟨_, lexes_join docSigns h1 rfl (lexes_join docSigns h rfl h2), ?_⟩
 simp [br, List.map_map, Function.comp_def]
end Go.Proofs.YthjmakjhidjbaaaGreat
