/-
 Layer 8, the statements: tokens' texts with a comment behind each are read as these tokens; so the same tree is told, or what is wrong is wrong at the same token. No program is named but by its plain answer.
-/
import Derived.Test.YthjmakjhidjbaaaGreatX8Np
import Derived.Lib.ItoaLen
namespace Go.Proofs.YthjmakjhidjbaaaGreat
set_option linter.unusedVariables false
set_option linter.unusedSimpArgs false
set_option maxHeartbeats 1000000

/-- A blank, a comment, a line's end. -/
def gapB : List UInt8 := [32, 40, 42, 32, 97, 32, 42, 41, 10]
/-- A token's text and what stands behind it; all of them. -/
def agOne (t : TV) : List UInt8 := textT Lib.itoa ⟨t.kind, t.S, t.N⟩ ++ gapB
def agL (M : List TV) : List UInt8 := M.flatMap agOne
theorem gap_lexes {r : List UInt8} {ts : List (Tk × Nat)} (h : Lexes docW r ts) : Lexes docW (32 :: (40 :: 42 :: 32 :: 97 :: 32 :: 42 :: 41 :: 10 :: r)) ts :=
 .blank rfl (.comment (r := 10 :: r) (by simp [skipC]) (.blank rfl h))
theorem ag_lexes {n : Nat} {l : List UInt8} {ts : List (Tk × Nat)} (h : Lexes docW l ts) : ∃ us, Lexes docW (agL (tvs n ts) ++ gapB) us ∧ us.map (·.1) = ts.map (·.1) := by
 induction h with
 | nil => exact ⟨[], gap_lexes .nil, rfl⟩
 | blank hc h ih => exact ih
 | comment hc h ih => exact ih
 | @tok l r t ts hb hn ht h ih =>
  obtain ⟨us, h1, h2⟩ := ih
  obtain ⟨g1, g2, g3⟩ := tok_back docOk ht (40 :: 42 :: 32 :: 97 :: 32 :: 42 :: 41 :: 10 :: (agL (tvs n ts) ++ gapB))
  have e : agL (tvs n ((t, l.length) :: ts)) ++ gapB = textT Lib.itoa t ++ 32 :: (40 :: 42 :: 32 :: 97 :: 32 :: 42 :: 41 :: 10 :: (agL (tvs n ts) ++ gapB)) := by
   show (agOne _ ++ agL (tvs n ts)) ++ gapB = _
   unfold agOne
   simp [gapB]
  rw [e]
  exact ⟨_, .tok g2 g3 g1 (gap_lexes h1), by simp [h2]⟩
theorem ag_toks (s : ByteArray) (tp : List (Tk × Nat)) : agL (toks s tp) = agL (tvs s.size tp) ++ gapB := by
 unfold toks agL
 rw [List.flatMap_append]
 simp [agOne, endV, textT]
/-- The first node that is too deep, by its token's number. -/
theorem deep_at (f : Nat → Int) : ∀ (m : Nat) (L : List Tr) (i j : Nat) (p : Int), LiesL i j L → deepL f m L = some p → ∃ k, k < j ∧ p = f k ∧ ∀ f' : Nat → Int, deepL f' m L = some (f' k)
 | m, [], i, j, p, _, h => by rw [deepL] at h; cases h
 | 0, x :: L, i, j, p, hl, h => by
  rw [deepL, deepT] at h
  cases hl with
  | cons h1 hx h2 hl =>
   cases hx with
   | @mk _ _ k0 p0 n0 s0 L0 g1 g2 gL => exact ⟨p0, by omega, (Option.some.inj h).symm, fun f' => by rw [deepL, deepT]; try rfl⟩
 | m + 1, x :: L, i, j, p, hl, h => by
  rw [deepL, deepT] at h
  cases hl with
  | @cons _ a b _ _ _ h1 hx h2 hl =>
   cases hx with
   | @mk _ _ k0 p0 n0 s0 L0 g1 g2 gL =>
    cases hd : deepL f m L0 with
    | some q =>
     have h' : some q = some p := by rw [← h]; show _ = (match deepL f m L0 with | some p => some p | none => deepL f (m + 1) L); rw [hd]
     obtain ⟨k, k1, k2, k3⟩ := deep_at f m L0 a b q gL hd
     refine ⟨k, by omega, (Option.some.inj h').symm.trans k2, fun f' => ?_⟩
     rw [deepL, deepT]
     show (match deepL f' m L0 with | some p => some p | none => deepL f' (m + 1) L) = _
     rw [k3 f']
    | none =>
     have h' : deepL f (m + 1) L = some p := by rw [← h]; show _ = (match deepL f m L0 with | some p => some p | none => deepL f (m + 1) L); rw [hd]
     obtain ⟨k, k1, k2, k3⟩ := deep_at f (m + 1) L b j p hl h'
     refine ⟨k, k1, k2, fun f' => ?_⟩
     rw [deepL, deepT]
     show (match deepL f' m L0 with | some p => some p | none => deepL f' (m + 1) L) = _
     rw [np_deep f f' m L0 L0 rfl hd]
     exact k3 f'
termination_by m L => (m, L.length)
/-- Two sources of the same tokens: the same tree, or wrong at the same token. -/
theorem gaps_law {s own : ByteArray} {tp us : List (Tk × Nat)} (hl : lexR s = .ok tp) (ho : lexR own = .ok us) (he : us.map (·.1) = tp.map (·.1)) :
  (∃ L, parseR s = .ok L ∧ parseR own = .ok L ∧ 1 + cntL L ≤ 4096) ∨ (parseR s = .error (3, 0) ∧ parseR own = .error (3, 0)) ∨ (∃ e m, (e = 21 ∨ e = 22) ∧ m ≤ tp.length ∧ parseR s = .error (e, plM (toks s tp) m) ∧ parseR own = .error (e, plM (toks own us) m)) := by
 have hs : srcT us = srcT tp := he
 unfold parseR
 rw [hl, ho]
 simp only [hs]
 have hfi := reads_fine (ts := srcT tp) .items (i := 0) (Nat.zero_le _)
 cases hr : reads (srcT tp) .items 0 with
 | error m =>
  rw [hr] at hfi
  refine Or.inr (Or.inr ⟨21, m, Or.inl rfl, ?_, rfl, rfl⟩)
  rw [← srcT_len]
  exact hfi.2.1
 | ok xj =>
  obtain ⟨x, j⟩ := xj
  rw [hr] at hfi
  have hj : j ≤ tp.length := by rw [← srcT_len]; exact hfi.2.1
  have hpo : PL 0 j x.L := reads_post hr
  simp only
  by_cases hm : 4096 < 1 + cntL x.L
  ·rw [if_pos hm, if_pos hm]
   exact Or.inr (Or.inl ⟨rfl, rfl⟩)
  ·rw [if_neg hm, if_neg hm]
   cases hd : deepL (plM (toks s tp)) 149 x.L with
   | none =>
    rw [np_deep _ (plM (toks own us)) _ x.L x.L rfl hd]
    exact Or.inl ⟨x.L, rfl, rfl, by omega⟩
   | some p =>
    obtain ⟨k, k1, k2, k3⟩ := deep_at _ _ _ _ _ _ hpo.1 hd
    rw [k3]
    exact Or.inr (Or.inr ⟨22, k, Or.inr rfl, by omega, by rw [k2], rfl⟩)
end Go.Proofs.YthjmakjhidjbaaaGreat
