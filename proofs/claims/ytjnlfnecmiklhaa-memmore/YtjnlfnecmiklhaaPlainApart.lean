/-
  Blocks whose fields are filled one behind the other with 1, 2, 3, ..: what holds on the way. Plain; no program.
-/
import Derived.Test.YtjnlfnecmiklhaaBlocks
namespace Go.Proofs.Ytjnlfnecmiklhaa
open Go.RowKit Go.Deep
set_option linter.unusedVariables false

theorem lenB_congr : ∀ (l l' : List Blk), l.map (fun b => b.F.length) = l'.map (fun b => b.F.length) → lenB l = lenB l' := by
  intro l
  induction l with
  | nil => intro l' h; cases l' with
    | nil => rfl
    | cons b l' => simp at h
  | cons b l ih => intro l' h; cases l' with
    | nil => simp at h
    | cons b' l' =>
      simp at h
      simp [lenB, h.1, ih l' (by simpa using h.2)]
/-- The same blocks, but for what their fields hold. -/
def Shaped (r r' : RS) : Prop := r'.n = r.n ∧ r'.which = r.which ∧ r'.L.map (fun b => (b.ad, b.F.length)) = r.L.map (fun b => (b.ad, b.F.length))
theorem Shaped.refl (r : RS) : Shaped r r := ⟨rfl, rfl, rfl⟩
theorem Shaped.len {r r' : RS} (h : Shaped r r') : r'.L.length = r.L.length := by
  have := congrArg List.length h.2.2
  simpa using this
theorem Shaped.lenB {r r' : RS} (h : Shaped r r') (j : Nat) : lenB (r'.L.take j) = lenB (r.L.take j) := by
  apply lenB_congr
  have := congrArg (List.map Prod.snd) h.2.2
  simp only [List.map_map] at this
  have e : ∀ l : List Blk, l.map (fun b => b.F.length) = l.map (Prod.snd ∘ fun b => (b.ad, b.F.length)) := fun l => rfl
  rw [List.map_take, List.map_take, e, e, this]
theorem Shaped.get {r r' : RS} (h : Shaped r r') {j : Nat} (hj : j < r.L.length) : ∃ b b', r.L[j]? = some b ∧ r'.L[j]? = some b' ∧ b'.ad = b.ad ∧ b'.F.length = b.F.length := by
  have hl := h.len
  refine ⟨r.L[j], r'.L[j], List.getElem?_eq_getElem hj, List.getElem?_eq_getElem (by omega), ?_⟩
  have := congrArg (fun l => l[j]?) h.2.2
  simp only [List.getElem?_map, List.getElem?_eq_getElem hj, List.getElem?_eq_getElem (show j < r'.L.length by omega), Option.map_some] at this
  simp only [Option.some.injEq, Prod.mk.injEq] at this
  exact this
theorem Shaped.put {r r' : RS} (h : Shaped r r') {k i : Nat} {b : Blk} {v : Int} (hk : r'.L[k]? = some b) : Shaped r (r'.put k b i v) := by
  refine ⟨h.1, h.2.1, ?_⟩
  have hl := (List.getElem?_eq_some_iff.1 hk).1
  have hb := (List.getElem?_eq_some_iff.1 hk).2
  show (r'.L.set k ⟨b.ad, b.tag, b.F.set i v⟩).map _ = _
  rw [List.map_set, ← h.2.2]
  apply List.ext_getElem?
  intro q
  by_cases e : q = k
  · subst e
    rw [List.getElem?_set_self (by simpa using hl)]
    rw [List.getElem?_map, hk]
    simp
  · rw [List.getElem?_set_ne (fun c => e c.symm)]
/-- The number that field 0 of block j gets is one more than this. -/
def cntB (r : RS) (j : Nat) : Nat := lenB (r.L.take j) - j
theorem cntB_succ {r : RS} {j : Nat} {b : Blk} (h : r.L[j]? = some b) : cntB r (j + 1) = cntB r j + b.F.length := by
  have h1 := lenB_succ r.L j b h
  have h2 := lenB_length' (r.L.take j)
  have hj := (List.getElem?_eq_some_iff.1 h).1
  rw [List.length_take] at h2
  unfold cntB
  omega
def Done (r r' : RS) (j i : Nat) : Prop := ∀ (q : Nat) (b' : Blk) (e : Nat), r'.L[q]? = some b' → e < b'.F.length → (q < j ∨ (q = j ∧ e < i)) → b'.F[e]? = some (intW ((cntB r q + e + 1 : Nat) : Int))
theorem Done.start (r r' : RS) : Done r r' 0 0 := by
  intro q b' e _ _ h; omega
theorem Done.put {r r' : RS} {j i : Nat} {b : Blk} (h : Done r r' j i) (hj : r'.L[j]? = some b) (hi : i < b.F.length) : Done r (r'.put j b i (intW ((cntB r j + i + 1 : Nat) : Int))) j (i + 1) := by
  intro q b' e hq he hc
  rcases set_some hj hq with ⟨rfl, rfl⟩ | ⟨ne, hq'⟩
  · show (b.F.set i _)[e]? = _
    have he' : e < b.F.length := by have : e < (b.F.set i (intW ((cntB r q + i + 1 : Nat) : Int))).length := he; simpa using this
    by_cases c : e = i
    · subst c; rw [List.getElem?_set_self hi]
    · rw [List.getElem?_set_ne (fun x => c x.symm)]
      exact h q b e hj he' (by omega)
  · exact h q b' e hq' he (by omega)
theorem Done.next {r r' : RS} {j : Nat} {b : Blk} (h : Done r r' j b.F.length) (hj : r'.L[j]? = some b) : Done r r' (j + 1) 0 := by
  intro q b' e hq he hc
  by_cases c : q = j
  · subst c
    rw [hj] at hq
    have : b = b' := by simpa using hq
    subst this
    exact h q b e hj he (Or.inr ⟨rfl, he⟩)
  · exact h q b' e hq he (by omega)
theorem Rep.word {s : St} {r : RS} (h : Rep s r) {j : Nat} {b : Blk} (hj : r.L[j]? = some b) (hs : s.top ≤ 100000) : s.find (2 * (b.ad : Int)) = ((b.ad : Int), 0) ∧ s.size (2 * (b.ad : Int)) = b.F.length := by
  have hin := h.inside hj
  have ea : addrW (2 * (b.ad : Int)) = b.ad := by unfold addrW; rw [if_neg (by omega)]; omega
  have hf := h.find_blk' (x := 2 * (b.ad : Int)) hj ea.symm
  refine ⟨hf, ?_⟩
  unfold St.size
  rw [hf, if_neg (by show ¬ ((b.ad : Int) = 0); omega)]
  exact (h.tagAt hj).2
theorem blkW_eq {s : St} {r : RS} (h : Rep s r) {j : Nat} {b : Blk} (hj : r.L[j]? = some b) : blkW s r j = 2 * (b.ad : Int) := by
  have := h.ad j b hj
  unfold blkW
  omega
theorem Shaped.base {s s' : St} {r r' : RS} (h : Shaped r r') (hs : Rep s r) (hs' : Rep s' r') : s'.base = s.base ∧ s'.top = s.top ∧ s'.n = s.n := by
  have e1 := hs.base; have e2 := hs'.base; have e3 := hs.top; have e4 := hs'.top; have e5 := hs.n; have e6 := hs'.n
  rw [h.1, h.2.1] at e2
  rw [h.1] at e6
  have := h.lenB r.L.length
  have hl := h.len
  rw [List.take_of_length_le (by omega), List.take_of_length_le (by omega)] at this
  omega
end Go.Proofs.Ytjnlfnecmiklhaa
