/-
  What is in reach is told nearest first: each block but those that roots lead to is led to by a word of one that was met ahead. Plain; no program.
-/
import Derived.Test.YtjnlfnecmiklhaaPlainColl2
namespace Go.Proofs.Ytjnlfnecmiklhaa
open Go.RowKit Go.Deep
set_option linter.unusedVariables false

/-- Each that was met is led to by a root, or by a word of one that was met ahead of it. -/
def Origin (s : St) (r : RS) (xs : List Int) (G : List Nat) : Prop := ∀ (m i : Nat), G[m]? = some i → (∃ x, x ∈ xs ∧ leadI s r x = some i) ∨ ∃ k g, k < m ∧ G[k]? = some g ∧ ∃ x, x ∈ wordsOf (blkAt r g) ∧ leadI s r x = some i
theorem origin_snoc {s : St} {r : RS} {xs : List Int} {G : List Nat} {i : Nat} (h : Origin s r xs G) (hi : (∃ x, x ∈ xs ∧ leadI s r x = some i) ∨ ∃ k g, k < G.length ∧ G[k]? = some g ∧ ∃ x, x ∈ wordsOf (blkAt r g) ∧ leadI s r x = some i) : Origin s r xs (G ++ [i]) := by
  intro m j hj
  rcases snoc_some hj with ⟨hj', hm⟩ | ⟨rfl, rfl⟩
  · rcases h m j hj' with h1 | ⟨k, g, hk, hg, hx⟩
    · exact Or.inl h1
    · exact Or.inr ⟨k, g, hk, by rw [List.getElem?_append_left (by omega)]; exact hg, hx⟩
  · rcases hi with h1 | ⟨k, g, hk, hg, hx⟩
    · exact Or.inl h1
    · exact Or.inr ⟨k, g, hk, by rw [List.getElem?_append_left hk]; exact hg, hx⟩
theorem origin_root {s : St} {r : RS} {xs : List Int} {G : List Nat} (h : Origin s r xs G) {x : Int} (hx : x ∈ xs) : Origin s r xs (visit s r G x) := by
  cases e : leadI s r x with
  | none => rw [visit_none e]; exact h
  | some i =>
    by_cases hi : i ∈ G
    · rw [visit_old e hi]; exact h
    · rw [visit_new e hi]; exact origin_snoc h (Or.inl ⟨x, hx, e⟩)
theorem origin_field {s : St} {r : RS} {xs : List Int} {G : List Nat} (h : Origin s r xs G) {k g : Nat} (hk : G[k]? = some g) {x : Int} (hx : x ∈ wordsOf (blkAt r g)) : Origin s r xs (visit s r G x) := by
  cases e : leadI s r x with
  | none => rw [visit_none e]; exact h
  | some i =>
    by_cases hi : i ∈ G
    · rw [visit_old e hi]; exact h
    · rw [visit_new e hi]; exact origin_snoc h (Or.inr ⟨k, g, (List.getElem?_eq_some_iff.1 hk).1, hk, x, hx, e⟩)
theorem origin_roots {s : St} {r : RS} {xs : List Int} (ys : List Int) : ∀ {G : List Nat}, Origin s r xs G → (∀ y, y ∈ ys → y ∈ xs) → Origin s r xs (visits s r G ys) := by
  induction ys with
  | nil => intro G h _; exact h
  | cons y ys ih => intro G h hy; rw [visits_cons]; exact ih (origin_root h (hy y (by simp))) (fun z hz => hy z (by simp [hz]))
theorem origin_fields {s : St} {r : RS} {xs : List Int} {k g : Nat} (ys : List Int) : ∀ {G : List Nat}, Origin s r xs G → G[k]? = some g → (∀ y, y ∈ ys → y ∈ wordsOf (blkAt r g)) → Origin s r xs (visits s r G ys) := by
  induction ys with
  | nil => intro G h _ _; exact h
  | cons y ys ih =>
    intro G h hk hy
    rw [visits_cons]
    refine ih (origin_field h hk (hy y (by simp))) ?_ (fun z hz => hy z (by simp [hz]))
    obtain ⟨T, e⟩ := visit_ext (s := s) (r := r) G y
    rw [e, List.getElem?_append_left (List.getElem?_eq_some_iff.1 hk).1]; exact hk
theorem origin_scans {s : St} {r : RS} (xs : List Int) (m : Nat) : Origin s r xs (scans s r xs m) := by
  induction m with
  | zero => rw [scans_zero]; exact origin_roots xs (by intro m i h; simp at h) (fun _ h => h)
  | succ m ih =>
    rw [scans_succ]
    unfold scan1
    cases e : (scans s r xs m)[m]? with
    | none => exact ih
    | some g => exact origin_fields _ ih e (fun _ h => h)
theorem reach_origin (s : St) (r : RS) (xs : List Int) : Origin s r xs (reachG s r xs) := origin_scans xs _
/-- What Get, Tag and Leads tell of a block by its word. -/
theorem Rep.fieldOf {s : St} {r : RS} (h : Rep s r) {i : Nat} {b : Blk} (hb : r.L[i]? = some b) (hs : s.top ≤ 100000) {j : Nat} (hj : j < b.F.length) : s.get (2 * (b.ad : Int)) j = b.F.getD j 0 ∧ s.fieldE (2 * (b.ad : Int)) j = 0 := by
  obtain ⟨hf, _⟩ := h.word hb hs
  have hin := h.inside hb
  have hE : s.fieldE (2 * (b.ad : Int)) j = 0 := by
    unfold St.fieldE
    rw [hf, if_neg (by show ¬ ((b.ad : Int) = 0); omega), (h.tagAt hb).2, if_neg (by omega)]
  refine ⟨?_, hE⟩
  unfold St.get
  rw [if_pos hE, hf]
  show s.C ((b.ad : Int) + j).toNat = _
  rw [show ((b.ad : Int) + j).toNat = b.ad + j from by omega, h.fld i b hb j _ (List.getElem?_eq_getElem hj), List.getD_eq_getElem?_getD, List.getElem?_eq_getElem hj]
  rfl
theorem Rep.tagOf {s : St} {r : RS} (h : Rep s r) {i : Nat} {b : Blk} (hb : r.L[i]? = some b) (hs : s.top ≤ 100000) : s.tag (2 * (b.ad : Int)) = b.tag := by
  obtain ⟨hf, _⟩ := h.word hb hs
  have hin := h.inside hb
  unfold St.tag
  rw [hf, if_neg (by show ¬ ((b.ad : Int) = 0); omega)]
  exact (h.tagAt hb).1
theorem blkAt_some {r : RS} {i : Nat} (h : i < r.L.length) : r.L[i]? = some (blkAt r i) := by
  unfold blkAt; rw [List.getD_eq_getElem?_getD, List.getElem?_eq_getElem h]; rfl
theorem lead_ad {s : St} {r : RS} (h : Rep s r) {x : Int} {i : Nat} (e : leadI s r x = some i) : (s.find x).1 = (blkAt r i).ad := by
  obtain ⟨b, hb, hf⟩ := lead_of h e
  rw [blkAt_of hb]; exact hf
end Go.Proofs.Ytjnlfnecmiklhaa
