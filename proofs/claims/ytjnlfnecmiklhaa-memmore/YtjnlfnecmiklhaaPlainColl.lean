/-
  A collection, told plainly: which block a word leads to; which blocks are in reach, in the order in which they are met; where each lies behind it, and what its words are then. Plain; no program.
-/
import Derived.Test.YtjnlfnecmiklhaaPlainStep
namespace Go.Proofs.Ytjnlfnecmiklhaa
open Go.RowKit Go.Deep
set_option linter.unusedVariables false

/-- Which block a word leads to. -/
def leadI (s : St) (r : RS) (x : Int) : Option Nat := if (s.find x).1 = 0 then none else r.L.findIdx? (fun b => decide ((b.ad : Int) = (s.find x).1))
def visit (s : St) (r : RS) (G : List Nat) (x : Int) : List Nat :=
  match leadI s r x with
  | none => G
  | some i => if i ∈ G then G else G ++ [i]
def visits (s : St) (r : RS) (G : List Nat) (xs : List Int) : List Nat := xs.foldl (visit s r) G
/-- The words of a block. -/
def wordsOf (b : Blk) : List Int := if b.tag = 202 then [] else b.F
def blkAt (r : RS) (i : Nat) : Blk := r.L.getD i ⟨0, 0, []⟩
def scan1 (s : St) (r : RS) (G : List Nat) (k : Nat) : List Nat :=
  match G[k]? with
  | none => G
  | some i => visits s r G (wordsOf (blkAt r i))
def scans (s : St) (r : RS) (xs : List Int) (m : Nat) : List Nat := (List.range m).foldl (scan1 s r) (visits s r [] xs)
/-- The blocks in reach, in the order in which they are met. -/
def reachG (s : St) (r : RS) (xs : List Int) : List Nat := scans s r xs r.L.length
def lenG (r : RS) (G : List Nat) : Nat := lenB (G.map (blkAt r))
/-- Where block k of those that were met lies. -/
def placeG (r : RS) (B : Nat) (G : List Nat) (k : Nat) : Nat := B + lenG r (G.take k) + 1
/-- What a word is now. -/
def newW (s : St) (r : RS) (B : Nat) (G : List Nat) (x : Int) : Int :=
  match leadI s r x with
  | none => x
  | some i => 2 * ((placeG r B G (G.idxOf i) : Nat) + (s.find x).2)
/-- What block k of those that were met is now. -/
def newB (s : St) (r : RS) (B : Nat) (G : List Nat) (k : Nat) : Blk :=
  ⟨placeG r B G k, (blkAt r (G.getD k 0)).tag, if (blkAt r (G.getD k 0)).tag = 202 then (blkAt r (G.getD k 0)).F else (blkAt r (G.getD k 0)).F.map (newW s r B G)⟩
def otherB (r : RS) : Nat := r.n * (1 - r.which)
def collR (s : St) (r : RS) (xs : List Int) : RS := ⟨r.n, 1 - r.which, (List.range (reachG s r xs).length).map (newB s r (otherB r) (reachG s r xs))⟩
def collW (s : St) (r : RS) (xs : List Int) (x : Int) : Int := newW s r (otherB r) (reachG s r xs) x

def listX (X : Nat → Int) (m : Nat) : List Int := (List.range m).map X

/-! ### Which block a word leads to -/
theorem Rep.block {s : St} {r : RS} (h : Rep s r) {x : Int} (g : (s.find x).1 ≠ 0) : ∃ (k : Nat) (b : Blk), r.L[k]? = some b ∧ (s.find x).1 = b.ad := by
  unfold St.find at g ⊢
  split at g
  · rename_i h1
    rw [if_pos h1]
    obtain ⟨i, b, hb, e⟩ := (h.blk _).1 h1
    exact ⟨i, b, hb, e.symm⟩
  · rename_i h1
    rw [if_neg h1]
    split at g
    · exact absurd rfl g
    · rename_i h2
      rw [if_neg h2]
      split at g
      · rename_i h3
        rw [if_pos h3]
        obtain ⟨_, h4⟩ := h3
        unfold St.isInr at h4
        simp only [Bool.and_eq_true] at h4
        obtain ⟨i, b, hb, e⟩ := (h.blk _).1 h4.1.1
        exact ⟨i, b, hb, e.symm⟩
      · exact absurd rfl g
theorem leadI_none {s : St} {r : RS} {x : Int} (g : (s.find x).1 = 0) : leadI s r x = none := by unfold leadI; rw [if_pos g]
theorem leadI_some {s : St} {r : RS} (h : Rep s r) {x : Int} {i : Nat} {b : Blk} (hb : r.L[i]? = some b) (e : (s.find x).1 = b.ad) : leadI s r x = some i := by
  have hin := h.inside hb
  unfold leadI
  rw [if_neg (by rw [e]; omega)]
  rw [List.findIdx?_eq_some_iff_getElem]
  have hi := (List.getElem?_eq_some_iff.1 hb).1
  have hbi := (List.getElem?_eq_some_iff.1 hb).2
  refine ⟨hi, by rw [hbi, e]; simp, fun j hj => ?_⟩
  have hjl : j < r.L.length := by omega
  simp only [decide_eq_true_eq]
  intro e2
  have := h.inj (List.getElem?_eq_getElem hjl) hb (by rw [e] at e2; omega)
  omega
theorem lead_cases {s : St} {r : RS} (h : Rep s r) (x : Int) : ((s.find x).1 = 0 ∧ leadI s r x = none) ∨ ∃ i b, r.L[i]? = some b ∧ (s.find x).1 = b.ad ∧ leadI s r x = some i := by
  by_cases g : (s.find x).1 = 0
  · exact Or.inl ⟨g, leadI_none g⟩
  · obtain ⟨i, b, hb, e⟩ := h.block g
    exact Or.inr ⟨i, b, hb, e, leadI_some h hb e⟩
theorem lead_of {s : St} {r : RS} (h : Rep s r) {x : Int} {i : Nat} (e : leadI s r x = some i) : ∃ b, r.L[i]? = some b ∧ (s.find x).1 = b.ad := by
  rcases lead_cases h x with ⟨_, e2⟩ | ⟨j, b, hb, e1, e2⟩
  · rw [e] at e2; cases e2
  · rw [e] at e2; cases e2; exact ⟨b, hb, e1⟩
theorem lead_lt {s : St} {r : RS} (h : Rep s r) {x : Int} {i : Nat} (e : leadI s r x = some i) : i < r.L.length := by
  obtain ⟨b, hb, _⟩ := lead_of h e
  exact (List.getElem?_eq_some_iff.1 hb).1

/-! ### What is met, and in which order -/
def GoodG (r : RS) (G : List Nat) : Prop := G.Nodup ∧ ∀ i, i ∈ G → i < r.L.length
theorem visit_none {s : St} {r : RS} {G : List Nat} {x : Int} (e : leadI s r x = none) : visit s r G x = G := by unfold visit; rw [e]
theorem visit_old {s : St} {r : RS} {G : List Nat} {x : Int} {i : Nat} (e : leadI s r x = some i) (h : i ∈ G) : visit s r G x = G := by unfold visit; rw [e]; show (if i ∈ G then G else _) = G; rw [if_pos h]
theorem visit_new {s : St} {r : RS} {G : List Nat} {x : Int} {i : Nat} (e : leadI s r x = some i) (h : ¬ i ∈ G) : visit s r G x = G ++ [i] := by unfold visit; rw [e]; show (if i ∈ G then G else _) = _; rw [if_neg h]
theorem visit_ext {s : St} {r : RS} (G : List Nat) (x : Int) : ∃ T, visit s r G x = G ++ T := by
  cases e : leadI s r x with
  | none => exact ⟨[], by rw [visit_none e]; simp⟩
  | some i =>
    by_cases h : i ∈ G
    · exact ⟨[], by rw [visit_old e h]; simp⟩
    · exact ⟨[i], visit_new e h⟩
theorem visit_good {s : St} {r : RS} (hr : Rep s r) {G : List Nat} (h : GoodG r G) (x : Int) : GoodG r (visit s r G x) := by
  cases e : leadI s r x with
  | none => rw [visit_none e]; exact h
  | some i =>
    by_cases hi : i ∈ G
    · rw [visit_old e hi]; exact h
    · rw [visit_new e hi]
      refine ⟨?_, ?_⟩
      · rw [List.nodup_append]
        refine ⟨h.1, by simp, ?_⟩
        intro a ha b hb
        simp at hb
        rintro rfl
        exact hi (hb ▸ ha)
      · intro j hj
        rw [List.mem_append] at hj
        rcases hj with hj | hj
        · exact h.2 j hj
        · simp at hj; subst hj; exact lead_lt hr e
theorem visit_has {s : St} {r : RS} {G : List Nat} {x : Int} {i : Nat} (e : leadI s r x = some i) : i ∈ visit s r G x := by
  by_cases h : i ∈ G
  · rw [visit_old e h]; exact h
  · rw [visit_new e h]; simp
theorem visits_cons (s : St) (r : RS) (G : List Nat) (x : Int) (xs : List Int) : visits s r G (x :: xs) = visits s r (visit s r G x) xs := rfl
theorem visits_append (s : St) (r : RS) (G : List Nat) (xs ys : List Int) : visits s r G (xs ++ ys) = visits s r (visits s r G xs) ys := by unfold visits; rw [List.foldl_append]
theorem visits_ext {s : St} {r : RS} (xs : List Int) : ∀ (G : List Nat), ∃ T, visits s r G xs = G ++ T := by
  induction xs with
  | nil => intro G; exact ⟨[], by simp [visits]⟩
  | cons x xs ih =>
    intro G
    obtain ⟨T1, e1⟩ := visit_ext (s := s) (r := r) G x
    obtain ⟨T2, e2⟩ := ih (visit s r G x)
    exact ⟨T1 ++ T2, by rw [visits_cons, e2, e1, List.append_assoc]⟩
theorem visits_good {s : St} {r : RS} (hr : Rep s r) (xs : List Int) : ∀ {G : List Nat}, GoodG r G → GoodG r (visits s r G xs) := by
  induction xs with
  | nil => intro G h; exact h
  | cons x xs ih => intro G h; rw [visits_cons]; exact ih (visit_good hr h x)
theorem visits_has {s : St} {r : RS} (xs : List Int) : ∀ {G : List Nat} {x : Int} {i : Nat}, x ∈ xs → leadI s r x = some i → i ∈ visits s r G xs := by
  induction xs with
  | nil => intro G x i h; cases h
  | cons y xs ih =>
    intro G x i h e
    rw [visits_cons]
    rcases List.mem_cons.1 h with rfl | h
    · obtain ⟨T, e2⟩ := visits_ext (s := s) (r := r) xs (visit s r G x)
      rw [e2, List.mem_append]
      exact Or.inl (visit_has e)
    · exact ih h e
theorem scan1_ext {s : St} {r : RS} (G : List Nat) (k : Nat) : ∃ T, scan1 s r G k = G ++ T := by
  unfold scan1
  cases G[k]? with
  | none => exact ⟨[], by simp⟩
  | some i => exact visits_ext _ _
theorem scan1_good {s : St} {r : RS} (hr : Rep s r) {G : List Nat} (h : GoodG r G) (k : Nat) : GoodG r (scan1 s r G k) := by
  unfold scan1
  cases G[k]? with
  | none => exact h
  | some i => exact visits_good hr _ h
theorem scans_zero (s : St) (r : RS) (xs : List Int) : scans s r xs 0 = visits s r [] xs := rfl
theorem scans_succ (s : St) (r : RS) (xs : List Int) (m : Nat) : scans s r xs (m + 1) = scan1 s r (scans s r xs m) m := by
  unfold scans; rw [List.range_succ, List.foldl_append]; rfl
theorem goodG_nil (r : RS) : GoodG r [] := ⟨List.nodup_nil, fun i h => by cases h⟩
theorem scans_good {s : St} {r : RS} (hr : Rep s r) (xs : List Int) (m : Nat) : GoodG r (scans s r xs m) := by
  induction m with
  | zero => exact visits_good hr _ (goodG_nil r)
  | succ m ih => rw [scans_succ]; exact scan1_good hr ih m
theorem scans_ext {s : St} {r : RS} (xs : List Int) {m m' : Nat} (h : m ≤ m') : ∃ T, scans s r xs m' = scans s r xs m ++ T := by
  induction m' with
  | zero => have : m = 0 := by omega
            subst this; exact ⟨[], by simp⟩
  | succ m' ih =>
    by_cases e : m = m' + 1
    · subst e; exact ⟨[], by simp⟩
    · obtain ⟨T1, e1⟩ := ih (by omega)
      obtain ⟨T2, e2⟩ := scan1_ext (s := s) (r := r) (scans s r xs m') m'
      exact ⟨T1 ++ T2, by rw [scans_succ, e2, e1, List.append_assoc]⟩
/-- Where the scan has come to its end nothing more is met. -/
theorem scans_end {s : St} {r : RS} (xs : List Int) {m : Nat} (h : (scans s r xs m).length ≤ m) : ∀ m', m ≤ m' → scans s r xs m' = scans s r xs m := by
  intro m' hm
  induction m' with
  | zero => have : m = 0 := by omega
            subst this; rfl
  | succ m' ih =>
    by_cases e : m = m' + 1
    · subst e; rfl
    · have e1 := ih (by omega)
      rw [scans_succ, e1]
      unfold scan1
      rw [List.getElem?_eq_none (by omega)]

/-! ### Sizes -/
def sumN : List Nat → Nat
  | [] => 0
  | x :: l => x + sumN l
theorem sumN_append (a b : List Nat) : sumN (a ++ b) = sumN a + sumN b := by
  induction a with
  | nil => simp [sumN]
  | cons x l ih => simp [sumN, ih]; omega
theorem sum_erase (f : Nat → Nat) (n : Nat) : ∀ G : List Nat, n ∈ G → sumN (G.map f) = f n + sumN ((G.erase n).map f) := by
  intro G
  induction G with
  | nil => intro h; cases h
  | cons x l ih =>
    intro h
    by_cases e : x = n
    · subst e; simp [sumN]
    · have hn : n ∈ l := by
        rcases List.mem_cons.1 h with h | h
        · exact absurd h.symm e
        · exact h
      rw [List.erase_cons_tail (by simpa using e)]
      simp only [List.map_cons, sumN]
      have := ih hn
      omega
theorem sum_le (f : Nat → Nat) : ∀ (n : Nat) (G : List Nat), G.Nodup → (∀ i, i ∈ G → i < n) → sumN (G.map f) ≤ sumN ((List.range n).map f) ∧ G.length ≤ n := by
  intro n
  induction n with
  | zero =>
    intro G _ h2
    cases G with
    | nil => exact ⟨Nat.le_refl _, Nat.le_refl _⟩
    | cons x l => exact absurd (h2 x (by simp)) (by omega)
  | succ n ih =>
    intro G h1 h2
    rw [List.range_succ, List.map_append, sumN_append]
    by_cases h : n ∈ G
    · have h3 := ih (G.erase n) (h1.erase n) (fun i hi => by
        have hi2 := (List.Nodup.mem_erase_iff h1).1 hi
        have := h2 i hi2.2
        have := hi2.1
        omega)
      have h4 := sum_erase f n G h
      have h5 : (G.erase n).length = G.length - 1 := List.length_erase_of_mem h
      have h6 : 0 < G.length := List.length_pos_of_mem h
      simp only [List.map_cons, List.map_nil, sumN]
      omega
    · have h3 := ih G h1 (fun i hi => by
        have := h2 i hi
        have : i ≠ n := fun e => h (e ▸ hi)
        omega)
      omega
theorem lenB_sum (l : List Blk) : lenB l = sumN (l.map fun b => 1 + b.F.length) := by
  induction l with
  | nil => rfl
  | cons b l ih => simp [lenB, sumN, ih]
theorem range_map_blk (r : RS) : (List.range r.L.length).map (blkAt r) = r.L := by
  apply List.ext_getElem
  · simp
  · intro i h1 h2
    simp [blkAt, h2]
theorem goodG_len {r : RS} {G : List Nat} (h : GoodG r G) : lenG r G ≤ lenB r.L ∧ G.length ≤ r.L.length := by
  have := sum_le (fun i => 1 + (blkAt r i).F.length) r.L.length G h.1 h.2
  refine ⟨?_, this.2⟩
  unfold lenG
  rw [lenB_sum, List.map_map, show lenB r.L = lenB ((List.range r.L.length).map (blkAt r)) from by rw [range_map_blk], lenB_sum, List.map_map]
  exact this.1
theorem lenG_append (r : RS) (a b : List Nat) : lenG r (a ++ b) = lenG r a + lenG r b := by unfold lenG; rw [List.map_append, lenB_append]
theorem lenG_one (r : RS) (i : Nat) : lenG r [i] = 1 + (blkAt r i).F.length := by unfold lenG; simp [lenB]
theorem placeG_ext (r : RS) (B : Nat) (G T : List Nat) {k : Nat} (h : k ≤ G.length) : placeG r B (G ++ T) k = placeG r B G k := by
  unfold placeG; rw [List.take_append_of_le_length h]
theorem blkAt_of {r : RS} {i : Nat} {b : Blk} (h : r.L[i]? = some b) : blkAt r i = b := by unfold blkAt; rw [List.getD_eq_getElem?_getD, h]; rfl
/-- What a word is now hangs on those alone that were met till it was met. -/
theorem newW_ext {s : St} {r : RS} (B : Nat) (G T : List Nat) {x : Int} (h : ∀ i, leadI s r x = some i → i ∈ G) : newW s r B (G ++ T) x = newW s r B G x := by
  unfold newW
  cases e : leadI s r x with
  | none => rfl
  | some i =>
    have hi := h i e
    show 2 * _ = 2 * _
    rw [List.idxOf_append, if_pos hi, placeG_ext r B G T (List.idxOf_le_length)]
/-- The scan is at its end: the words of all that was met lead to what was met. -/
theorem reach_end {s : St} {r : RS} (hr : Rep s r) (xs : List Int) : ∀ m, (scans s r xs m).length ≤ m → reachG s r xs = scans s r xs m := by
  intro m hm
  unfold reachG
  by_cases h : m ≤ r.L.length
  · exact scans_end xs hm _ h
  · have := (goodG_len (scans_good hr xs r.L.length)).2
    exact (scans_end xs this m (by omega)).symm
theorem reach_len {s : St} {r : RS} (hr : Rep s r) (xs : List Int) : (reachG s r xs).length ≤ r.L.length := (goodG_len (scans_good hr xs _)).2
theorem reach_good {s : St} {r : RS} (hr : Rep s r) (xs : List Int) : GoodG r (reachG s r xs) := scans_good hr xs _
theorem reach_root {s : St} {r : RS} (hr : Rep s r) {xs : List Int} {x : Int} (hx : x ∈ xs) {i : Nat} (e : leadI s r x = some i) : i ∈ reachG s r xs := by
  obtain ⟨T, e2⟩ := scans_ext (s := s) (r := r) xs (Nat.zero_le r.L.length)
  unfold reachG
  rw [e2, List.mem_append, scans_zero]
  exact Or.inl (visits_has xs hx e)
theorem reach_field {s : St} {r : RS} (hr : Rep s r) {xs : List Int} {k j : Nat} (hk : (reachG s r xs)[k]? = some j) {x : Int} (hx : x ∈ wordsOf (blkAt r j)) {i : Nat} (e : leadI s r x = some i) : i ∈ reachG s r xs := by
  have hkl := (List.getElem?_eq_some_iff.1 hk).1
  have hl := reach_len hr xs
  -- block k was met ahead of step k, or at it the scan is at its end
  by_cases hm : k < (scans s r xs k).length
  · obtain ⟨T, e2⟩ := scans_ext (s := s) (r := r) xs (show k ≤ r.L.length by omega)
    have hj : (scans s r xs k)[k]? = some j := by
      have h2 : reachG s r xs = scans s r xs k ++ T := e2
      rw [h2, List.getElem?_append_left hm] at hk
      exact hk
    obtain ⟨T2, e3⟩ := scans_ext (s := s) (r := r) xs (show k + 1 ≤ r.L.length by omega)
    have h3 : reachG s r xs = scans s r xs (k + 1) ++ T2 := e3
    rw [h3, List.mem_append, scans_succ]
    refine Or.inl ?_
    unfold scan1
    rw [hj]
    exact visits_has _ hx e
  · have := reach_end hr xs k (by omega)
    rw [this] at hkl
    exact absurd hkl hm
end Go.Proofs.Ytjnlfnecmiklhaa
