/-
  What can be seen behind a collection is what could be seen ahead of it: each word leads where it led, at its distance; the blocks are met in the order in which they lie. Plain; no program.
  What is told of each word that can be seen is the same behind a collection; two collections, and three. Plain; no program.
-/
import Derived.Test.YtjnlfnecmiklhaaPlainOrder
namespace Go.Proofs.Ytjnlfnecmiklhaa
open Go.RowKit Go.Deep
set_option linter.unusedVariables false

theorem Rep.find0 {s : St} {r : RS} (h : Rep s r) {x : Int} (g : addrW x = 0) : s.find x = (0, 0) := by
  have hb : ¬ s.isBlk 0 = true := by
    rw [h.blk]
    rintro ⟨i, b, hb, e⟩
    have := h.inside hb
    omega
  unfold St.find
  rw [g, if_neg hb, if_pos (by unfold St.inUse; simp; omega)]
/-- A word that leads to a block at a distance leads to an inner slot of it. -/
theorem Rep.inner {s : St} {r : RS} (h : Rep s r) (lo : ∀ i, 0 ≤ s.C i) (hi : ∀ i, s.C i ≤ 18446744073709551615) {x : Int} {i : Nat} {b : Blk} (hb : r.L[i]? = some b) (hf : (s.find x).1 = b.ad) : addrW x = b.ad + (s.find x).2 ∧ ((s.find x).2 = 0 ∨ Rep.hit b (addrW x)) := by
  have hin := h.inside hb
  unfold St.find at hf ⊢
  split at hf
  · rename_i h1
    rw [if_pos h1]
    have hf' : addrW x = b.ad := hf
    exact ⟨by show addrW x = (b.ad : Int) + 0; omega, Or.inl rfl⟩
  · rename_i h1
    rw [if_neg h1]
    split at hf
    · have hf' : (0 : Int) = b.ad := hf
      omega
    · rename_i h2
      rw [if_neg h2]
      split at hf
      · rename_i h3
        rw [if_pos h3]
        have hf' : addrW x - s.sizeAt (addrW x) = b.ad := hf
        refine ⟨by show addrW x = (b.ad : Int) + s.sizeAt (addrW x); omega, Or.inr ?_⟩
        obtain ⟨c1, c2⟩ := h3
        unfold St.isInr at c2
        simp only [Bool.and_eq_true, beq_iff_eq, decide_eq_true_eq] at c2
        obtain ⟨⟨d1, d2⟩, d3⟩ := c2
        rw [hf', (h.tagAt hb).1] at d2
        rw [hf', (h.tagAt hb).2] at d3
        have hz : 0 ≤ s.sizeAt (addrW x) := sizeW_lo _
        have hne : s.sizeAt (addrW x) ≠ 0 := by
          intro e
          apply h1
          rw [h.blk]
          exact ⟨i, b, hb, by omega⟩
        have hback := head_back _ (lo ((addrW x).toNat - 1)) (hi _) 201 c1 (by omega)
        have hlt : (addrW x - b.ad - 1).toNat < b.F.length := by omega
        refine ⟨d2, by omega, by omega, ?_⟩
        have hfl := h.fld i b hb _ _ (List.getElem?_eq_getElem hlt)
        rw [show b.ad + (addrW x - b.ad - 1).toNat = (addrW x).toNat - 1 from by omega] at hfl
        rw [List.getElem?_eq_getElem hlt, ← hfl, hback, show addrW x - (b.ad : Int) = s.sizeAt (addrW x) from by omega]
        rfl
      · have hf' : (0 : Int) = b.ad := hf
        omega
theorem head_addr (t z : Int) : addrW (headW t z) = 0 := by
  unfold headW
  split
  · rfl
  · unfold addrW intW
    rw [if_pos (Or.inl (by omega))]
section
variable {s s' : St} {r : RS} {xs : List Int}
theorem newB_at (k : Nat) (hk : k < (reachG s r xs).length) : (collR s r xs).L[k]? = some (newB s r (otherB r) (reachG s r xs) k) := by
  unfold collR
  simp [hk]
/-- Words that may be seen: the roots, the words of blocks in reach. -/
def Seen (s : St) (r : RS) (xs : List Int) (x : Int) : Prop := x ∈ xs ∨ ∃ (k g : Nat), (reachG s r xs)[k]? = some g ∧ x ∈ wordsOf (blkAt r g)
theorem seen_met (hr : Rep s r) {x : Int} (h : Seen s r xs x) {i : Nat} (e : leadI s r x = some i) : i ∈ reachG s r xs := by
  rcases h with h | ⟨k, g, hk, hx⟩
  · exact reach_root hr h e
  · exact reach_field hr hk hx e
/-- Where a word leads behind the collection. -/
theorem again_lead (hr : Rep s r) (lo : ∀ i, 0 ≤ s.C i) (hi : ∀ i, s.C i ≤ 18446744073709551615) (hr' : Rep s' (collR s r xs)) (ht' : s'.top ≤ 100000) {x : Int} (hx : Seen s r xs x) {i : Nat} (e : leadI s r x = some i) :
    s'.find (newW s r (otherB r) (reachG s r xs) x) = (((placeG r (otherB r) (reachG s r xs) ((reachG s r xs).idxOf i) : Nat) : Int), (s.find x).2) ∧ leadI s' (collR s r xs) (newW s r (otherB r) (reachG s r xs) x) = some ((reachG s r xs).idxOf i) := by
  have hmem := seen_met hr hx e
  have hkl : (reachG s r xs).idxOf i < (reachG s r xs).length := List.idxOf_lt_length_iff.2 hmem
  obtain ⟨b, hb, hf⟩ := lead_of hr e
  have hbk := blkAt_of hb
  have hgk : (reachG s r xs).getD ((reachG s r xs).idxOf i) 0 = i := by
    rw [List.getD_eq_getElem?_getD, List.getElem?_eq_getElem hkl]
    simp
  have hn := newB_at (s := s) (r := r) (xs := xs) _ hkl
  have hnw0 : newW s r (otherB r) (reachG s r xs) x = 2 * ((placeG r (otherB r) (reachG s r xs) ((reachG s r xs).idxOf i) : Nat) + (s.find x).2) := by unfold newW; rw [e]
  generalize (reachG s r xs).idxOf i = k at *
  have hbn : newB s r (otherB r) (reachG s r xs) k = ⟨placeG r (otherB r) (reachG s r xs) k, b.tag, if b.tag = 202 then b.F else b.F.map (newW s r (otherB r) (reachG s r xs))⟩ := by
    unfold newB; rw [hgk, hbk]
  rw [hbn] at hn
  have hin' := hr'.inside hn
  obtain ⟨a1, a2⟩ := hr.inner lo hi hb hf
  have hlen : (if b.tag = 202 then b.F else b.F.map (newW s r (otherB r) (reachG s r xs))).length = b.F.length := by split <;> simp
  have hfl := (hr.tag i b hb).2.2
  rw [hnw0]
  generalize placeG r (otherB r) (reachG s r xs) k = P at *
  have hP1 : s'.base + 1 ≤ P := hin'.1
  have hPt : P + (if b.tag = 202 then b.F else b.F.map (newW s r (otherB r) (reachG s r xs))).length ≤ s'.top := hin'.2
  rw [hlen] at hPt
  have key : s'.find (2 * ((P : Int) + (s.find x).2)) = ((P : Int), (s.find x).2) := by
    rcases a2 with h0 | ⟨q1, q2, q3, q4⟩
    · rw [h0]
      have ea : addrW (2 * ((P : Int) + 0)) = P := by unfold addrW; rw [if_neg (by omega)]; omega
      have := hr'.find_blk' (x := 2 * ((P : Int) + 0)) hn ea.symm
      exact this
    · have ed : addrW x - b.ad = (s.find x).2 := by omega
      rw [ed] at q2 q3 q4
      generalize (s.find x).2 = d at *
      have ea : addrW (2 * ((P : Int) + d)) = P + d := by unfold addrW; rw [if_neg (by omega)]; omega
      have hF : (if b.tag = 202 then b.F else b.F.map (newW s r (otherB r) (reachG s r xs))) = b.F.map (newW s r (otherB r) (reachG s r xs)) := by rw [if_neg (by omega)]
      rw [hF] at hn
      have hno : ∀ (j : Nat) (c : Blk), (collR s r xs).L[j]? = some c → (c.ad : Int) ≠ addrW (2 * ((P : Int) + d)) := by
        intro j c hc e2
        rw [ea] at e2
        rcases Nat.lt_trichotomy j k with hjk | hjk | hjk
        · have h3 := hr'.order hc hn hjk
          have h3' : c.ad + c.F.length + 1 ≤ P := h3
          omega
        · subst hjk
          rw [hn] at hc
          have e4 : c.ad = P := by
            have := (Option.some.inj hc).symm
            rw [this]
          omega
        · have h3 := hr'.order hn hc hjk
          have h3' : P + (b.F.map (newW s r (otherB r) (reachG s r xs))).length + 1 ≤ c.ad := h3
          rw [List.length_map] at h3'
          omega
      have hhit : Rep.hit ⟨P, b.tag, b.F.map (newW s r (otherB r) (reachG s r xs))⟩ (addrW (2 * ((P : Int) + d))) := by
        rw [ea]
        have e5 : (P : Int) + d - (P : Int) = d := by omega
        refine ⟨q1, ?_, ?_, ?_⟩
        · show 1 ≤ (P : Int) + d - (P : Int); omega
        · show (P : Int) + d - (P : Int) < ((b.F.map (newW s r (otherB r) (reachG s r xs))).length : Nat)
          rw [List.length_map]; omega
        · show (b.F.map (newW s r (otherB r) (reachG s r xs)))[((P : Int) + d - (P : Int) - 1).toNat]? = some (headW 201 ((P : Int) + d - (P : Int)))
          rw [e5, List.getElem?_map, q4]
          show some (newW s r (otherB r) (reachG s r xs) (headW 201 d)) = some (headW 201 d)
          have hnone : leadI s r (headW 201 d) = none := leadI_none (by rw [hr.find0 (head_addr 201 d)])
          unfold newW
          rw [hnone]
      have := hr'.find_hit hno hn hhit
      rw [this, ea]
      show ((P : Int), (P : Int) + d - (P : Int)) = _
      rw [show (P : Int) + d - (P : Int) = d from by omega]
  exact ⟨key, leadI_some hr' hn (by rw [key])⟩
/-- A word that leads to nothing, and is a number or 0, leads to nothing behind the collection. -/
theorem again_none {r' : RS} (hr' : Rep s' r') {B : Nat} {G : List Nat} {x : Int} (e : leadI s r x = none) (h0 : addrW x = 0) : newW s r B G x = x ∧ s'.find x = (0, 0) ∧ leadI s' r' x = none := by
  have hf := hr'.find0 h0
  exact ⟨by unfold newW; rw [e], hf, leadI_none (by rw [hf])⟩
/-- No word that may be seen is even and leads to nothing. -/
def NoStray (s : St) (r : RS) (xs : List Int) : Prop := ∀ x, Seen s r xs x → leadI s r x = none → addrW x = 0
theorem take_prefix {G0 T : List Nat} {i : Nat} (h : (G0 ++ T).Nodup) (hi : i ∈ G0 ++ T) : i ∈ G0 ↔ (G0 ++ T).idxOf i < G0.length := by
  rw [List.idxOf_append]
  constructor
  · intro hm
    rw [if_pos hm]
    exact List.idxOf_lt_length_iff.2 hm
  · intro hl
    by_cases hm : i ∈ G0
    · exact hm
    · rw [if_neg hm] at hl; omega
theorem again_visits (hr : Rep s r) (lo : ∀ i, 0 ≤ s.C i) (hi : ∀ i, s.C i ≤ 18446744073709551615) (hr' : Rep s' (collR s r xs)) (ht' : s'.top ≤ 100000) (hns : NoStray s r xs) (ys : List Int) :
    ∀ (G0 T : List Nat), visits s r G0 ys ++ T = reachG s r xs → (∀ y, y ∈ ys → Seen s r xs y) →
      visits s' (collR s r xs) (List.range G0.length) (ys.map (newW s r (otherB r) (reachG s r xs))) = List.range (visits s r G0 ys).length := by
  induction ys with
  | nil => intro G0 T _ _; rfl
  | cons y ys ih =>
    intro G0 T hT hy
    rw [List.map_cons, visits_cons, visits_cons]
    have hT' : visits s r (visit s r G0 y) ys ++ T = reachG s r xs := hT
    have step : visit s' (collR s r xs) (List.range G0.length) (newW s r (otherB r) (reachG s r xs) y) = List.range (visit s r G0 y).length := by
      cases e : leadI s r y with
      | none =>
        obtain ⟨e1, _, e3⟩ := again_none (s := s) (r := r) (B := otherB r) (G := reachG s r xs) hr' e (hns y (hy y (by simp)) e)
        rw [visit_none e, e1, visit_none e3]
      | some i =>
        obtain ⟨_, e2⟩ := again_lead hr lo hi hr' ht' (hy y (by simp)) e
        obtain ⟨T1, hT1⟩ := visits_ext (s := s) (r := r) ys (visit s r G0 y)
        by_cases hm : i ∈ G0
        · rw [visit_old e hm]
          obtain ⟨T2, hT2⟩ := visit_ext (s := s) (r := r) G0 y
          refine visit_old e2 ?_
          rw [List.mem_range]
          have hG : reachG s r xs = G0 ++ (T2 ++ (T1 ++ T)) := by rw [← hT', hT1, hT2]; simp
          rw [hG, List.idxOf_append, if_pos hm]
          exact List.idxOf_lt_length_iff.2 hm
        · have hv := visit_new (G := G0) e hm
          have hG : reachG s r xs = (G0 ++ [i]) ++ (T1 ++ T) := by rw [← hT', hT1, hv]; simp
          have hidx : (reachG s r xs).idxOf i = G0.length := by
            rw [hG, List.idxOf_append, if_pos (by simp), List.idxOf_append, if_neg hm, List.idxOf_cons_self]; omega
          rw [hv]
          rw [hidx] at e2
          rw [visit_new e2 (by simp), List.length_append]
          exact (List.range_succ).symm
    rw [step]
    exact ih _ T hT' (fun z hz => hy z (by simp [hz]))
/-- Behind a collection the blocks are met in the order in which they lie. -/
theorem again_scans (hr : Rep s r) (lo : ∀ i, 0 ≤ s.C i) (hi : ∀ i, s.C i ≤ 18446744073709551615) (hr' : Rep s' (collR s r xs)) (ht' : s'.top ≤ 100000) (hns : NoStray s r xs) (m : Nat) (hm : m ≤ r.L.length) :
    scans s' (collR s r xs) (xs.map (newW s r (otherB r) (reachG s r xs))) m = List.range (scans s r xs m).length := by
  induction m with
  | zero =>
    rw [scans_zero, scans_zero]
    obtain ⟨T, hT⟩ := scans_ext (s := s) (r := r) xs (Nat.zero_le r.L.length)
    rw [scans_zero] at hT
    exact again_visits hr lo hi hr' ht' hns xs [] T hT.symm (fun y h => Or.inl h)
  | succ m ih =>
    have ih' := ih (by omega)
    rw [scans_succ, scans_succ, ih']
    obtain ⟨T, hT⟩ := scans_ext (s := s) (r := r) xs hm
    have hT' : reachG s r xs = scans s r xs (m + 1) ++ T := hT
    rw [scans_succ] at hT'
    unfold scan1 at hT' ⊢
    cases e : (scans s r xs m)[m]? with
    | none =>
      have hl : (scans s r xs m).length ≤ m := by
        by_cases h : m < (scans s r xs m).length
        · rw [List.getElem?_eq_getElem h] at e; cases e
        · omega
      rw [List.getElem?_eq_none (by rw [List.length_range]; exact hl)]
    | some i =>
      rw [e] at hT'
      have hT2 : visits s r (scans s r xs m) (wordsOf (blkAt r i)) ++ T = reachG s r xs := hT'.symm
      have hml := (List.getElem?_eq_some_iff.1 e).1
      obtain ⟨T3, hT3⟩ := scans_ext (s := s) (r := r) xs (show m ≤ r.L.length by omega)
      have hT3' : reachG s r xs = scans s r xs m ++ T3 := hT3
      have hrk : (reachG s r xs)[m]? = some i := by rw [hT3', List.getElem?_append_left hml]; exact e
      have hrl := (List.getElem?_eq_some_iff.1 hrk).1
      have hnb := newB_at (s := s) (r := r) (xs := xs) m hrl
      rw [List.getElem?_eq_getElem (by rw [List.length_range]; exact hml)]
      show visits s' (collR s r xs) _ (wordsOf (blkAt (collR s r xs) ((List.range (scans s r xs m).length)[m]'(by rw [List.length_range]; exact hml)))) = _
      rw [List.getElem_range, blkAt_of hnb]
      have hw : wordsOf (newB s r (otherB r) (reachG s r xs) m) = (wordsOf (blkAt r i)).map (newW s r (otherB r) (reachG s r xs)) := by
        have hg : (reachG s r xs).getD m 0 = i := by rw [List.getD_eq_getElem?_getD, hrk]; rfl
        unfold wordsOf newB
        rw [hg]
        by_cases ht : (blkAt r i).tag = 202
        · simp [ht]
        · simp [ht]
      rw [hw]
      exact again_visits hr lo hi hr' ht' hns _ _ T hT2 (fun y h => Or.inr ⟨m, i, hrk, h⟩)
theorem again_reach (hr : Rep s r) (lo : ∀ i, 0 ≤ s.C i) (hi : ∀ i, s.C i ≤ 18446744073709551615) (hr' : Rep s' (collR s r xs)) (ht' : s'.top ≤ 100000) (hns : NoStray s r xs) :
    reachG s' (collR s r xs) (xs.map (newW s r (otherB r) (reachG s r xs))) = List.range (reachG s r xs).length := by
  have hl := reach_len hr xs
  have h1 := again_scans hr lo hi hr' ht' hns (reachG s r xs).length hl
  have h2 : (scans s r xs (reachG s r xs).length).length ≤ (reachG s r xs).length := by
    obtain ⟨T, hT⟩ := scans_ext (s := s) (r := r) xs hl
    have hT' : reachG s r xs = scans s r xs (reachG s r xs).length ++ T := hT
    have := congrArg List.length hT'
    rw [List.length_append] at this
    omega
  have h3 := reach_end hr xs _ h2
  show scans s' (collR s r xs) _ (collR s r xs).L.length = _
  rw [collR_len, h1, ← h3]
end
end Go.Proofs.Ytjnlfnecmiklhaa

namespace Go.Proofs.Ytjnlfnecmiklhaa
open Go.RowKit Go.Deep
set_option linter.unusedVariables false

/-- A word as it is met: its block's place among those that were met, its distance; or the word itself. -/
def gNode (s : St) (r : RS) (G : List Nat) (x : Int) : Int × Int × Int :=
  match leadI s r x with
  | none => (-1, 0, x)
  | some i => (((G.idxOf i : Nat) : Int), (s.find x).2, 0)
theorem gNode_none {s : St} {r : RS} {G : List Nat} {x : Int} (e : leadI s r x = none) : gNode s r G x = (-1, 0, x) := by unfold gNode; rw [e]
theorem gNode_some {s : St} {r : RS} {G : List Nat} {x : Int} {i : Nat} (e : leadI s r x = some i) : gNode s r G x = (((G.idxOf i : Nat) : Int), (s.find x).2, 0) := by unfold gNode; rw [e]
theorem newW_none {s : St} {r : RS} {B : Nat} {G : List Nat} {x : Int} (e : leadI s r x = none) : newW s r B G x = x := by unfold newW; rw [e]
theorem newW_some {s : St} {r : RS} {B : Nat} {G : List Nat} {x : Int} {i : Nat} (e : leadI s r x = some i) : newW s r B G x = 2 * ((placeG r B G (G.idxOf i) : Nat) + (s.find x).2) := by unfold newW; rw [e]
theorem idx_range {k K : Nat} (h : k < K) : (List.range K).idxOf k = k := by
  induction K with
  | zero => omega
  | succ K ih =>
    rw [List.range_succ, List.idxOf_append]
    by_cases e : k < K
    · rw [if_pos (by simpa using e)]; exact ih e
    · have : k = K := by omega
      subst this
      rw [if_neg (by simp), List.idxOf_cons_self]; simp
section
variable {s s' : St} {r : RS} {xs : List Int}
theorem again_node (hr : Rep s r) (lo : ∀ i, 0 ≤ s.C i) (hi : ∀ i, s.C i ≤ 18446744073709551615) (hr' : Rep s' (collR s r xs)) (ht' : s'.top ≤ 100000) (hns : NoStray s r xs) {x : Int} (hx : Seen s r xs x) :
    gNode s' (collR s r xs) (List.range (reachG s r xs).length) (newW s r (otherB r) (reachG s r xs) x) = gNode s r (reachG s r xs) x := by
  cases e : leadI s r x with
  | none =>
    obtain ⟨e1, e2, e3⟩ := again_none (s := s) (r := r) (B := otherB r) (G := reachG s r xs) hr' e (hns x hx e)
    rw [e1, gNode_none e3, gNode_none e]
  | some i =>
    obtain ⟨e1, e2⟩ := again_lead hr lo hi hr' ht' hx e
    have hk : (reachG s r xs).idxOf i < (reachG s r xs).length := List.idxOf_lt_length_iff.2 (seen_met hr hx e)
    rw [gNode_some e2, gNode_some e, idx_range hk, e1]
theorem again_tag {k : Nat} (hk : k < (reachG s r xs).length) : (blkAt (collR s r xs) k).tag = (blkAt r ((reachG s r xs).getD k 0)).tag ∧ (blkAt (collR s r xs) k).F.length = (blkAt r ((reachG s r xs).getD k 0)).F.length ∧
    (blkAt (collR s r xs) k).F = if (blkAt r ((reachG s r xs).getD k 0)).tag = 202 then (blkAt r ((reachG s r xs).getD k 0)).F else (blkAt r ((reachG s r xs).getD k 0)).F.map (newW s r (otherB r) (reachG s r xs)) := by
  rw [blkAt_of (newB_at (s := s) (r := r) (xs := xs) k hk)]
  exact ⟨rfl, newB_len _ _ _ _ _, rfl⟩
/-- What may be seen behind a collection is what words are then that could be seen ahead of it. -/
theorem again_seen (hr : Rep s r) (lo : ∀ i, 0 ≤ s.C i) (hi : ∀ i, s.C i ≤ 18446744073709551615) (hr' : Rep s' (collR s r xs)) (ht' : s'.top ≤ 100000) (hns : NoStray s r xs) {y : Int} (hy : Seen s' (collR s r xs) (xs.map (newW s r (otherB r) (reachG s r xs))) y) : ∃ x, Seen s r xs x ∧ y = newW s r (otherB r) (reachG s r xs) x := by
  rcases hy with hy | ⟨k, g, hk, hw⟩
  · obtain ⟨x, hx, e⟩ := List.mem_map.1 hy
    exact ⟨x, Or.inl hx, e.symm⟩
  · rw [again_reach hr lo hi hr' ht' hns] at hk
    obtain ⟨hl, e⟩ := List.getElem?_eq_some_iff.1 hk
    rw [List.getElem_range] at e
    subst e
    have hkl : k < (reachG s r xs).length := by simpa using hl
    obtain ⟨t1, _, t3⟩ := again_tag (s := s) (r := r) (xs := xs) hkl
    have hgk : (reachG s r xs)[k]? = some ((reachG s r xs).getD k 0) := by rw [List.getD_eq_getElem?_getD, List.getElem?_eq_getElem hkl]; rfl
    unfold wordsOf at hw
    rw [t1, t3] at hw
    split at hw
    · cases hw
    · rename_i ht
      obtain ⟨x, hx, e⟩ := List.mem_map.1 hw
      exact ⟨x, Or.inr ⟨k, _, hgk, by unfold wordsOf; rw [if_neg ht]; exact hx⟩, e.symm⟩
theorem again_noStray (hr : Rep s r) (lo : ∀ i, 0 ≤ s.C i) (hi : ∀ i, s.C i ≤ 18446744073709551615) (hr' : Rep s' (collR s r xs)) (ht' : s'.top ≤ 100000) (hns : NoStray s r xs) : NoStray s' (collR s r xs) (xs.map (newW s r (otherB r) (reachG s r xs))) := by
  intro y hy e
  obtain ⟨x, hx, rfl⟩ := again_seen hr lo hi hr' ht' hns hy
  cases e2 : leadI s r x with
  | none =>
    have h0 := hns x hx e2
    obtain ⟨e1, _, _⟩ := again_none (s := s) (r := r) (B := otherB r) (G := reachG s r xs) hr' e2 h0
    rw [e1]; exact h0
  | some i =>
    obtain ⟨_, e3⟩ := again_lead hr lo hi hr' ht' hx e2
    rw [e3] at e; cases e
theorem lenG_range (r' : RS) (k : Nat) : lenG r' ((List.range r'.L.length).take k) = lenB (r'.L.take k) := by
  unfold lenG
  rw [List.map_take, range_map_blk]
theorem coll_take (s : St) (r : RS) (xs : List Int) (k : Nat) : lenB ((collR s r xs).L.take k) = lenG r ((reachG s r xs).take k) := by
  unfold lenG
  refine lenB_congr _ _ ?_
  rw [List.map_take, List.map_take, List.map_take]
  congr 1
  exact coll_map s r _ _
/-- Behind a second collection all lies as it did behind the first one. -/
theorem again_take (hr : Rep s r) (lo : ∀ i, 0 ≤ s.C i) (hi : ∀ i, s.C i ≤ 18446744073709551615) (hr' : Rep s' (collR s r xs)) (ht' : s'.top ≤ 100000) (hns : NoStray s r xs) (k : Nat) :
    lenB ((collR s' (collR s r xs) (xs.map (newW s r (otherB r) (reachG s r xs)))).L.take k) = lenB ((collR s r xs).L.take k) := by
  rw [coll_take, again_reach hr lo hi hr' ht' hns, ← collR_len, lenG_range]
end
/-- Behind a third collection the roots are what they were behind the first one. -/
theorem thrice {s s1 s2 : St} {r : RS} {xs : List Int} (hr : Rep s r) (lo : ∀ i, 0 ≤ s.C i) (hi : ∀ i, s.C i ≤ 18446744073709551615) (hr1 : Rep s1 (collR s r xs)) (ht1 : s1.top ≤ 100000) (lo1 : ∀ i, 0 ≤ s1.C i) (hi1 : ∀ i, s1.C i ≤ 18446744073709551615)
    (hr2 : Rep s2 (collR s1 (collR s r xs) (xs.map (collW s r xs)))) (ht2 : s2.top ≤ 100000) (hns : NoStray s r xs) {x : Int} (hx : x ∈ xs) :
    collW s2 (collR s1 (collR s r xs) (xs.map (collW s r xs))) ((xs.map (collW s r xs)).map (collW s1 (collR s r xs) (xs.map (collW s r xs)))) (collW s1 (collR s r xs) (xs.map (collW s r xs)) (collW s r xs x)) = collW s r xs x := by
  have eq1 : xs.map (collW s r xs) = xs.map (newW s r (otherB r) (reachG s r xs)) := rfl
  have hns1 : NoStray s1 (collR s r xs) (xs.map (collW s r xs)) := again_noStray hr lo hi hr1 ht1 hns
  have hG1 : reachG s1 (collR s r xs) (xs.map (collW s r xs)) = List.range (reachG s r xs).length := again_reach hr lo hi hr1 ht1 hns
  have hG2 := again_reach hr1 lo1 hi1 hr2 ht2 hns1
  have hx1 : Seen s1 (collR s r xs) (xs.map (collW s r xs)) (collW s r xs x) := Or.inl (List.mem_map.2 ⟨x, hx, rfl⟩)
  cases e : leadI s r x with
  | none =>
    have h0 := hns x (Or.inl hx) e
    obtain ⟨e1, _, e3⟩ := again_none (s := s) (r := r) (B := otherB r) (G := reachG s r xs) hr1 e h0
    have c1 : collW s r xs x = x := e1
    rw [c1]
    obtain ⟨f1, _, f3⟩ := again_none (s := s1) (r := collR s r xs) (B := otherB (collR s r xs)) (G := reachG s1 (collR s r xs) (xs.map (collW s r xs))) hr2 e3 h0
    have c2 : collW s1 (collR s r xs) (xs.map (collW s r xs)) x = x := f1
    rw [c2]
    exact newW_none f3
  | some i =>
    obtain ⟨_, e3⟩ := again_lead hr lo hi hr1 ht1 (Or.inl hx) e
    obtain ⟨g1, g2⟩ := again_lead hr lo hi hr1 ht1 (Or.inl hx) e
    have hk : (reachG s r xs).idxOf i < (reachG s r xs).length := List.idxOf_lt_length_iff.2 (reach_root hr hx e)
    have c1 : collW s r xs x = 2 * ((placeG r (otherB r) (reachG s r xs) ((reachG s r xs).idxOf i) : Nat) + (s.find x).2) := newW_some e
    obtain ⟨p1, p2⟩ := again_lead hr1 lo1 hi1 hr2 ht2 hx1 e3
    generalize (reachG s r xs).idxOf i = k at *
    have e4 : leadI s2 (collR s1 (collR s r xs) (xs.map (collW s r xs))) (collW s1 (collR s r xs) (xs.map (collW s r xs)) (collW s r xs x)) = some k := by
      have := p2
      rw [hG1, idx_range hk] at this
      rw [← hG1] at this
      exact this
    have d2 : (s2.find (collW s1 (collR s r xs) (xs.map (collW s r xs)) (collW s r xs x))).2 = (s.find x).2 := by
      have h3 : s2.find (collW s1 (collR s r xs) (xs.map (collW s r xs)) (collW s r xs x)) = _ := p1
      rw [h3]
      show (s1.find (collW s r xs x)).2 = _
      have h4 : s1.find (collW s r xs x) = _ := g1
      rw [h4]
    have hbase : otherB (collR s1 (collR s r xs) (xs.map (collW s r xs))) = otherB r := by
      unfold otherB
      show r.n * (1 - (1 - (1 - r.which))) = r.n * (1 - r.which)
      have := hr.wh
      rw [show 1 - (1 - (1 - r.which)) = 1 - r.which from by omega]
    have c3 : collW s2 (collR s1 (collR s r xs) (xs.map (collW s r xs))) ((xs.map (collW s r xs)).map (collW s1 (collR s r xs) (xs.map (collW s r xs)))) (collW s1 (collR s r xs) (xs.map (collW s r xs)) (collW s r xs x))
        = 2 * ((placeG (collR s1 (collR s r xs) (xs.map (collW s r xs))) (otherB r) (List.range (reachG s r xs).length) k : Nat) + (s.find x).2) := by
      have hG2' : reachG s2 (collR s1 (collR s r xs) (xs.map (collW s r xs))) ((xs.map (collW s r xs)).map (collW s1 (collR s r xs) (xs.map (collW s r xs)))) = List.range (reachG s r xs).length := by
        have h5 := hG2
        rw [hG1, List.length_range] at h5
        have h6 : (xs.map (collW s r xs)).map (collW s1 (collR s r xs) (xs.map (collW s r xs))) = (xs.map (collW s r xs)).map (newW s1 (collR s r xs) (otherB (collR s r xs)) (List.range (reachG s r xs).length)) := by
          show (xs.map (collW s r xs)).map (newW s1 (collR s r xs) (otherB (collR s r xs)) (reachG s1 (collR s r xs) (xs.map (collW s r xs)))) = _
          rw [hG1]
        rw [h6]; exact h5
      show newW _ _ _ (reachG s2 _ _) _ = _
      rw [hG2', hbase]
      rw [newW_some e4, idx_range hk, d2]
    rw [c3, c1]
    have hlen2 : (reachG s r xs).length = (collR s1 (collR s r xs) (xs.map (collW s r xs))).L.length := by rw [collR_len, hG1, List.length_range]
    have hpl : placeG (collR s1 (collR s r xs) (xs.map (collW s r xs))) (otherB r) (List.range (reachG s r xs).length) k = placeG r (otherB r) (reachG s r xs) k := by
      unfold placeG
      rw [hlen2, lenG_range]
      have h7 := again_take hr lo hi hr1 ht1 hns k
      have h8 := coll_take s r xs k
      rw [← h8, ← h7]
      rfl
    rw [hpl]
end Go.Proofs.Ytjnlfnecmiklhaa
