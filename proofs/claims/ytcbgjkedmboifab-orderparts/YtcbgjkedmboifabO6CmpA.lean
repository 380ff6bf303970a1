/-
  Layer 6: what comes of one pair, case by case; and where the document's own Compare is in its loop. Condition: the document's own arena lies in memory.
-/
import Derived.Test.YtcbgjkedmboifabO6Pairs
import Derived.Test.YtcbgjkedmboifabT5Text
namespace Go.Proofs.Ytcbgjkedmboifab
open Go.ChangeShapes Go.WideShapes Go.ChangeAt Go.RowKit Go.Deep
set_option linter.unusedVariables false
set_option maxHeartbeats 1000000

variable {w w' : World} {p : Pl} {s : St} {rb : Nat} {r : RS} {a : Option Addr} {cap : Nat} {V : Nat → Value}
theorem Both.under (h : Both w p s rb r a cap V) (k : Below w.heap.size w w') : Both w' p s rb r a cap V := ⟨h.ar, h.rf.frame (S := fun _ => False) (Only.of_below k) (fun _ _ => id), h.rep, h.below⟩
/-- What a word is where nothing is wrong with it. -/
theorem nd_ok (h : Rep s r) (x : Int) (hw : (ndW s r x).wrong = 0) : (isIntW x = true ∧ ndW s r x = .num (numW x)) ∨ (isIntW x = false ∧ ∃ (k : Nat) (b : Blk), r.L[k]? = some b ∧ (s.find x).1 = b.ad ∧ (s.find x).2 = 0 ∧ ((b.tag = 202 ∧ ∃ l, textF b = some l ∧ textAt s r x = (some l, 0) ∧ ndW s r x = .txt (bytesI l)) ∨ (b.tag ≠ 202 ∧ ndW s r x = .blk b.tag b.F))) := by
  rcases nd_cases h x with ⟨hi, e⟩ | ⟨hi, g, e⟩ | ⟨hi, k, b, hk, hf, hl, hbk, e⟩
  · exact Or.inl ⟨hi, e⟩
  · rw [e] at hw; exact absurd hw (by decide)
  · rw [e] at hw
    have h2 := find2_lo s x
    unfold ndB at hw e
    by_cases t1 : b.tag = 200
    · rw [if_pos t1] at hw; exact absurd hw (by decide)
    · rw [if_neg t1] at hw e
      by_cases t2 : 0 < (s.find x).2
      · rw [if_pos t2] at hw; exact absurd hw (by decide)
      · rw [if_neg t2] at hw e
        have hd : (s.find x).2 = 0 := by omega
        refine Or.inr ⟨hi, k, b, hk, hf, hd, ?_⟩
        by_cases t3 : b.tag = 202
        · rw [if_pos t3] at hw e
          have et : textF b = readT b.F := by unfold textF; rw [if_pos t3]
          cases hr : readT b.F with
          | none => rw [hr] at hw; exact absurd hw (by decide)
          | some l =>
            rw [hr] at e et
            have hx : (b.ad : Int) = addrW x := by
              have hin := (h.inside hk).1
              have := find_sum (s := s) (x := x) (by rw [hf]; omega)
              omega
            exact Or.inl ⟨t3, l, et, text_at h hk hx et, e⟩
        · rw [if_neg t3] at e
          exact Or.inr ⟨t3, e⟩
section
variable {nd : Int → Nd} {room : Int} {m : Nat} {x y : Int} {ws : List (Int × Int)}
theorem goC_err {E : Int} (h : (pairOut nd x y).1 = E) (hE : E ≠ 0) : goC nd room (m + 1) ((x, y) :: ws) = (0, 1, E) := by rw [goC, h, if_pos hE]
theorem goC_dec {n : Int} (h : (pairOut nd x y).1 = 0) (h2 : (pairOut nd x y).2.1 = n) (hn : n ≠ 0) : goC nd room (m + 1) ((x, y) :: ws) = (n, 1, 0) := by rw [goC, if_neg (by rw [h]; decide), if_pos (by rw [h2]; exact hn), h2]
theorem goC_full {ps : List (Int × Int)} (h : pairOut nd x y = (0, 0, ps)) (h3 : ps ≠ []) (h4 : room < 2 * (ps.length + ws.length : Nat)) : goC nd room (m + 1) ((x, y) :: ws) = (0, 1, 11) := by rw [goC, h, if_neg (fun c => c rfl), if_neg (fun c => c rfl), if_pos ⟨h3, h4⟩]
theorem goC_next {ps : List (Int × Int)} (h : pairOut nd x y = (0, 0, ps)) (h4 : ps ≠ [] → 2 * (ps.length + ws.length : Nat) ≤ room) : goC nd room (m + 1) ((x, y) :: ws) = ((goC nd room m (ps ++ ws)).1, (goC nd room m (ps ++ ws)).2.1 + 1, (goC nd room m (ps ++ ws)).2.2) := by
  rw [goC, h, if_neg (fun c => c rfl), if_neg (fun c => c rfl), if_neg (fun c => by have := h4 c.1; have := c.2; simp only at this; omega)]
theorem po_fun (h : (nd x).wrong = 12 ∨ (nd y).wrong = 12) : (pairOut nd x y).1 = 12 := by unfold pairOut; rw [if_pos h]
theorem po_bad (h1 : ¬ ((nd x).wrong = 12 ∨ (nd y).wrong = 12)) (h : (nd x).wrong ≠ 0 ∨ (nd y).wrong ≠ 0) : (pairOut nd x y).1 = 6 := by unfold pairOut; rw [if_neg h1, if_pos h]
theorem po_same (h1 : (nd x).wrong = 0) : pairOut nd x x = (0, 0, []) := by unfold pairOut; rw [if_neg (by rw [h1]; decide), if_neg (by rw [h1]; decide), if_pos rfl]
theorem po_key (h1 : (nd x).wrong = 0) (h2 : (nd y).wrong = 0) (e : x ≠ y) : pairOut nd x y = (0, sgnL (nd x).key (nd y).key, if sgnL (nd x).key (nd y).key = 0 then (nd x).parts.zip (nd y).parts else []) := by
  unfold pairOut; rw [if_neg (by rw [h1, h2]; decide), if_neg (by rw [h1, h2]; decide), if_neg e]
end
theorem sgnL_one (a b : Int) : sgnL [0, a] [0, b] = sgn a b := by
  unfold sgnL sgn
  rw [if_neg (by decide), if_neg (by decide)]
  unfold sgnL
  split
  · rfl
  · split <;> rfl
theorem sgnL_tag (a b c d : Int) : sgnL [1, a, 0, c] [1, b, 0, d] = if sgn a b ≠ 0 then sgn a b else sgn c d := by
  unfold sgn
  simp only [sgnL]
  by_cases h1 : a < b
  · simp [h1]
  · by_cases h2 : b < a
    · simp [h1, h2]
    · simp [h1, h2]
theorem sgn_self (a : Int) : sgn a a = 0 := by unfold sgn; rw [if_neg (by omega), if_neg (by omega)]
theorem sgn_zero {a b : Int} (h : sgn a b = 0) : a = b := by
  unfold sgn at h
  split at h
  · cases h
  · split at h
    · cases h
    · omega
section
variable {nd : Int → Nd} {x y : Int}
/-- Of two numbers. -/
theorem po_num {a b : Int} (h1 : nd x = .num a) (h2 : nd y = .num b) : (pairOut nd x y).1 = 0 ∧ (pairOut nd x y).2.1 = sgn a b ∧ (sgn a b = 0 → pairOut nd x y = (0, 0, [])) := by
  have w1 : (nd x).wrong = 0 := by rw [h1]; rfl
  have w2 : (nd y).wrong = 0 := by rw [h2]; rfl
  by_cases e : x = y
  · subst e
    have : a = b := by rw [h1] at h2; cases h2; rfl
    subst this
    rw [po_same w1, sgn_self]
    exact ⟨rfl, rfl, fun _ => rfl⟩
  · have hk : sgnL (nd x).key (nd y).key = sgn a b := by rw [h1, h2]; exact sgnL_one a b
    rw [po_key w1 w2 e, hk]
    refine ⟨rfl, rfl, fun h0 => ?_⟩
    rw [h0, if_pos rfl, h1, h2]; rfl
/-- A number, and what is none. -/
theorem po_numblk {a : Int} (h1 : nd x = .num a) (h2 : (nd y).wrong = 0) (h3 : (nd y).key.head? = some 1) : (pairOut nd x y).1 = 0 ∧ (pairOut nd x y).2.1 = -1 := by
  have w1 : (nd x).wrong = 0 := by rw [h1]; rfl
  have e : x ≠ y := fun e => by subst e; rw [h1] at h3; cases h3
  have hk : sgnL (nd x).key (nd y).key = -1 := by
    cases hy : (nd y).key with
    | nil => rw [hy] at h3; cases h3
    | cons b l =>
      rw [hy] at h3
      have : b = 1 := by simpa using h3
      rw [h1, this]
      show sgnL (0 :: _) (1 :: l) = -1
      unfold sgnL
      rw [if_pos (by decide)]
  rw [po_key w1 h2 e, hk]
  exact ⟨rfl, rfl⟩
theorem po_blknum {b : Int} (h1 : (nd x).wrong = 0) (h3 : (nd x).key.head? = some 1) (h2 : nd y = .num b) : (pairOut nd x y).1 = 0 ∧ (pairOut nd x y).2.1 = 1 := by
  have h := po_numblk (nd := nd) (x := y) (y := x) h2 h1 h3
  have ht := pairOut_turn nd y x
  rw [ht]
  exact ⟨h.1, by show - (pairOut nd y x).2.1 = 1; rw [h.2]; rfl⟩
/-- The tag that decides first. -/
def Nd.tag : Nd → Int
  | .txt _ => 202
  | .blk t _ => t
  | _ => 0
theorem po_tag (e : x ≠ y) (w1 : (nd x).wrong = 0) (w2 : (nd y).wrong = 0) (k1 : ∃ l, (nd x).key = 1 :: (nd x).tag :: l) (k2 : ∃ l, (nd y).key = 1 :: (nd y).tag :: l) (hn : sgn (nd x).tag (nd y).tag ≠ 0) : (pairOut nd x y).1 = 0 ∧ (pairOut nd x y).2.1 = sgn (nd x).tag (nd y).tag := by
  obtain ⟨l, k1⟩ := k1
  obtain ⟨m, k2⟩ := k2
  have hk : sgnL (nd x).key (nd y).key = sgn (nd x).tag (nd y).tag := by
    rw [k1, k2]
    unfold sgn at hn ⊢
    unfold sgnL
    rw [if_neg (by decide), if_neg (by decide)]
    unfold sgnL
    by_cases c1 : (nd x).tag < (nd y).tag
    · rw [if_pos c1, if_pos c1]
    · by_cases c2 : (nd y).tag < (nd x).tag
      · rw [if_neg c1, if_neg c1, if_pos c2, if_pos c2]
      · rw [if_neg c1, if_neg c2] at hn; exact absurd rfl hn
  rw [po_key w1 w2 e, hk]
  exact ⟨rfl, rfl⟩
theorem po_txt {l m : List Int} (e : x ≠ y) (h1 : nd x = .txt l) (h2 : nd y = .txt m) : (pairOut nd x y).1 = 0 ∧ (pairOut nd x y).2.1 = sgnL l m ∧ (sgnL l m = 0 → pairOut nd x y = (0, 0, [])) := by
  have hk : sgnL (nd x).key (nd y).key = sgnL l m := by
    rw [h1, h2]
    show sgnL (1 :: 202 :: 1 :: l) (1 :: 202 :: 1 :: m) = _
    simp [sgnL]
  rw [po_key (by rw [h1]; rfl) (by rw [h2]; rfl) e, hk]
  refine ⟨rfl, rfl, fun h0 => ?_⟩
  rw [h0, if_pos rfl, h1, h2]; rfl
theorem po_blk {t : Int} {F G : List Int} (e : x ≠ y) (h1 : nd x = .blk t F) (h2 : nd y = .blk t G) : (pairOut nd x y).1 = 0 ∧ (pairOut nd x y).2.1 = sgn F.length G.length ∧ (sgn F.length G.length = 0 → pairOut nd x y = (0, 0, F.zip G)) := by
  have hk : sgnL (nd x).key (nd y).key = sgn F.length G.length := by
    rw [h1, h2]
    show sgnL [1, t, 0, (F.length : Int)] [1, t, 0, (G.length : Int)] = _
    rw [sgnL_tag, sgn_self, if_neg (by decide)]
  rw [po_key (by rw [h1]; rfl) (by rw [h2]; rfl) e, hk]
  refine ⟨rfl, rfl, fun h0 => ?_⟩
  rw [h0, if_pos rfl, h1, h2]; rfl
end
/-- A block of the document's arena, as its row holds it. -/
theorem blk_at (h : Both w p s rb r a cap V) {k : Nat} {b : Blk} (hk : r.L[k]? = some b) : ∃ ga, a = some ⟨ga, 0, none⟩ ∧ w.cell? ⟨rb, 2, none⟩ = some (.slice (some ⟨ga, 0, none⟩) r.L.length cap) ∧ w.cell? ⟨ga, k * 3, none⟩ = some (.int .i64 b.ad) ∧ w.cell? ⟨ga, k * 3 + 1, none⟩ = some (.int .i64 b.tag) ∧ (∃ va vc, w.cell? ⟨ga, k * 3 + 2, none⟩ = some (.slice va b.F.length vc) ∧ (0 < b.F.length → ∃ gf, va = some ⟨gf, 0, none⟩ ∧ Own w gf b.F.length (fun i => b.F.getD i 0))) ∧ k < r.L.length ∧ b.F.length ≤ 4096 ∧ r.L.length ≤ 32768 := by
  obtain ⟨l1, l2⟩ := h.blk hk
  obtain ⟨z1, z2, z3, z4, z5⟩ := h.sizes
  have hl := (List.getElem?_eq_some_iff.1 hk).1
  obtain ⟨ga, rfl, hg1, hg2, hg3, hg4⟩ := h.rf.row (by omega)
  obtain ⟨d0, d1, d2, d3⟩ := hg4 k b hk
  obtain ⟨c0, c1, c2, c3⟩ := h.rf.cells
  refine ⟨ga, rfl, c2, d0, d1, ?_, hl, l2, z2⟩
  · by_cases hF : b.F.length = 0
    · obtain ⟨va, vc, hv⟩ := field_len d3
      exact ⟨va, vc, by rw [d2, hv], fun h => by omega⟩
    · obtain ⟨gf, c, hv, ho⟩ := rf_own d3 hF
      exact ⟨_, c, by rw [d2, hv], fun _ => ⟨gf, rfl, ho⟩⟩
theorem text_short2 (hr : Rep s r) {x : Int} {l : List UInt8} (e : textAt s r x = (some l, 0)) : l.length < 32768 := by
  obtain ⟨k, b, hk, _, _, _, ht, _⟩ := text_is hr e
  have h1 := (hr.tag k b hk).2.2
  rw [(textF_tag ht).2, fieldsT_len] at h1
  omega
theorem ints_list (l : List UInt8) : intsS ⟨l.toArray⟩ = bytesI l := by unfold intsS bytesS; simp
/-- Blocks of other types than a row of rows are as they were. -/
def Kept (w w' : World) : Prop := ∀ (q : Nat) (cur : Array Value) (t : TypeId), t ≠ 37 → w.heap[q]? = some (.cells cur t (0, 0)) → w'.heap[q]? = some (.cells cur t (0, 0))
theorem Kept.refl (w : World) : Kept w w := fun _ _ _ _ h => h
theorem Kept.own {g m : Nat} {X : Nat → Int} (h : Kept w w') (o : Own w g m X) : Own w' g m X := by
  obtain ⟨cur, hc, hx⟩ := o
  exact ⟨cur, h g cur _ (by decide) hc, hx⟩
/-- Where the loop over two blocks' parts is. -/
def PushAt (w w5 : World) (room : Int) (ws Z : List (Int × Int)) (wv jv : Value) (wr : World) : Prop :=
  ∃ d : Nat, d ≤ Z.length ∧ jv = .int .i64 ((d : Int) - 1) ∧ PR wr w.heap.size wv (Z.drop d ++ ws) ∧ (d < Z.length → 2 * ((Z.drop d).length + ws.length : Nat) ≤ room) ∧ Below w.heap.size w wr ∧ Kept w5 wr
end Go.Proofs.Ytcbgjkedmboifab
