/-
  The document's own arena, a list of blocks, and what it means that it and the program's arena are in one state: where each block lies, what its head and fields hold, where blocks begin. Plain; no program.
-/
import Derived.Test.YtjnlfnecmiklhaaLibA
namespace Go.Proofs.Ytjnlfnecmiklhaa
open Go.RowKit Go.Deep
set_option linter.unusedVariables false

structure Blk where
  ad : Nat
  tag : Int
  F : List Int
structure RS where
  (n which : Nat)
  L : List Blk
/-- How many cells some blocks have. -/
def lenB : List Blk → Nat
  | [] => 0
  | b :: l => 1 + b.F.length + lenB l
theorem lenB_append (a b : List Blk) : lenB (a ++ b) = lenB a + lenB b := by
  induction a with
  | nil => simp [lenB]
  | cons x l ih => simp [lenB, ih]; omega
theorem lenB_succ (l : List Blk) (k : Nat) (b : Blk) (h : l[k]? = some b) : lenB (l.take (k + 1)) = lenB (l.take k) + 1 + b.F.length := by
  have hk := (List.getElem?_eq_some_iff.1 h).1
  have hb := (List.getElem?_eq_some_iff.1 h).2
  rw [List.take_succ_eq_append_getElem hk, lenB_append, hb]
  simp [lenB]; omega
theorem lenB_take_le (l : List Blk) (i k : Nat) (h : i ≤ k) : lenB (l.take i) ≤ lenB (l.take k) := by
  induction k with
  | zero => have : i = 0 := by omega
            subst this; exact Nat.le_refl _
  | succ k ih =>
    by_cases e : i = k + 1
    · subst e; exact Nat.le_refl _
    · have := ih (by omega)
      by_cases hk : k < l.length
      · rw [lenB_succ l k l[k] (List.getElem?_eq_getElem hk)]; omega
      · have e1 : l.take (k + 1) = l.take k := by rw [List.take_of_length_le (by omega), List.take_of_length_le (by omega)]
        rw [e1]; exact this
theorem lenB_take_all (l : List Blk) (k : Nat) : lenB (l.take k) ≤ lenB l := by
  have := lenB_append (l.take k) (l.drop k)
  rw [List.take_append_drop] at this
  omega

structure Rep (s : St) (r : RS) : Prop where
  n : s.n = r.n
  wh : r.which ≤ 1
  base : s.base = r.n * r.which
  top : s.top = s.base + lenB r.L
  ad : ∀ (i : Nat) (b : Blk), r.L[i]? = some b → b.ad = s.base + lenB (r.L.take i) + 1
  head : ∀ (i : Nat) (b : Blk), r.L[i]? = some b → s.C (b.ad - 1) = headW b.tag b.F.length
  fld : ∀ (i : Nat) (b : Blk), r.L[i]? = some b → ∀ (j : Nat) (x : Int), b.F[j]? = some x → s.C (b.ad + j) = x
  tag : ∀ (i : Nat) (b : Blk), r.L[i]? = some b → 0 ≤ b.tag ∧ b.tag ≤ 202 ∧ b.F.length ≤ 4096
  hh : ∀ j, s.H j = true ↔ ∃ (i : Nat) (b : Blk), r.L[i]? = some b ∧ b.ad = s.base + 1 + j
  may : ∀ (i : Nat) (b : Blk), r.L[i]? = some b → St.mayLie b.tag = true

namespace Rep
variable {s : St} {r : RS}
/-- A block ends ahead of every later one. -/
theorem order (h : Rep s r) {i k : Nat} {b c : Blk} (hb : r.L[i]? = some b) (hc : r.L[k]? = some c) (hik : i < k) : b.ad + b.F.length + 1 ≤ c.ad := by
  have e1 := h.ad i b hb
  have e2 := h.ad k c hc
  have e3 := lenB_succ r.L i b hb
  have e4 := lenB_take_le r.L (i + 1) k hik
  omega
theorem inj (h : Rep s r) {i k : Nat} {b c : Blk} (hb : r.L[i]? = some b) (hc : r.L[k]? = some c) (e : b.ad = c.ad) : i = k := by
  rcases Nat.lt_trichotomy i k with h1 | h1 | h1
  · have := h.order hb hc h1; omega
  · exact h1
  · have := h.order hc hb h1; omega
theorem inside (h : Rep s r) {i : Nat} {b : Blk} (hb : r.L[i]? = some b) : s.base + 1 ≤ b.ad ∧ b.ad + b.F.length ≤ s.top := by
  have e1 := h.ad i b hb
  have e3 := lenB_succ r.L i b hb
  have e4 := lenB_take_all r.L (i + 1)
  have := h.top
  omega
theorem blk (h : Rep s r) (a : Int) : s.isBlk a = true ↔ ∃ (i : Nat) (b : Blk), r.L[i]? = some b ∧ (b.ad : Int) = a := by
  constructor
  · intro g
    unfold St.isBlk St.inUse at g
    simp at g
    obtain ⟨⟨g1, g2⟩, g3⟩ := g
    obtain ⟨i, b, hb, e⟩ := (h.hh _).1 g3
    exact ⟨i, b, hb, by omega⟩
  · rintro ⟨i, b, hb, e⟩
    have ⟨i1, i2⟩ := h.inside hb
    unfold St.isBlk St.inUse
    simp
    refine ⟨by omega, (h.hh _).2 ⟨i, b, hb, by omega⟩⟩
theorem tagAt (h : Rep s r) {i : Nat} {b : Blk} (hb : r.L[i]? = some b) : s.tagAt b.ad = b.tag ∧ s.sizeAt b.ad = b.F.length := by
  obtain ⟨t1, t2, t3⟩ := h.tag i b hb
  have e : ((b.ad : Int).toNat - 1) = b.ad - 1 := by omega
  unfold St.tagAt St.sizeAt
  rw [e, h.head i b hb]
  exact ⟨tag_head _ _ t1 (by omega) (by omega) (by omega), size_head _ _ t1 (by omega) (by omega) (by omega)⟩
theorem fits (h : Rep s r) : s.Fits := by
  intro a ha
  obtain ⟨i, b, hb, rfl⟩ := (h.blk a).1 ha
  have := h.inside hb
  rw [(h.tagAt hb).2]
  omega
/-- Is a field of b, at a word's address, an inner slot? -/
def hit (b : Blk) (a : Int) : Prop := b.tag = 200 ∧ 1 ≤ a - b.ad ∧ a - b.ad < b.F.length ∧ b.F[(a - b.ad - 1).toNat]? = some (headW 201 (a - b.ad))
theorem find_blk' (h : Rep s r) {x : Int} {i : Nat} {b : Blk} (hb : r.L[i]? = some b) (e : (b.ad : Int) = addrW x) : s.find x = ((b.ad : Int), 0) := by
  unfold St.find
  rw [if_pos ((h.blk _).2 ⟨i, b, hb, e⟩), e]
theorem find_hit (h : Rep s r) {x : Int} {i : Nat} {b : Blk} (hn : ∀ (i : Nat) (b : Blk), r.L[i]? = some b → (b.ad : Int) ≠ addrW x) (hb : r.L[i]? = some b) (g : hit b (addrW x)) : s.find x = ((b.ad : Int), addrW x - b.ad) := by
  obtain ⟨g1, g2, g3, g4⟩ := g
  have ⟨i1, i2⟩ := h.inside hb
  have hnb : ¬ s.isBlk (addrW x) = true := by
    rw [h.blk]
    rintro ⟨k, c, hc, e⟩
    exact hn k c hc e
  have hc := h.fld i b hb _ _ g4
  have e0 : b.ad + (addrW x - b.ad - 1).toNat = (addrW x).toNat - 1 := by omega
  rw [e0] at hc
  have t : s.tagAt (addrW x) = 201 := by unfold St.tagAt; rw [hc]; exact tag_head _ _ (by omega) (by omega) (by omega) (by have := (h.tag i b hb).2.2; omega)
  have z : s.sizeAt (addrW x) = addrW x - b.ad := by unfold St.sizeAt; rw [hc]; exact size_head _ _ (by omega) (by omega) (by omega) (by have := (h.tag i b hb).2.2; omega)
  have hu : s.inUse (addrW x - 1) = true := by unfold St.inUse; simp; omega
  unfold St.find
  rw [if_neg hnb, if_neg (by rw [hu]; simp), z, show addrW x - (addrW x - (b.ad : Int)) = b.ad from by omega]
  rw [if_pos ⟨t, by unfold St.isInr; rw [(h.blk _).2 ⟨i, b, hb, rfl⟩, (h.tagAt hb).1, (h.tagAt hb).2, g1]; simp; omega⟩]
theorem find_none (h : Rep s r) (lo : ∀ i, 0 ≤ s.C i) (hi : ∀ i, s.C i ≤ 18446744073709551615) {x : Int} (hn : ∀ (i : Nat) (b : Blk), r.L[i]? = some b → (b.ad : Int) ≠ addrW x) (hm : ∀ (i : Nat) (b : Blk), r.L[i]? = some b → ¬ hit b (addrW x)) : s.find x = (0, 0) := by
  have hnb : ¬ s.isBlk (addrW x) = true := by
    rw [h.blk]
    rintro ⟨k, c, hc, e⟩
    exact hn k c hc e
  unfold St.find
  rw [if_neg hnb]
  split
  · rfl
  · rw [if_neg]
    rintro ⟨c1, c2⟩
    unfold St.isInr at c2
    simp only [Bool.and_eq_true, beq_iff_eq, decide_eq_true_eq] at c2
    obtain ⟨⟨d1, d2⟩, d3⟩ := c2
    obtain ⟨i, b, hb, e⟩ := (h.blk _).1 d1
    have hs : addrW x - b.ad = s.sizeAt (addrW x) := by omega
    rw [← e] at d2 d3
    rw [(h.tagAt hb).1] at d2
    rw [(h.tagAt hb).2] at d3
    have hz : 0 ≤ s.sizeAt (addrW x) := sizeW_lo _
    have hne := hn i b hb
    have hback := head_back _ (lo ((addrW x).toNat - 1)) (hi _) 201 c1 (by omega)
    have hlt : (addrW x - b.ad - 1).toNat < b.F.length := by omega
    refine hm i b hb ⟨d2, by omega, by omega, ?_⟩
    have hf := h.fld i b hb _ _ (List.getElem?_eq_getElem hlt)
    rw [show b.ad + (addrW x - b.ad - 1).toNat = (addrW x).toNat - 1 from by omega] at hf
    rw [List.getElem?_eq_getElem hlt, ← hf, hback, hs]
    rfl
end Rep
end Go.Proofs.Ytjnlfnecmiklhaa
