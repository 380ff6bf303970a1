/-
  An arena of 64 cells a half with one closure's block of m fields, of which the first k hold given words: what is found there, by plain arithmetic. No program.
-/
import Derived.Test.YtaoohkjhniigfaaAwake
namespace Go.Proofs.Ytaoohkjhniigfaa
open Go.RowKit Go.Deep
set_option linter.unusedVariables false

def St.inner (m k : Nat) (X : Nat → Int) : St := ⟨64, 0, m + 1, fun j => if j = 0 then headW 200 m else if j ≤ k then X (j - 1) else if j ≤ m then 1 else 0, fun j => decide (j = 0)⟩
theorem inner_E (m : Nat) (h : m ≤ 30) : (St.new 64).allocE 200 m = 0 := by
  unfold St.allocE
  rw [if_neg (by decide), if_neg (by omega), if_neg (by show ¬ ((0 : Nat) : Int) + (64 : Nat) < ((0 : Nat) : Int) + (m : Int) + 1; omega)]
theorem inner_W (m : Nat) (h : m ≤ 30) : (St.new 64).allocW 200 m = 2 := by
  unfold St.allocW
  rw [if_pos (inner_E m h)]
  rfl
theorem inner_start (m : Nat) (X : Nat → Int) (h : m ≤ 30) : (St.new 64).alloc 200 m = St.inner m 0 X := by
  rw [alloc_st (inner_E m h)]
  unfold St.inner
  show St.mk 64 0 (0 + (m : Int).toNat + 1) (fun i => if i = 0 then headW 200 m else if 0 < i ∧ i ≤ 0 + (m : Int).toNat then 1 else 0) (fun i => if i = 0 - 0 then true else false) = _
  have e : (m : Int).toNat = m := by omega
  rw [e, Nat.zero_add]
  have e1 : (fun i => if i = 0 then headW 200 m else if 0 < i ∧ i ≤ m then 1 else 0) = (fun j => if j = 0 then headW 200 m else if j ≤ 0 then X (j - 1) else if j ≤ m then 1 else 0) := by
    funext j
    by_cases c : j = 0
    · simp [c]
    · have c1 : ¬ j ≤ 0 := by omega
      have c3 : 0 < j := by omega
      simp only [c, c1, c3, if_false, true_and]
  have e2 : (fun i => if i = 0 - 0 then true else false) = (fun j : Nat => decide (j = 0)) := by
    funext j
    by_cases c : j = 0
    · subst c; rfl
    · simp [c]
  rw [e1, e2]
theorem inner_C0 (m k : Nat) (X : Nat → Int) : (St.inner m k X).C 0 = headW 200 m := rfl
theorem inner_Cs (m k j : Nat) (X : Nat → Int) (h : j ≠ 0) (h' : j ≤ k) : (St.inner m k X).C j = X (j - 1) := by
  show (if j = 0 then headW 200 m else if j ≤ k then X (j - 1) else if j ≤ m then 1 else 0) = _
  rw [if_neg h, if_pos h']
theorem inner_blk (m k : Nat) (X : Nat → Int) (a : Int) : (St.inner m k X).isBlk a = decide (a = 1) := by
  unfold St.isBlk St.inUse St.inner
  rw [Bool.eq_iff_iff]
  simp
  omega
theorem inner_size1 (m k : Nat) (X : Nat → Int) (h : m ≤ 30) : (St.inner m k X).sizeAt 1 = m := by
  show sizeW ((St.inner m k X).C 0) = m
  rw [inner_C0]
  exact size_head 200 m (by omega) (by omega) (by omega) (by omega)
theorem inner_tag1 (m k : Nat) (X : Nat → Int) (h : m ≤ 30) : (St.inner m k X).tagAt 1 = 200 := by
  show tagW ((St.inner m k X).C 0) = 200
  rw [inner_C0]
  exact tag_head 200 m (by omega) (by omega) (by omega) (by omega)
theorem inner_fits (m k : Nat) (X : Nat → Int) (h : m ≤ 30) : (St.inner m k X).Fits := by
  intro a ha
  rw [inner_blk] at ha
  have : a = 1 := by simpa using ha
  subst this
  rw [inner_size1 m k X h]
  show (1 : Int) + m ≤ ((m + 1 : Nat) : Int)
  omega
theorem inner_find2 (m k : Nat) (X : Nat → Int) : (St.inner m k X).find 2 = (1, 0) := by
  have e : addrW 2 = 1 := by decide
  unfold St.find
  rw [e, if_pos (by rw [inner_blk]; rfl)]
theorem inner_fieldE (m k i : Nat) (X : Nat → Int) (h : m ≤ 30) (hi : i < m) : (St.inner m k X).fieldE 2 i = 0 := by
  unfold St.fieldE
  rw [inner_find2, if_neg (by show ¬ ((1 : Int) = 0); omega)]
  show (if (i : Int) < 0 ∨ (St.inner m k X).sizeAt 1 ≤ i then (2 : Int) else 0) = 0
  rw [inner_size1 m k X h, if_neg (by omega)]
theorem inner_put (m k : Nat) (X : Nat → Int) (h : m ≤ 30) (hk : k < m) : (St.inner m k X).put 2 k (X k) = St.inner m (k + 1) X := by
  unfold St.put
  rw [if_pos (inner_fieldE m k k X h hk), inner_find2]
  show St.mk 64 0 (m + 1) (fun j => if j = ((1 : Int) + k).toNat then X k else (if j = 0 then headW 200 m else if j ≤ k then X (j - 1) else if j ≤ m then 1 else 0)) _ = _
  have e : ((1 : Int) + k).toNat = k + 1 := by omega
  rw [e]
  have e1 : (fun j => if j = k + 1 then X k else (if j = 0 then headW 200 m else if j ≤ k then X (j - 1) else if j ≤ m then 1 else 0)) = (fun j => if j = 0 then headW 200 m else if j ≤ k + 1 then X (j - 1) else if j ≤ m then 1 else 0) := by
    funext j
    by_cases c : j = k + 1
    · subst c
      simp
    · by_cases c0 : j = 0
      · simp [c0]
      · by_cases c1 : j ≤ k
        · have c2 : j ≤ k + 1 := by omega
          simp [c, c0, c1, c2]
        · have c2 : ¬ j ≤ k + 1 := by omega
          simp [c, c0, c1, c2]
  rw [e1]
  rfl
theorem head_back (x : Int) (h0 : 0 ≤ x) (h1 : x ≤ 18446744073709551615) (t : Int) (ht : tagW x = t) (hz : t ≠ 0) : x = headW t (sizeW x) := by
  have hh : isHeadW x = true := by
    cases c : isHeadW x
    · unfold tagW at ht; rw [if_neg (by rw [c]; simp)] at ht; omega
    · rfl
  have hh' := hh
  unfold isHeadW at hh'
  simp at hh'
  unfold tagW at ht
  rw [if_pos hh] at ht
  unfold sizeW
  rw [if_pos hh]
  have e : 256 * (numW x / 256) + t = numW x := by omega
  unfold headW
  rw [if_neg (by omega), e]
  exact (int_num x h0 h1 hh'.1.1).symm
theorem inner_at (m i : Nat) (X : Nat → Int) (h1 : 1 ≤ i) (h2 : i < m) : (St.inner m m X).C i = X (i - 1) := by
  exact inner_Cs m m i X (by omega) (by omega)
theorem inner_addr (i : Nat) (h : i ≤ 30) : addrW (2 + 2 * (i : Int)) = 1 + i := by
  unfold addrW; rw [if_neg (by omega)]; omega
theorem inner_tagAt (m i : Nat) (X : Nat → Int) (h1 : 1 ≤ i) (h2 : i < m) : (St.inner m m X).tagAt (1 + i) = tagW (X (i - 1)) ∧ (St.inner m m X).sizeAt (1 + i) = sizeW (X (i - 1)) := by
  have e : ((1 : Int) + i).toNat - 1 = i := by omega
  unfold St.tagAt St.sizeAt
  rw [e, inner_at m i X h1 h2]
  exact ⟨rfl, rfl⟩
theorem inner_use (m i : Nat) (X : Nat → Int) (h2 : i < m) : (St.inner m m X).inUse (1 + (i : Int) - 1) = true := by
  show (decide (((0 : Nat) : Int) ≤ 1 + (i : Int) - 1) && decide (1 + (i : Int) - 1 < ((m + 1 : Nat) : Int))) = true
  simp
  omega
theorem inner_hit (m i : Nat) (X : Nat → Int) (h : m ≤ 30) (h1 : 1 ≤ i) (h2 : i < m) (g : X (i - 1) = headW 201 i) : (St.inner m m X).find (2 + 2 * (i : Int)) = (1, (i : Int)) := by
  have t := tag_head 201 i (by omega) (by omega) (by omega) (by omega)
  have z := size_head 201 i (by omega) (by omega) (by omega) (by omega)
  obtain ⟨a, b⟩ := inner_tagAt m i X h1 h2
  rw [g, t] at a
  rw [g, z] at b
  unfold St.find
  rw [inner_addr i (by omega), if_neg (by rw [inner_blk]; simp; omega), if_neg (by rw [inner_use m i X h2]; simp), a, b, show (1 : Int) + i - i = 1 from by omega]
  rw [if_pos ⟨rfl, by unfold St.isInr; rw [inner_blk, inner_tag1 m m X h, inner_size1 m m X h]; simp; omega⟩]
theorem inner_miss (m i : Nat) (X : Nat → Int) (h : m ≤ 30) (h1 : 1 ≤ i) (h2 : i < m) (x0 : 0 ≤ X (i - 1)) (x1 : X (i - 1) ≤ 18446744073709551615) (g : X (i - 1) ≠ headW 201 i) : (St.inner m m X).find (2 + 2 * (i : Int)) = (0, 0) := by
  obtain ⟨a, b⟩ := inner_tagAt m i X h1 h2
  unfold St.find
  rw [inner_addr i (by omega), if_neg (by rw [inner_blk]; simp; omega), if_neg (by rw [inner_use m i X h2]; simp), a, b]
  rw [if_neg]
  rintro ⟨c1, c2⟩
  unfold St.isInr at c2
  rw [inner_blk] at c2
  simp at c2
  have e : sizeW (X (i - 1)) = i := by omega
  have := head_back _ x0 x1 201 c1 (by omega)
  rw [e] at this
  exact g this
theorem inner_size (m i : Nat) (X : Nat → Int) (h : m ≤ 30) (h1 : 1 ≤ i) (h2 : i < m) (g : X (i - 1) = headW 201 i) : (St.inner m m X).size (2 + 2 * (i : Int)) = m := by
  unfold St.size
  rw [inner_hit m i X h h1 h2 g, if_neg (by show ¬ ((1 : Int) = 0); omega)]
  exact inner_size1 m m X h
theorem inner_getE (m i : Nat) (X : Nat → Int) (h : m ≤ 30) (h1 : 1 ≤ i) (h2 : i < m) (g : X (i - 1) = headW 201 i) : (St.inner m m X).fieldE (2 + 2 * (i : Int)) i = 0 := by
  unfold St.fieldE
  rw [inner_hit m i X h h1 h2 g, if_neg (by show ¬ ((1 : Int) = 0); omega)]
  show (if (i : Int) < 0 ∨ (St.inner m m X).sizeAt 1 ≤ i then (2 : Int) else 0) = 0
  rw [inner_size1 m m X h, if_neg (by omega)]
theorem inner_get (m i : Nat) (X : Nat → Int) (h : m ≤ 30) (h1 : 1 ≤ i) (h2 : i < m) (g : X (i - 1) = headW 201 i) : (St.inner m m X).get (2 + 2 * (i : Int)) i = X i := by
  unfold St.get
  rw [if_pos (inner_getE m i X h h1 h2 g), inner_hit m i X h h1 h2 g]
  show (St.inner m m X).C ((1 : Int) + i).toNat = X i
  rw [show ((1 : Int) + i).toNat = i + 1 from by omega]
  exact inner_Cs m m (i + 1) X (by omega) (by omega)
end Go.Proofs.Ytaoohkjhniigfaa
