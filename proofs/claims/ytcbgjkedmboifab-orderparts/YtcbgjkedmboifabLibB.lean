/-
  Several small texts in one; each tells at its head what it proves, and on what condition.
-/
import Derived.Test.YtcbgjkedmboifabLibA
import Derived.Laws.AppendOwnNone
import Derived.Deep.QuietTactic
import Derived.BigQuiet
import Derived.Deep.RegionLaw
import Derived.Deep.AppendLies
import Derived.Deep.RegionHeld3

/-
  The document's own arena, a list of blocks, and what it means that it and the program's arena are in one state: where each block lies, what its head and fields hold, where blocks begin. Plain; no program.
-/
namespace Go.Proofs.Ytcbgjkedmboifab
open Go.RowKit Go.Deep
set_option linter.unusedVariables false

structure Blk where
  ad : Nat
  tag : Int
  F : List Int
structure RS where
  (n which : Nat)
  L : List Blk
/-- How many cells some blocks have. -/
def lenB : List Blk → Nat
  | [] => 0
  | b :: l => 1 + b.F.length + lenB l
theorem lenB_append (a b : List Blk) : lenB (a ++ b) = lenB a + lenB b := by
  induction a with
  | nil => simp [lenB]
  | cons x l ih => simp [lenB, ih]; omega
theorem lenB_succ (l : List Blk) (k : Nat) (b : Blk) (h : l[k]? = some b) : lenB (l.take (k + 1)) = lenB (l.take k) + 1 + b.F.length := by
  have hk := (List.getElem?_eq_some_iff.1 h).1
  have hb := (List.getElem?_eq_some_iff.1 h).2
  rw [List.take_succ_eq_append_getElem hk, lenB_append, hb]
  simp [lenB]; omega
theorem lenB_take_le (l : List Blk) (i k : Nat) (h : i ≤ k) : lenB (l.take i) ≤ lenB (l.take k) := by
  induction k with
  | zero => have : i = 0 := by omega
            subst this; exact Nat.le_refl _
  | succ k ih =>
    by_cases e : i = k + 1
    · subst e; exact Nat.le_refl _
    · have := ih (by omega)
      by_cases hk : k < l.length
      · rw [lenB_succ l k l[k] (List.getElem?_eq_getElem hk)]; omega
      · have e1 : l.take (k + 1) = l.take k := by rw [List.take_of_length_le (by omega), List.take_of_length_le (by omega)]
        rw [e1]; exact this
theorem lenB_take_all (l : List Blk) (k : Nat) : lenB (l.take k) ≤ lenB l := by
  have := lenB_append (l.take k) (l.drop k)
  rw [List.take_append_drop] at this
  omega

structure Rep (s : St) (r : RS) : Prop where
  n : s.n = r.n
  wh : r.which ≤ 1
  base : s.base = r.n * r.which
  top : s.top = s.base + lenB r.L
  ad : ∀ (i : Nat) (b : Blk), r.L[i]? = some b → b.ad = s.base + lenB (r.L.take i) + 1
  head : ∀ (i : Nat) (b : Blk), r.L[i]? = some b → s.C (b.ad - 1) = headW b.tag b.F.length
  fld : ∀ (i : Nat) (b : Blk), r.L[i]? = some b → ∀ (j : Nat) (x : Int), b.F[j]? = some x → s.C (b.ad + j) = x
  tag : ∀ (i : Nat) (b : Blk), r.L[i]? = some b → 0 ≤ b.tag ∧ b.tag ≤ 202 ∧ b.F.length ≤ 4096
  hh : ∀ j, s.H j = true ↔ ∃ (i : Nat) (b : Blk), r.L[i]? = some b ∧ b.ad = s.base + 1 + j
  may : ∀ (i : Nat) (b : Blk), r.L[i]? = some b → St.mayLie b.tag = true

namespace Rep
variable {s : St} {r : RS}
/-- A block ends ahead of every later one. -/
theorem order (h : Rep s r) {i k : Nat} {b c : Blk} (hb : r.L[i]? = some b) (hc : r.L[k]? = some c) (hik : i < k) : b.ad + b.F.length + 1 ≤ c.ad := by
  have e1 := h.ad i b hb
  have e2 := h.ad k c hc
  have e3 := lenB_succ r.L i b hb
  have e4 := lenB_take_le r.L (i + 1) k hik
  omega
theorem inj (h : Rep s r) {i k : Nat} {b c : Blk} (hb : r.L[i]? = some b) (hc : r.L[k]? = some c) (e : b.ad = c.ad) : i = k := by
  rcases Nat.lt_trichotomy i k with h1 | h1 | h1
  · have := h.order hb hc h1; omega
  · exact h1
  · have := h.order hc hb h1; omega
theorem inside (h : Rep s r) {i : Nat} {b : Blk} (hb : r.L[i]? = some b) : s.base + 1 ≤ b.ad ∧ b.ad + b.F.length ≤ s.top := by
  have e1 := h.ad i b hb
  have e3 := lenB_succ r.L i b hb
  have e4 := lenB_take_all r.L (i + 1)
  have := h.top
  omega
theorem blk (h : Rep s r) (a : Int) : s.isBlk a = true ↔ ∃ (i : Nat) (b : Blk), r.L[i]? = some b ∧ (b.ad : Int) = a := by
  constructor
  · intro g
    unfold St.isBlk St.inUse at g
    simp at g
    obtain ⟨⟨g1, g2⟩, g3⟩ := g
    obtain ⟨i, b, hb, e⟩ := (h.hh _).1 g3
    exact ⟨i, b, hb, by omega⟩
  · rintro ⟨i, b, hb, e⟩
    have ⟨i1, i2⟩ := h.inside hb
    unfold St.isBlk St.inUse
    simp
    refine ⟨by omega, (h.hh _).2 ⟨i, b, hb, by omega⟩⟩
theorem tagAt (h : Rep s r) {i : Nat} {b : Blk} (hb : r.L[i]? = some b) : s.tagAt b.ad = b.tag ∧ s.sizeAt b.ad = b.F.length := by
  obtain ⟨t1, t2, t3⟩ := h.tag i b hb
  have e : ((b.ad : Int).toNat - 1) = b.ad - 1 := by omega
  unfold St.tagAt St.sizeAt
  rw [e, h.head i b hb]
  exact ⟨tag_head _ _ t1 (by omega) (by omega) (by omega), size_head _ _ t1 (by omega) (by omega) (by omega)⟩
theorem fits (h : Rep s r) : s.Fits := by
  intro a ha
  obtain ⟨i, b, hb, rfl⟩ := (h.blk a).1 ha
  have := h.inside hb
  rw [(h.tagAt hb).2]
  omega
/-- Is a field of b, at a word's address, an inner slot? -/
def hit (b : Blk) (a : Int) : Prop := b.tag = 200 ∧ 1 ≤ a - b.ad ∧ a - b.ad < b.F.length ∧ b.F[(a - b.ad - 1).toNat]? = some (headW 201 (a - b.ad))
theorem find_blk' (h : Rep s r) {x : Int} {i : Nat} {b : Blk} (hb : r.L[i]? = some b) (e : (b.ad : Int) = addrW x) : s.find x = ((b.ad : Int), 0) := by
  unfold St.find
  rw [if_pos ((h.blk _).2 ⟨i, b, hb, e⟩), e]
theorem find_hit (h : Rep s r) {x : Int} {i : Nat} {b : Blk} (hn : ∀ (i : Nat) (b : Blk), r.L[i]? = some b → (b.ad : Int) ≠ addrW x) (hb : r.L[i]? = some b) (g : hit b (addrW x)) : s.find x = ((b.ad : Int), addrW x - b.ad) := by
  obtain ⟨g1, g2, g3, g4⟩ := g
  have ⟨i1, i2⟩ := h.inside hb
  have hnb : ¬ s.isBlk (addrW x) = true := by
    rw [h.blk]
    rintro ⟨k, c, hc, e⟩
    exact hn k c hc e
  have hc := h.fld i b hb _ _ g4
  have e0 : b.ad + (addrW x - b.ad - 1).toNat = (addrW x).toNat - 1 := by omega
  rw [e0] at hc
  have t : s.tagAt (addrW x) = 201 := by unfold St.tagAt; rw [hc]; exact tag_head _ _ (by omega) (by omega) (by omega) (by have := (h.tag i b hb).2.2; omega)
  have z : s.sizeAt (addrW x) = addrW x - b.ad := by unfold St.sizeAt; rw [hc]; exact size_head _ _ (by omega) (by omega) (by omega) (by have := (h.tag i b hb).2.2; omega)
  have hu : s.inUse (addrW x - 1) = true := by unfold St.inUse; simp; omega
  unfold St.find
  rw [if_neg hnb, if_neg (by rw [hu]; simp), z, show addrW x - (addrW x - (b.ad : Int)) = b.ad from by omega]
  rw [if_pos ⟨t, by unfold St.isInr; rw [(h.blk _).2 ⟨i, b, hb, rfl⟩, (h.tagAt hb).1, (h.tagAt hb).2, g1]; simp; omega⟩]
theorem find_none (h : Rep s r) (lo : ∀ i, 0 ≤ s.C i) (hi : ∀ i, s.C i ≤ 18446744073709551615) {x : Int} (hn : ∀ (i : Nat) (b : Blk), r.L[i]? = some b → (b.ad : Int) ≠ addrW x) (hm : ∀ (i : Nat) (b : Blk), r.L[i]? = some b → ¬ hit b (addrW x)) : s.find x = (0, 0) := by
  have hnb : ¬ s.isBlk (addrW x) = true := by
    rw [h.blk]
    rintro ⟨k, c, hc, e⟩
    exact hn k c hc e
  unfold St.find
  rw [if_neg hnb]
  split
  · rfl
  · rw [if_neg]
    rintro ⟨c1, c2⟩
    unfold St.isInr at c2
    simp only [Bool.and_eq_true, beq_iff_eq, decide_eq_true_eq] at c2
    obtain ⟨⟨d1, d2⟩, d3⟩ := c2
    obtain ⟨i, b, hb, e⟩ := (h.blk _).1 d1
    have hs : addrW x - b.ad = s.sizeAt (addrW x) := by omega
    rw [← e] at d2 d3
    rw [(h.tagAt hb).1] at d2
    rw [(h.tagAt hb).2] at d3
    have hz : 0 ≤ s.sizeAt (addrW x) := sizeW_lo _
    have hne := hn i b hb
    have hback := head_back _ (lo ((addrW x).toNat - 1)) (hi _) 201 c1 (by omega)
    have hlt : (addrW x - b.ad - 1).toNat < b.F.length := by omega
    refine hm i b hb ⟨d2, by omega, by omega, ?_⟩
    have hf := h.fld i b hb _ _ (List.getElem?_eq_getElem hlt)
    rw [show b.ad + (addrW x - b.ad - 1).toNat = (addrW x).toNat - 1 from by omega] at hf
    rw [List.getElem?_eq_getElem hlt, ← hf, hback, hs]
    rfl
end Rep
end Go.Proofs.Ytcbgjkedmboifab

/-
  What Alloc, Set and Flip make of the two arenas' one state: they stay in one state. Plain; no program.
-/
namespace Go.Proofs.Ytcbgjkedmboifab
open Go.RowKit Go.Deep
set_option linter.unusedVariables false

theorem rep_new (n : Nat) : Rep (St.new n) ⟨n, 0, []⟩ :=
  { n := rfl, wh := Nat.zero_le _, base := rfl, top := rfl, ad := by intro i b h; simp at h, head := by intro i b h; simp at h, fld := by intro i b h; simp at h, tag := by intro i b h; simp at h, may := by intro i b h; simp at h,
    hh := by intro j; constructor
             · intro h; exact absurd h (by show ¬ (false = true); simp)
             · rintro ⟨i, b, h, _⟩; simp at h }
def RS.flip (r : RS) : RS := ⟨r.n, 1 - r.which, []⟩
theorem rep_flip {s : St} {r : RS} (h : Rep s r) : Rep s.flip r.flip := by
  have hw := h.wh
  have hb := h.base
  have hn := h.n
  refine { n := h.n, wh := by show 1 - r.which ≤ 1; omega, base := ?_, top := rfl, ad := by intro i b h; simp [RS.flip] at h, head := by intro i b h; simp [RS.flip] at h, fld := by intro i b h; simp [RS.flip] at h, tag := by intro i b h; simp [RS.flip] at h, may := by intro i b h; simp [RS.flip] at h, hh := ?_ }
  · show s.n - s.base = r.n * (1 - r.which)
    have : r.which = 0 ∨ r.which = 1 := by omega
    rcases this with e | e <;> rw [e] at hb ⊢ <;> omega
  · intro j
    constructor
    · intro g
      have g' : (if j < s.top - s.base then false else s.H j) = true := g
      split at g'
      · cases g'
      · obtain ⟨i, b, hb, e⟩ := (h.hh j).1 g'
        have := h.inside hb
        omega
    · rintro ⟨i, b, hb, _⟩
      simp [RS.flip] at hb
def RS.alloc (s : St) (r : RS) (t z : Int) : RS := ⟨r.n, r.which, r.L ++ [⟨s.top + 1, t, List.replicate z.toNat 1⟩]⟩
theorem snoc_some {α : Type} {l : List α} {x b : α} {i : Nat} (h : (l ++ [x])[i]? = some b) : (l[i]? = some b ∧ i < l.length) ∨ (i = l.length ∧ b = x) := by
  by_cases hi : i < l.length
  · rw [List.getElem?_append_left hi] at h; exact Or.inl ⟨h, hi⟩
  · rw [List.getElem?_append_right (by omega)] at h
    have : i - l.length < 1 := by
      have := (List.getElem?_eq_some_iff.1 h).1
      simpa using this
    have e : i = l.length := by omega
    subst e
    simp at h
    exact Or.inr ⟨rfl, h.symm⟩
theorem rep_alloc {s : St} {r : RS} {t z : Int} (h : Rep s r) (hbt : s.base ≤ s.top) (g : s.allocE t z = 0) : Rep (s.alloc t z) (r.alloc s t z) := by
  obtain ⟨_, z0, z1, g4, t0, t1⟩ := allocE_zero g
  rw [alloc_st g]
  have htop := h.top
  have hmay : ∀ (i : Nat) (b : Blk), (r.alloc s t z).L[i]? = some b → St.mayLie b.tag = true := by
    intro i b hb
    rcases snoc_some hb with ⟨hb', hi⟩ | ⟨rfl, rfl⟩
    · exact h.may i b hb'
    · show St.mayLie t = true
      unfold St.allocE at g
      by_cases e : St.mayLie t = false
      · rw [if_pos e] at g; omega
      · simpa using e
  refine { n := h.n, wh := h.wh, base := h.base, top := ?_, ad := ?_, head := ?_, fld := ?_, tag := ?_, may := hmay, hh := ?_ }
  · show s.top + z.toNat + 1 = s.base + lenB (r.L ++ [⟨s.top + 1, t, List.replicate z.toNat 1⟩])
    rw [lenB_append]
    simp [lenB]
    omega
  · intro i b hb
    rcases snoc_some hb with ⟨hb', hi⟩ | ⟨rfl, rfl⟩
    · show b.ad = s.base + lenB ((r.L ++ [_]).take i) + 1
      rw [List.take_append_of_le_length (by omega)]
      exact h.ad i b hb'
    · show s.top + 1 = s.base + lenB ((r.L ++ [_]).take r.L.length) + 1
      rw [List.take_append_of_le_length (by omega), List.take_length]
      omega
  · intro i b hb
    show (if b.ad - 1 = s.top then headW t z else if s.top < b.ad - 1 ∧ b.ad - 1 ≤ s.top + z.toNat then 1 else s.C (b.ad - 1)) = _
    rcases snoc_some hb with ⟨hb', hi⟩ | ⟨rfl, rfl⟩
    · have := h.inside hb'
      rw [if_neg (by omega), if_neg (by omega)]
      exact h.head i b hb'
    · rw [if_pos (by show s.top + 1 - 1 = s.top; omega)]
      show headW t z = headW t ((List.replicate z.toNat (1 : Int)).length : Nat)
      rw [List.length_replicate, show ((z.toNat : Nat) : Int) = z from by omega]
  · intro i b hb j x hx
    show (if b.ad + j = s.top then headW t z else if s.top < b.ad + j ∧ b.ad + j ≤ s.top + z.toNat then 1 else s.C (b.ad + j)) = _
    rcases snoc_some hb with ⟨hb', hi⟩ | ⟨rfl, rfl⟩
    · have := h.inside hb'
      have hj := (List.getElem?_eq_some_iff.1 hx).1
      rw [if_neg (by omega), if_neg (by omega)]
      exact h.fld i b hb' j x hx
    · have hj := (List.getElem?_eq_some_iff.1 hx).1
      have hj' : j < z.toNat := by simpa using hj
      have hx' : x = 1 := by
        have := (List.getElem?_eq_some_iff.1 hx).2
        simpa using this.symm
      rw [if_neg (by show ¬ (s.top + 1 + j = s.top); omega), if_pos (by show s.top < s.top + 1 + j ∧ s.top + 1 + j ≤ _; omega), hx']
  · intro i b hb
    rcases snoc_some hb with ⟨hb', hi⟩ | ⟨rfl, rfl⟩
    · exact h.tag i b hb'
    · refine ⟨t0, t1, ?_⟩
      show (List.replicate z.toNat (1 : Int)).length ≤ 4096
      rw [List.length_replicate]; omega
  · intro j
    show (if j = s.top - s.base then true else s.H j) = true ↔ ∃ (i : Nat) (b : Blk), (r.L ++ [⟨s.top + 1, t, List.replicate z.toNat 1⟩])[i]? = some b ∧ b.ad = s.base + 1 + j
    constructor
    · intro gj
      by_cases e : j = s.top - s.base
      · refine ⟨r.L.length, ⟨s.top + 1, t, List.replicate z.toNat 1⟩, by simp, ?_⟩
        show s.top + 1 = _
        omega
      · rw [if_neg e] at gj
        obtain ⟨i, b, hb, e2⟩ := (h.hh j).1 gj
        have hi := (List.getElem?_eq_some_iff.1 hb).1
        exact ⟨i, b, by rw [List.getElem?_append_left hi]; exact hb, e2⟩
    · rintro ⟨i, b, hb, e⟩
      rcases snoc_some hb with ⟨hb', hi⟩ | ⟨rfl, rfl⟩
      · by_cases e' : j = s.top - s.base
        · rw [if_pos e']
        · rw [if_neg e']; exact (h.hh j).2 ⟨i, b, hb', e⟩
      · rw [if_pos]
        have e2 : s.top + 1 = s.base + 1 + j := e
        omega
def RS.put (r : RS) (k : Nat) (b : Blk) (i : Nat) (v : Int) : RS := ⟨r.n, r.which, r.L.set k ⟨b.ad, b.tag, b.F.set i v⟩⟩
theorem lenB_set (l : List Blk) (k : Nat) (b c : Blk) (h : l[k]? = some b) (e : c.F.length = b.F.length) : ∀ i, lenB ((l.set k c).take i) = lenB (l.take i) := by
  induction l generalizing k with
  | nil => intro i; simp
  | cons x l ih =>
    intro i
    cases k with
    | zero =>
      simp at h
      subst h
      cases i with
      | zero => simp
      | succ i => simp [lenB, e]
    | succ k =>
      simp at h
      cases i with
      | zero => simp
      | succ i => simp [lenB, ih k h i]
theorem set_some {r : RS} {k i m : Nat} {b c : Blk} {v : Int} (hk : r.L[k]? = some b) (h : (r.put k b m v).L[i]? = some c) : (i = k ∧ c = ⟨b.ad, b.tag, b.F.set m v⟩) ∨ (i ≠ k ∧ r.L[i]? = some c) := by
  have hl := (List.getElem?_eq_some_iff.1 hk).1
  unfold RS.put at h
  simp only at h
  by_cases e : i = k
  · subst e
    rw [List.getElem?_set_self hl] at h
    exact Or.inl ⟨rfl, by simpa using h.symm⟩
  · rw [List.getElem?_set_ne (fun c => e c.symm)] at h
    exact Or.inr ⟨e, h⟩
theorem rep_put {s : St} {r : RS} {x v : Int} {i k : Nat} {b : Blk} (h : Rep s r) (hk : r.L[k]? = some b) (hf : (s.find x).1 = b.ad) (hi : i < b.F.length) : s.fieldE x i = 0 ∧ Rep (s.put x i v) (r.put k b i v) := by
  have hin := h.inside hk
  have hE : s.fieldE x i = 0 := by
    unfold St.fieldE
    rw [hf, if_neg (by omega), (h.tagAt hk).2, if_neg (by omega)]
  refine ⟨hE, ?_⟩
  have hp : s.put x i v = St.mk s.n s.base s.top (fun j => if j = b.ad + i then v else s.C j) s.H := by
    unfold St.put
    rw [if_pos hE, hf, show ((b.ad : Int) + (i : Int)).toNat = b.ad + i from by omega]
  rw [hp]
  have hL : ∀ m, lenB ((r.put k b i v).L.take m) = lenB (r.L.take m) := lenB_set r.L k b _ hk (by simp)
  have hmay : ∀ (j : Nat) (c : Blk), (r.put k b i v).L[j]? = some c → St.mayLie c.tag = true := by
    intro j c hc
    rcases set_some hk hc with ⟨rfl, rfl⟩ | ⟨_, hc'⟩
    · exact h.may j b hk
    · exact h.may j c hc'
  refine { n := h.n, wh := h.wh, base := h.base, top := ?_, ad := ?_, head := ?_, fld := ?_, tag := ?_, may := hmay, hh := ?_ }
  · show s.top = s.base + lenB (r.put k b i v).L
    have := hL (r.put k b i v).L.length
    rw [List.take_length] at this
    have hl : (r.put k b i v).L.length = r.L.length := by simp [RS.put]
    rw [hl, List.take_length] at this
    rw [this]; exact h.top
  · intro j c hc
    rw [hL]
    rcases set_some hk hc with ⟨rfl, rfl⟩ | ⟨_, hc'⟩
    · exact h.ad j b hk
    · exact h.ad j c hc'
  · intro j c hc
    show (if c.ad - 1 = b.ad + i then v else s.C (c.ad - 1)) = _
    rcases set_some hk hc with ⟨rfl, rfl⟩ | ⟨ne, hc'⟩
    · rw [if_neg (by show ¬ (b.ad - 1 = b.ad + i); omega)]
      show s.C (b.ad - 1) = headW b.tag ((b.F.set i v).length : Nat)
      rw [List.length_set]
      exact h.head j b hk
    · have := h.inside hc'
      rw [if_neg]
      · exact h.head j c hc'
      · rcases Nat.lt_or_gt_of_ne ne with l | l
        · have := h.order hc' hk l; omega
        · have := h.order hk hc' l; omega
  · intro j c hc m x' hx
    show (if c.ad + m = b.ad + i then v else s.C (c.ad + m)) = _
    rcases set_some hk hc with ⟨rfl, rfl⟩ | ⟨ne, hc'⟩
    · have hx' : (b.F.set i v)[m]? = some x' := hx
      by_cases e : m = i
      · subst e
        rw [List.getElem?_set_self hi] at hx'
        rw [if_pos rfl]
        simpa using hx'
      · rw [List.getElem?_set_ne (fun c => e c.symm)] at hx'
        rw [if_neg (by show ¬ (b.ad + m = b.ad + i); omega)]
        exact h.fld j b hk m x' hx'
    · have hm := (List.getElem?_eq_some_iff.1 hx).1
      rw [if_neg]
      · exact h.fld j c hc' m x' hx
      · rcases Nat.lt_or_gt_of_ne ne with l | l
        · have := h.order hc' hk l; omega
        · have := h.order hk hc' l; omega
  · intro j c hc
    rcases set_some hk hc with ⟨rfl, rfl⟩ | ⟨ne, hc'⟩
    · have := h.tag j b hk
      refine ⟨this.1, this.2.1, ?_⟩
      show (b.F.set i v).length ≤ 4096
      rw [List.length_set]; exact this.2.2
    · exact h.tag j c hc'
  · intro j
    show s.H j = true ↔ _
    rw [h.hh j]
    constructor
    · rintro ⟨m, c, hc, e⟩
      by_cases em : m = k
      · subst em
        rw [hk] at hc
        have hbc : b = c := by simpa using hc
        subst hbc
        refine ⟨m, ⟨b.ad, b.tag, b.F.set i v⟩, ?_, e⟩
        unfold RS.put
        exact List.getElem?_set_self (List.getElem?_eq_some_iff.1 hk).1
      · exact ⟨m, c, by unfold RS.put; rw [List.getElem?_set_ne (fun c => em c.symm)]; exact hc, e⟩
    · rintro ⟨m, c, hc, e⟩
      rcases set_some hk hc with ⟨rfl, rfl⟩ | ⟨ne, hc'⟩
      · exact ⟨m, b, hk, e⟩
      · exact ⟨m, c, hc', e⟩
end Go.Proofs.Ytcbgjkedmboifab

/-
  A row of words that the call itself has made, and the law of append for a copy of words into an empty row of the call's own. Condition: what is copied lies in memory.
-/
namespace Go.Proofs.Ytcbgjkedmboifab
open Go.RowKit Go.Deep
set_option linter.unusedVariables false
set_option maxHeartbeats 400000

/-- Block g begins with the m words X. -/
def Own (w : World) (g m : Nat) (X : Nat → Int) : Prop := ∃ cur : Array Value, w.heap[g]? = some (.cells cur 30 (0, 0)) ∧ ∀ i, i < m → cur[i]? = some (.int .u64 (X i))
namespace Own
variable {w w' : World} {g m : Nat} {X Y : Nat → Int}
theorem lt (h : Own w g m X) : g < w.heap.size := by obtain ⟨c, e, _⟩ := h; exact lt_of_some e
theorem cell (h : Own w g m X) {i : Nat} (hi : i < m) : w.cell? ⟨g, i, none⟩ = some (.int .u64 (X i)) := by
  obtain ⟨c, e, f⟩ := h; simp [World.cell?, e, f i hi]
theorem frozen (h : Own w g m X) (i : Nat) : w.frozen? ⟨g, i, none⟩ = false := by
  obtain ⟨c, e, f⟩ := h; simp [World.frozen?, e]
theorem of_block (h : Own w g m X) (e : w'.heap[g]? = w.heap[g]?) : Own w' g m X := by
  obtain ⟨c, e1, f⟩ := h; exact ⟨c, e.trans e1, f⟩
theorem frame {S : Nat → Prop} (h : Own w g m X) (k : Only S w w') (hs : ¬ S g) : Own w' g m X := h.of_block (k.block g h.lt hs)
theorem congr (h : Own w g m X) (e : ∀ i, i < m → X i = Y i) : Own w g m Y := by
  obtain ⟨c, e1, f⟩ := h; exact ⟨c, e1, fun i hi => by rw [f i hi, e i hi]⟩
theorem drewN (h : Own w g m X) (n : Nat) : Own (w.drewN n) g m X := h
theorem set (h : Own w g m X) (i : Nat) (v : Int) : Own (w.setCell ⟨g, i, none⟩ (.int .u64 v)) g m (fun j => if j = i then v else X j) := by
  obtain ⟨c, hb, hc⟩ := h
  refine ⟨c.setIfInBounds i (.int .u64 v), ?_, fun j hj => ?_⟩
  · simp [World.setCell, Array.getElem?_modify, hb]
  · rw [Array.getElem?_setIfInBounds]
    have hl : j < c.size := (Array.getElem?_eq_some_iff.1 (hc j hj)).1
    by_cases e : j = i
    · subst e
      simp [hl]
    · rw [if_neg (fun h => e h.symm)]
      show c[j]? = some (.int .u64 (if j = i then v else X j))
      rw [if_neg e]
      exact hc j hj
end Own
theorem own_of_row {w : World} {base g n cap : Nat} {X : Nat → Int} (h : w.ownsRow base 30 1 (.slice (some ⟨g, 0, none⟩) n cap) n ((List.range n).map fun j => .int .u64 (X j))) : Own w g n X ∧ base ≤ g := by
  rcases h.2 with ⟨h', _⟩ | ⟨g', cap', cur, h', hb, hg, hnc, _, hcs, htake⟩
  · simp at h'
  · simp only [Value.slice.injEq, Option.some.injEq, Addr.mk.injEq, and_true, true_and] at h'
    obtain ⟨rfl, rfl⟩ := h'
    refine ⟨⟨cur, hg, fun i hi => ?_⟩, hb⟩
    have : (cur.toList.take (n * 1))[i]? = some (.int .u64 (X i)) := by rw [htake]; simp [hi]
    rw [List.getElem?_take, if_pos (by omega)] at this
    simpa using this
theorem wpList_append_words {w : World} {ops : Array Oper} {rest : List Oper} {o : Oper} {a : Act} {Q : Exit → Act → World → Prop} (hgd : o.guard = none) (s x : Operand)
    (ho : o.op = .call { callee := .builtin .append, args := #[s, x], argTypes := #[37, 37] }) (g0 : Nat) (hs : a.eval s = .slice (some ⟨g0, 0, none⟩) 0 0) (hg0 : w.heap[g0]? = some (.cells #[] 30 (0, 0)))
    (ao : Option Addr) (m c : Nat) (hx : a.eval x = .slice ao m c) (X : Nat → Int) (hn : ao = none → m = 0 ∧ c = 0) (hcell : ∀ j, j < m → ∃ ad, ao = some ad ∧ w.cell? (ad.add j) = some (.int .u64 (X j))) (hm : m ≤ 1000000)
    (h : ∀ g cap w', Own w' g m X → w.grownBy w' (some g0) → g0 ≤ g → wpList Try.prog ops Q rest (a.put o.dst (.slice (some ⟨g, 0, none⟩) m cap)) w') : wpList Try.prog ops Q (o :: rest) a w := by
  obtain ⟨i0, hi, hz0, hz1, hz2⟩ := info_parts Try.info30
  have hg : g0 < w.heap.size := lt_of_some hg0
  have hown : w.ownsRow g0 30 1 (.slice (some ⟨g0, 0, none⟩) 0 0) 0 [] := ⟨rfl, .inr ⟨g0, 0, #[], rfl, Nat.le_refl _, hg0, Nat.le_refl _, Nat.zero_le _, rfl, rfl⟩⟩
  cases ao with
  | none =>
    obtain ⟨rfl, rfl⟩ := hn rfl
    refine wpList_append_own_none hgd s x 37 ho g0 30 i0 1 Try.underlying37 hi _ 0 [] hs hown hx ?_
    exact h g0 0 w ⟨#[], hg0, fun i hi => by omega⟩ ⟨rfl, rfl, rfl, Nat.le_refl _, fun _ _ _ => rfl⟩ (Nat.le_refl _)
  | some ad =>
    refine wpList_append_own w hgd s x 37 ho g0 30 i0 (.int .u64 0) 1 8 Try.underlying37 hi hz0 hz1 hz2 rfl (by decide) _ 0 [] hs hown ad m c ((List.range m).map fun j => .int .u64 (X j)) hx (by simp) ?_ ?_ (by unfold maxLen; omega) (by omega) (by omega) ?_
    · intro j u hu
      have hj : j < m := by
        have := (List.getElem?_eq_some_iff.1 hu).1
        simpa using this
      obtain ⟨ad', e, hc⟩ := hcell j hj
      cases e
      rw [hc]
      simp [hj] at hu
      rw [hu]
    · intro u hu
      simp at hu
      obtain ⟨j, _, rfl⟩ := hu
      rfl
    · intro v' w' h1 h2 h3
      rw [Nat.zero_add, List.nil_append] at h1
      have hne : v' ≠ .slice none 0 0 := by
        intro e
        have := (h3.1 e).1
        simp at this
      rcases h1.2 with ⟨e, _⟩ | ⟨g, cap, cur, rfl, r⟩
      · exact absurd e hne
      · obtain ⟨q1, q2⟩ := own_of_row h1
        exact h g cap w' q1 h2 q2
end Go.Proofs.Ytcbgjkedmboifab

/-
  How the document's own arena lies in memory: one block of three cells; a row of blocks of three cells each; a row of words for each block's fields. No program is named here but by its types' numbers.
-/
namespace Go.Proofs.Ytcbgjkedmboifab
open Go.RowKit Go.Deep
set_option linter.unusedVariables false

/-- A slice value holds the words F, in a row from block B on. -/
def FieldOf (w : World) (B : Nat) (v : Value) (F : List Int) : Prop :=
  ∃ (a : Option Addr) (cap : Nat), v = .slice a F.length cap ∧ (a = none → F.length = 0 ∧ cap = 0) ∧ ∀ ad, a = some ad → ∃ g, ad = ⟨g, 0, none⟩ ∧ B ≤ g ∧ Own w g F.length (fun i => F.getD i 0)
/-- A slice value holds the blocks L, in a row from block B on. -/
def BlocksOf (w : World) (B : Nat) (a : Option Addr) (cap : Nat) (L : List Blk) (V : Nat → Value) : Prop :=
  (a = none → L.length = 0 ∧ cap = 0) ∧ L.length ≤ cap ∧ cap ≤ maxLen ∧
  ∀ ad, a = some ad → ∃ (g : Nat) (cur : Array Value), ad = ⟨g, 0, none⟩ ∧ B ≤ g ∧ w.heap[g]? = some (.cells cur 105 (0, 0)) ∧ cur.size = cap * 3 ∧
    ∀ i b, L[i]? = some b → cur[i * 3]? = some (.int .i64 b.ad) ∧ cur[i * 3 + 1]? = some (.int .i64 b.tag) ∧ cur[i * 3 + 2]? = some (V i) ∧ FieldOf w B (V i) b.F
structure Rf (w : World) (rb : Nat) (r : RS) (a : Option Addr) (cap : Nat) (V : Nat → Value) : Prop where
  hr : w.heap[rb]? = some (.cells #[.int .i64 r.n, .int .i64 r.which, .slice a r.L.length cap] 84 (0, 0))
  hl : BlocksOf w (rb + 1) a cap r.L V

theorem FieldOf.frame {w w' : World} {B : Nat} {v : Value} {F : List Int} {S : Nat → Prop} (h : FieldOf w B v F) (k : Only S w w') (hs : ∀ g, B ≤ g → w.heap.size ≤ g ∨ ¬ S g) : FieldOf w' B v F := by
  obtain ⟨a, cap, e, hn, hc⟩ := h
  refine ⟨a, cap, e, hn, fun ad had => ?_⟩
  obtain ⟨g, e2, hb, ho⟩ := hc ad had
  have := ho.lt
  exact ⟨g, e2, hb, ho.frame k (by rcases hs g hb with h | h; omega; exact h)⟩
theorem Rf.frame {w w' : World} {rb : Nat} {r : RS} {a : Option Addr} {cap : Nat} {V : Nat → Value} {S : Nat → Prop} (h : Rf w rb r a cap V) (k : Only S w w') (hs : ∀ g, rb ≤ g → ¬ S g) : Rf w' rb r a cap V := by
  refine ⟨(k.block _ (lt_of_some h.hr) (hs _ (Nat.le_refl _))).trans h.hr, h.hl.1, h.hl.2.1, h.hl.2.2.1, fun ad had => ?_⟩
  obtain ⟨g, cur, e, hb, hg, hc, hcell⟩ := h.hl.2.2.2 ad had
  refine ⟨g, cur, e, hb, (k.block _ (lt_of_some hg) (hs _ (by omega))).trans hg, hc, fun i b hib => ?_⟩
  obtain ⟨c1, c2, c3, c4⟩ := hcell i b hib
  exact ⟨c1, c2, c3, c4.frame k (fun g hg => Or.inr (hs g (by omega)))⟩
theorem Rf.drewN {w : World} {rb : Nat} {r : RS} {a : Option Addr} {cap : Nat} {V : Nat → Value} (h : Rf w rb r a cap V) (n : Nat) : Rf (w.drewN n) rb r a cap V := ⟨h.hr, h.hl⟩
theorem Rf.cells {w : World} {rb : Nat} {r : RS} {a : Option Addr} {cap : Nat} {V : Nat → Value} (h : Rf w rb r a cap V) :
    w.cell? ⟨rb, 0, none⟩ = some (.int .i64 r.n) ∧ w.cell? ⟨rb, 1, none⟩ = some (.int .i64 r.which) ∧ w.cell? ⟨rb, 2, none⟩ = some (.slice a r.L.length cap) ∧ (∀ o, w.frozen? ⟨rb, o, none⟩ = false) := by
  simp [World.cell?, World.frozen?, h.hr]
/-- Where block i of the list lies. -/
theorem Rf.row {w : World} {rb : Nat} {r : RS} {a : Option Addr} {cap : Nat} {V : Nat → Value} (h : Rf w rb r a cap V) (hL : r.L.length ≠ 0) : ∃ g, a = some ⟨g, 0, none⟩ ∧ rb < g ∧ g < w.heap.size ∧ (∀ o, w.frozen? ⟨g, o, none⟩ = false) ∧
    ∀ i b, r.L[i]? = some b → w.cell? ⟨g, i * 3, none⟩ = some (.int .i64 b.ad) ∧ w.cell? ⟨g, i * 3 + 1, none⟩ = some (.int .i64 b.tag) ∧ w.cell? ⟨g, i * 3 + 2, none⟩ = some (V i) ∧ FieldOf w (rb + 1) (V i) b.F := by
  cases a with
  | none => exact absurd (h.hl.1 rfl).1 hL
  | some ad =>
    obtain ⟨g, cur, rfl, hb, hg, hc, hcell⟩ := h.hl.2.2.2 ad rfl
    refine ⟨g, rfl, by omega, lt_of_some hg, fun o => by simp [World.frozen?, hg], fun i b hib => ?_⟩
    obtain ⟨c1, c2, c3, c4⟩ := hcell i b hib
    refine ⟨?_, ?_, ?_, c4⟩ <;> simp [World.cell?, *]
/-- Each block's row of fields is one that was there, or a new one. -/
def Fresh (B m : Nat) (V : Nat → Value) (m' : Nat) (V' : Nat → Value) : Prop := ∀ i, i < m' → (i < m ∧ V' i = V i) ∨ ∀ ad n c, V' i = .slice (some ad) n c → B ≤ ad.block
theorem Fresh.refl (B m : Nat) (V : Nat → Value) : Fresh B m V m V := fun i hi => Or.inl ⟨hi, rfl⟩
theorem Fresh.mono {B B' m : Nat} {V : Nat → Value} {m' : Nat} {V' : Nat → Value} (h : Fresh B m V m' V') (hb : B' ≤ B) : Fresh B' m V m' V' := by
  intro i hi
  rcases h i hi with h1 | h1
  · exact Or.inl h1
  · exact Or.inr (fun ad n c e => Nat.le_trans hb (h1 ad n c e))
end Go.Proofs.Ytcbgjkedmboifab

/-
  What the document's own functions for numbers, addresses and headers return that layer 2's statements call, each by its plain arithmetic; nothing in memory changes. Conditions: each argument fits its kind.
-/
namespace Go.Proofs.Ytcbgjkedmboifab
open Go.ChangeShapes Go.WideShapes Go.ChangeAt Go.RowKit
set_option linter.unusedVariables false
set_option maxHeartbeats 400000

theorem rcut_any (n : Int) (w : World) (h : -9223372036854775808 ≤ n) (h' : n ≤ 9223372036854775807) :
    Calls Try.prog 36 #[.int .i64 n] w fun e w' => e = .returned (.int .i64 (cutN n)) ∧ w' = w := by
  go_enter Try.func36, Try.ntmps36
  go_wp2
  all_goals go_ret
  all_goals exact ⟨ret_int (by unfold cutN; omega), rfl⟩
theorem rint_any (n : Int) (w : World) (h : -9223372036854775808 ≤ n) (h' : n ≤ 9223372036854775807) :
    Calls Try.prog 13 #[.int .i64 n] w fun e w' => e = .returned (.int .u64 (intW n)) ∧ w' = w := by
  have lo := cutN_lo n
  have hi := cutN_hi n
  go_enter Try.func13, Try.ntmps13
  go_wp2_with (go_at_call 36; refine (rcut_any _ _ (by omega) (by omega)).mono ?_; rintro e w' ⟨rfl, rfl⟩)
  all_goals go_ret
  all_goals refine ⟨ret_int ?_, rfl⟩
  · rw [← intW_cut n, IntKind.wrap_u64, IntKind.wrap_u64]; unfold intW; omega
  · rw [← intW_cut n]; unfold intW; omega
theorem risInt_any (x : Int) (w : World) (h : 0 ≤ x) (h' : x ≤ 18446744073709551615) :
    Calls Try.prog 81 #[.int .u64 x] w fun e w' => e = .returned (.bool (isIntW x)) ∧ w' = w := by
  go_enter Try.func81, Try.ntmps81
  go_wp2
  go_ret
  exact ⟨rfl, rfl⟩
theorem rptr_any (a : Int) (w : World) (h : -9223372036854775808 ≤ a) (h' : a ≤ 9223372036854775807) :
    Calls Try.prog 55 #[.int .i64 a] w fun e w' => e = .returned (.int .u64 (ptrW a)) ∧ w' = w := by
  by_cases c1 : a < 0
  · go_enter Try.func55, Try.ntmps55
    go_wp2
    all_goals go_ret
    all_goals exact ⟨ret_int (by unfold ptrW; split <;> omega), rfl⟩
  · by_cases c2 : 2147483647 < a
    all_goals
      go_enter Try.func55, Try.ntmps55
      go_wp2
      all_goals go_ret
      all_goals exact ⟨ret_int (by unfold ptrW; split <;> omega), rfl⟩
theorem raddr_any (x : Int) (w : World) (h : 0 ≤ x) (h' : x ≤ 18446744073709551615) :
    Calls Try.prog 82 #[.int .u64 x] w fun e w' => e = .returned (.int .i64 (addrW x)) ∧ w' = w := by
  by_cases c1 : x % 2 = 1
  · have g : (x % 2 == 1) = true := by rw [beq_iff_eq]; omega
    have HC : Hid (x % 2 = 1) := c1
    clear c1
    go_enter Try.func82, Try.ntmps82
    go_wp2
    all_goals go_ret
    all_goals exact ⟨ret_int (by have c1 := HC.out; unfold addrW; split <;> omega), rfl⟩
  · have g : (x % 2 == 1) = false := by rw [beq_eq_false_iff_ne]; omega
    have HC : Hid (¬ x % 2 = 1) := c1
    clear c1
    by_cases c2 : 4294967294 < x
    all_goals
      go_enter Try.func82, Try.ntmps82
      go_wp2
      all_goals go_ret
      all_goals exact ⟨ret_int (by have c1 := HC.out; unfold addrW; split <;> omega), rfl⟩
theorem rhead_any (t s : Int) (w : World) (h : -9223372036854775808 ≤ t) (h' : t ≤ 9223372036854775807) (g : -9223372036854775808 ≤ s) (g' : s ≤ 9223372036854775807) :
    Calls Try.prog 83 #[.int .i64 t, .int .i64 s] w fun e w' => e = .returned (.int .u64 (headW t s)) ∧ w' = w := by
  by_cases c : t < 0 ∨ 255 < t ∨ s < 0 ∨ 2147483647 < s
  · have hv : headW t s = 0 := by unfold headW; rw [if_pos c]
    rw [hv]
    clear hv
    by_cases c1 : t < 0
    · clear c
      go_enter Try.func83, Try.ntmps83
      go_wp2_with fail
      all_goals go_ret
      all_goals exact ⟨rfl, rfl⟩
    · by_cases c2 : 255 < t
      · clear c
        go_enter Try.func83, Try.ntmps83
        go_wp2_with fail
        all_goals go_ret
        all_goals exact ⟨rfl, rfl⟩
      · by_cases c3 : s < 0
        · clear c
          go_enter Try.func83, Try.ntmps83
          go_wp2_with fail
          all_goals go_ret
          all_goals exact ⟨rfl, rfl⟩
        · have c4 : 2147483647 < s := by omega
          clear c
          go_enter Try.func83, Try.ntmps83
          go_wp2_with fail
          all_goals go_ret
          all_goals exact ⟨rfl, rfl⟩
  · have hv : headW t s = intW (256 * s + t) := by unfold headW; rw [if_neg c]
    rw [hv]
    clear hv
    have c1 : 0 ≤ t := by omega
    have c2 : t ≤ 255 := by omega
    have c3 : 0 ≤ s := by omega
    have c4 : s ≤ 2147483647 := by omega
    clear c
    go_enter Try.func83, Try.ntmps83
    go_wp2_with (go_at_call 13; refine (rint_any _ _ (by omega) (by omega)).mono ?_; rintro e w' ⟨rfl, rfl⟩)
    all_goals go_ret
    all_goals exact ⟨ret_int (by first | (congr 1; done) | (congr 1; omega)), rfl⟩
end Go.Proofs.Ytcbgjkedmboifab

/-
  What the document's own arena tells, where it only reads. Condition: it lies in memory (Rf).
-/
namespace Go.Proofs.Ytcbgjkedmboifab
open Go.ChangeShapes Go.WideShapes Go.ChangeAt Go.RowKit Go.Deep
set_option linter.unusedVariables false
set_option maxHeartbeats 400000

theorem rbase_any {rb : Nat} {r : RS} {a : Option Addr} {cap : Nat} {V : Nat → Value} (B : Nat) (w : World) (h : Rf w rb r a cap V) (hB : B = r.n * r.which) (hn : r.n ≤ 32768) (hw : r.which ≤ 1) :
    Calls Try.prog 54 #[.pointer (some ⟨rb, 0, none⟩)] w fun e w' => e = .returned (.int .i64 B) ∧ ∃ m, w' = w.drewN m := by
  obtain ⟨c0, c1, c2, c3⟩ := h.cells
  have e0 : (r.n : Int) * (r.which : Int) = ((r.n * r.which : Nat) : Int) := by simp
  have e2 : B ≤ r.n := by
    have : r.which = 0 ∨ r.which = 1 := by omega
    rcases this with e | e <;> rw [hB, e] <;> omega
  have e1 : IntKind.i64.wrap ((r.n : Int) * (r.which : Int)) = (B : Int) := by rw [e0, ← hB]; exact wrapId _ (by omega) (by omega)
  clear e0 hB
  go_enter Try.func54, Try.ntmps54
  go_wp2
  go_quiet (fail)
  go_wp2
  go_ret
  exact ⟨rfl, _, rfl⟩
theorem rtop_any {rb : Nat} {r : RS} {a : Option Addr} {cap : Nat} {V : Nat → Value} (B : Nat) (w : World) (h : Rf w rb r a cap V) (hB : B = r.n * r.which) (hn : r.n ≤ 32768) (hw : r.which ≤ 1) (hB2 : B ≤ 32768) (hL : lenB r.L ≤ 100000) (hLl : r.L.length ≤ 100000) :
    Calls Try.prog 53 #[.pointer (some ⟨rb, 0, none⟩)] w fun e w' => e = .returned (.int .i64 (B + lenB r.L : Nat)) ∧ ∃ m, w' = w.drewN m := by
  go_enter Try.func53, Try.ntmps53
  go_wp2_with fail
  refine (rbase_any B _ h hB hn hw).mono ?_
  clear hB
  rintro e w' ⟨rfl, m, rfl⟩
  have h1 := h.drewN m
  obtain ⟨w1, hw1⟩ : ∃ w1, w1 = w.drewN m := ⟨_, rfl⟩
  rw [← hw1] at h1 ⊢
  have HW : Hid (w1 = w.drewN m) := hw1
  clear hw1
  obtain ⟨c0, c1, c2, c3⟩ := h1.cells
  go_wp2_with fail
  go_loop [3, 4] (fun t i => ∃ k : Nat, k ≤ r.L.length ∧ i = .int .i64 k ∧ t = .int .i64 ((B + lenB (r.L.take k) : Nat) : Int)) (fun _ i => r.L.length - (intOf i).toNat)
  case atStart => exact ⟨0, Nat.zero_le _, rfl, rfl⟩
  case round =>
    obtain ⟨k, hk, rfl, rfl⟩ := hrel
    by_cases hlt : k < r.L.length
    · obtain ⟨g, rfl, hg1, hg2, hg3, hg4⟩ := h1.row (by omega)
      obtain ⟨d0, d1, d2, d3⟩ := hg4 k r.L[k] (List.getElem?_eq_getElem hlt)
      have HS : Hid _ := lenB_succ r.L k r.L[k] (List.getElem?_eq_getElem hlt)
      have hle := lenB_take_all r.L (k + 1)
      rw [HS.out] at hle
      obtain ⟨a', cap', hv, hv2, hv3⟩ := d3
      rw [hv] at d2
      clear hg4 hv hv2 hv3
      go_wp2
      go_round
      case rel => exact ⟨k + 1, by omega, by go_num, by rw [HS.out]; go_num⟩
      case measure => simp [intOf]; omega
    · go_wp2
      go_ret
      exact ⟨ret_int (by rw [List.take_of_length_le (by omega)]), m, HW.out⟩
end Go.Proofs.Ytcbgjkedmboifab

/-
  Which block of the document's own arena a word leads to. Condition: it lies in memory (Rf), its addresses are those of cells.
-/
namespace Go.Proofs.Ytcbgjkedmboifab
open Go.ChangeShapes Go.WideShapes Go.ChangeAt Go.RowKit Go.Deep
set_option linter.unusedVariables false
set_option maxHeartbeats 1000000

theorem isInt_addr {x : Int} (h : isIntW x = true) : addrW x = 0 := by
  unfold isIntW at h
  unfold addrW
  rw [if_pos (Or.inl (by simpa using h))]
theorem rfind_zero {rb : Nat} {r : RS} {a : Option Addr} {cap : Nat} {V : Nat → Value} (x : Int) (w : World) (h : Rf w rb r a cap V) (h0 : 0 ≤ x) (h1 : x ≤ 18446744073709551615) (g : addrW x = 0) :
    Calls Try.prog 57 #[.pointer (some ⟨rb, 0, none⟩), .int .u64 x] w fun e w' => e = .returned (.tuple #[.int .i64 (-1), .int .i64 0]) ∧ w' = w := by
  have G : (addrW x == 0) = true := by rw [beq_iff_eq]; exact g
  clear g
  cases g1 : isIntW x
  all_goals
    go_enter Try.func57, Try.ntmps57
    go_wp2_with (first | (go_at_call 81; refine (risInt_any _ _ (by omega) (by omega)).mono ?_; rintro e w' ⟨rfl, rfl⟩) | (go_at_call 82; refine (raddr_any _ _ (by omega) (by omega)).mono ?_; rintro e w' ⟨rfl, rfl⟩))
    all_goals go_ret2
    all_goals exact ⟨rfl, rfl⟩
theorem rfind_blk {rb : Nat} {r : RS} {a : Option Addr} {cap : Nat} {V : Nat → Value} (x : Int) (k : Nat) (b : Blk) (w : World) (h : Rf w rb r a cap V) (hLl : r.L.length ≤ 100000) (h0 : 0 ≤ x) (h1 : x ≤ 18446744073709551615) (g : addrW x ≠ 0)
    (hk : r.L[k]? = some b) (hb : (b.ad : Int) = addrW x) (hn : ∀ i c, i < k → r.L[i]? = some c → (c.ad : Int) ≠ addrW x) :
    Calls Try.prog 57 #[.pointer (some ⟨rb, 0, none⟩), .int .u64 x] w fun e w' => e = .returned (.tuple #[.int .i64 k, .int .i64 0]) ∧ w' = w := by
  have G : (addrW x == 0) = false := beq_eq_false_iff_ne.2 g
  have g1 : isIntW x = false := by
    cases c : isIntW x
    · rfl
    · exact absurd (isInt_addr c) g
  have hl := (List.getElem?_eq_some_iff.1 hk).1
  obtain ⟨ga, rfl, hg1, hg2, hg3, hg4⟩ := h.row (by omega)
  obtain ⟨c0, c1, c2, c3⟩ := h.cells
  have HN : Hid _ := hn
  have HK : Hid _ := hk
  have HG : Hid _ := hg4
  have HB : Hid _ := hb
  clear g hn hk hg4 hb
  go_enter Try.func57, Try.ntmps57
  go_wp2_with (first | (go_at_call 81; refine (risInt_any _ _ (by omega) (by omega)).mono ?_; rintro e w' ⟨rfl, rfl⟩) | (go_at_call 82; refine (raddr_any _ _ (by omega) (by omega)).mono ?_; rintro e w' ⟨rfl, rfl⟩))
  go_loop [7] (fun i => ∃ j : Nat, j ≤ k ∧ i = .int .i64 j) (fun i => k - (intOf i).toNat)
  case atStart => exact ⟨0, Nat.zero_le _, rfl⟩
  case round =>
    obtain ⟨j, hj, rfl⟩ := hrel
    by_cases e : j < k
    · have hjl : j < r.L.length := by omega
      obtain ⟨d0, d1, d2, d3⟩ := HG.out j r.L[j] (List.getElem?_eq_getElem hjl)
      have ne : ((r.L[j].ad : Int) == addrW x) = false := beq_eq_false_iff_ne.2 (HN.out j r.L[j] e (List.getElem?_eq_getElem hjl))
      clear d3
      go_wp2
      go_round
      case rel => exact ⟨j + 1, by omega, by go_num⟩
      case measure => simp [intOf]; omega
    · have : j = k := by omega
      subst this
      obtain ⟨d0, d1, d2, d3⟩ := HG.out j b HK.out
      have ne : ((b.ad : Int) == addrW x) = true := by rw [beq_iff_eq]; exact HB.out
      clear d3
      go_wp2
      go_ret2
      exact ⟨rfl, rfl⟩
end Go.Proofs.Ytcbgjkedmboifab

/-
  Which block of the document's own arena a word leads to by an inner slot, or that there is none. Condition: it lies in memory (Rf), its addresses are those of cells.
-/
namespace Go.Proofs.Ytcbgjkedmboifab
open Go.ChangeShapes Go.WideShapes Go.ChangeAt Go.RowKit Go.Deep
set_option linter.unusedVariables false
set_option maxHeartbeats 4000000

/-- The cell of a field. -/
theorem field_cell {w : World} {B : Nat} {v : Value} {F : List Int} (h : FieldOf w B v F) (i : Nat) (hi : i < F.length) : ∃ g cap, v = .slice (some ⟨g, 0, none⟩) F.length cap ∧ B ≤ g ∧ w.cell? ⟨g, i, none⟩ = some (.int .u64 (F.getD i 0)) := by
  obtain ⟨a, cap, e, hn, hc⟩ := h
  cases a with
  | none => have := (hn rfl).1; omega
  | some ad =>
    obtain ⟨g, rfl, hb, ho⟩ := hc ad rfl
    exact ⟨g, cap, e, hb, ho.cell hi⟩
theorem field_len {w : World} {B : Nat} {v : Value} {F : List Int} (h : FieldOf w B v F) : ∃ a cap, v = .slice a F.length cap := by
  obtain ⟨a, cap, e, _⟩ := h
  exact ⟨a, cap, e⟩
theorem miss_lt {r : RS} {x i d : Int} {K j : Nat} {b : Blk} (hi : (K = r.L.length ∧ i = -1 ∧ d = 0) ∨ (∃ b, r.L[K]? = some b ∧ Rep.hit b (addrW x) ∧ i = K ∧ d = addrW x - b.ad)) (hj : j ≤ K) (hjl : j < r.L.length) (hb : r.L[j]? = some b) (hit : ¬ Rep.hit b (addrW x)) : j < K := by
  by_cases c : j < K
  · exact c
  · exfalso
    rcases hi with ⟨e, _⟩ | ⟨b', hb', hh, _, _⟩
    · omega
    · have : j = K := by omega
      rw [← this, hb] at hb'
      have : b = b' := by simpa using hb'
      subst this
      exact hit hh
set_option maxRecDepth 100000 in
theorem rfind_rest {rb : Nat} {r : RS} {a : Option Addr} {cap : Nat} {V : Nat → Value} (x : Int) (K : Nat) (i d : Int) (w : World) (h : Rf w rb r a cap V) (hLl : r.L.length ≤ 100000) (h0 : 0 ≤ x) (h1 : x ≤ 18446744073709551615) (g : addrW x ≠ 0)
    (had : ∀ (j : Nat) (c : Blk), r.L[j]? = some c → c.ad ≤ 100000) (hlen : ∀ (j : Nat) (c : Blk), r.L[j]? = some c → c.F.length ≤ 4096)
    (hn : ∀ (j : Nat) (c : Blk), r.L[j]? = some c → (c.ad : Int) ≠ addrW x) (hK : K ≤ r.L.length) (hm : ∀ (j : Nat) (c : Blk), j < K → r.L[j]? = some c → ¬ Rep.hit c (addrW x))
    (hi : (K = r.L.length ∧ i = -1 ∧ d = 0) ∨ (∃ b, r.L[K]? = some b ∧ Rep.hit b (addrW x) ∧ i = K ∧ d = addrW x - b.ad)) :
    Calls Try.prog 57 #[.pointer (some ⟨rb, 0, none⟩), .int .u64 x] w fun e w' => e = .returned (.tuple #[.int .i64 i, .int .i64 d]) ∧ ∃ m, w' = w.drewN m := by
  have G : (addrW x == 0) = false := beq_eq_false_iff_ne.2 g
  have g1 : isIntW x = false := by
    cases c : isIntW x
    · rfl
    · exact absurd (isInt_addr c) g
  have A0 := addrW_lo x h0
  have A1 := addrW_hi x
  obtain ⟨c0, c1, c2, c3⟩ := h.cells
  have HN : Hid _ := hn
  have HM : Hid _ := hm
  have HI : Hid _ := hi
  have HAD : Hid _ := had
  have HLE : Hid _ := hlen
  clear g hn hm hi had hlen
  go_enter Try.func57, Try.ntmps57
  go_wp2_with (first | (go_at_call 81; refine (risInt_any _ _ (by omega) (by omega)).mono ?_; rintro e w' ⟨rfl, hw'⟩; rw [hw']; clear hw' w') | (go_at_call 82; refine (raddr_any _ _ (by omega) (by omega)).mono ?_; rintro e w' ⟨rfl, hw'⟩; rw [hw']; clear hw' w'))
  go_loop [7] (fun i => ∃ j : Nat, j ≤ r.L.length ∧ i = .int .i64 j) (fun i => r.L.length - (intOf i).toNat)
  case atStart => exact ⟨0, Nat.zero_le _, rfl⟩
  case round =>
    obtain ⟨j, hj, rfl⟩ := hrel
    by_cases hjl : j < r.L.length
    · obtain ⟨ga, rfl, hg1, hg2, hg3, hg4⟩ := h.row (by omega)
      obtain ⟨d0, d1, d2, d3⟩ := hg4 j r.L[j] (List.getElem?_eq_getElem hjl)
      have ne : ((r.L[j].ad : Int) == addrW x) = false := beq_eq_false_iff_ne.2 (HN.out j r.L[j] (List.getElem?_eq_getElem hjl))
      clear d3 hg4
      go_wp2
      go_round
      case rel => exact ⟨j + 1, by omega, by go_num⟩
      case measure => simp [intOf]; omega
    · go_wp2
      clear hj hjl
      go_loopw [8] (fun i wr => ∃ j m : Nat, j ≤ K ∧ i = .int .i64 j ∧ wr = w.drewN m) (fun i _ => K - (intOf i).toNat)
      case atStart => exact ⟨0, 0, Nat.zero_le _, rfl, rfl⟩
      case round =>
        clear c0 c1 c2 c3
        obtain ⟨j, m, hj, rfl, hw⟩ := hrel
        have hr : Rf wr rb r a cap V := by rw [hw]; exact h.drewN m
        have HW : Hid (wr = w.drewN m) := hw
        clear hw
        obtain ⟨c0, c1, c2, c3⟩ := hr.cells
        by_cases hjl : j < r.L.length
        · obtain ⟨ga, rfl, hg1, hg2, hg3, hg4⟩ := hr.row (by omega)
          obtain ⟨b, hb⟩ : ∃ b, r.L[j]? = some b := ⟨_, List.getElem?_eq_getElem hjl⟩
          obtain ⟨d0, d1, d2, d3⟩ := hg4 j b hb
          have l1 := HAD.out j b hb
          have l2 := HLE.out j b hb
          obtain ⟨va, vc, hv⟩ := field_len d3
          by_cases t1 : b.tag = 200
          · have T1 : (b.tag == 200) = true := by rw [beq_iff_eq]; exact t1
            by_cases t2 : 1 ≤ addrW x - b.ad
            · by_cases t3 : addrW x - b.ad < b.F.length
              · obtain ⟨gf, capf, hv', hgf, hcf⟩ := field_cell d3 ((addrW x).toNat - b.ad - 1) (by omega)
                have e1 := wrapId (addrW x - b.ad - 1) (by omega) (by omega)
                have x1 : (0 : Int) ≤ addrW x - b.ad - 1 := by omega
                have x2 : addrW x - b.ad - 1 < (b.F.length : Int) := by omega
                have hF : b.F[(addrW x - b.ad - 1).toNat]? = some (b.F.getD ((addrW x).toNat - b.ad - 1) 0) := by
                  rw [show (addrW x - b.ad - 1).toNat = (addrW x).toNat - b.ad - 1 from by omega, List.getD_eq_getElem?_getD, List.getElem?_eq_getElem (by omega)]; rfl
                by_cases t4 : b.F.getD ((addrW x).toNat - b.ad - 1) 0 = headW 201 (addrW x - b.ad)
                · have hit : Rep.hit b (addrW x) := ⟨t1, t2, t3, by rw [hF, t4]⟩
                  have ej : j = K := by
                    by_cases c : j < K
                    · exact absurd hit (HM.out j b c hb)
                    · omega
                  have T4 : (b.F.getD ((addrW x).toNat - b.ad - 1) 0 == headW 201 (addrW x - b.ad)) = true := by rw [beq_iff_eq]; exact t4
                  obtain ⟨EI, ED⟩ : Hid (i = (j : Int)) ∧ Hid (d = addrW x - b.ad) := by
                    rcases HI.out with ⟨e, _⟩ | ⟨b', hb', _, e1, e2⟩
                    · omega
                    · rw [← ej, hb] at hb'
                      have : b = b' := by simpa using hb'
                      subst this
                      exact ⟨by show _ = _; rw [ej]; exact e1, e2⟩
                  have HB : Hid _ := hb
                  rw [hv'] at d2
                  generalize b.F.getD ((addrW x).toNat - b.ad - 1) 0 = fv at *
                  clear t1 t4 hit hF hv hv' d3 hg4 hb ej
                  go_wp2
                  go_quiet ((go_at_call 83; exact Calls.quiet_of_same (rhead_any 201 (addrW x - b.ad) _ (by omega) (by omega) (by omega) (by omega))))
                  go_wp2
                  go_ret2
                  exact ⟨ret_two EI.out.symm ED.out.symm, _, by rw [HW.out]; exact World.drewN_drewN _ _ _⟩
                · have hit : ¬ Rep.hit b (addrW x) := by
                    rintro ⟨_, _, _, e⟩
                    rw [hF] at e
                    exact t4 (by simpa using e)
                  have ej : j < K := miss_lt HI.out hj hjl hb hit
                  have T4 : (b.F.getD ((addrW x).toNat - b.ad - 1) 0 == headW 201 (addrW x - b.ad)) = false := beq_eq_false_iff_ne.2 t4
                  have HB : Hid _ := hb
                  rw [hv'] at d2
                  generalize b.F.getD ((addrW x).toNat - b.ad - 1) 0 = fv at *
                  clear t1 t4 hit hF hv hv' d3 hg4 hb
                  go_wp2
                  go_quiet ((go_at_call 83; exact Calls.quiet_of_same (rhead_any 201 (addrW x - b.ad) _ (by omega) (by omega) (by omega) (by omega))))
                  go_wp2
                  go_roundw
                  case rel => exact ⟨j + 1, _, by omega, by go_num, by rw [HW.out]; exact World.drewN_drewN _ _ _⟩
                  case measure => simp [intOf]; omega
              · have ej : j < K := miss_lt HI.out hj hjl hb (fun h => t3 h.2.2.1)
                have T3 : decide (addrW x - b.ad < b.F.length) = false := by simpa using t3
                rw [hv] at d2
                clear t1 hv d3 hg4 hb
                go_wp2
                go_quiet (fail)
                go_wp2
                go_roundw
                case rel => exact ⟨j + 1, _, by omega, by go_num, by rw [HW.out]; exact World.drewN_drewN _ _ _⟩
                case measure => simp [intOf]; omega
            · have ej : j < K := miss_lt HI.out hj hjl hb (fun h => t2 h.2.1)
              have T2 : decide (1 ≤ addrW x - b.ad) = false := by simpa using t2
              clear t1 hv d3 hg4 hb
              go_wp2
              go_quiet (fail)
              go_wp2
              go_roundw
              case rel => exact ⟨j + 1, _, by omega, by go_num, by rw [HW.out]; exact World.drewN_drewN _ _ _⟩
              case measure => simp [intOf]; omega
          · have ej : j < K := miss_lt HI.out hj hjl hb (fun h => t1 h.1)
            have T1 : (b.tag == 200) = false := beq_eq_false_iff_ne.2 t1
            clear t1 hv d3 hg4 hb
            go_wp2
            go_quiet (fail)
            go_wp2
            go_roundw
            case rel => exact ⟨j + 1, _, by omega, by go_num, by rw [HW.out]; exact World.drewN_drewN _ _ _⟩
            case measure => simp [intOf]; omega
        · obtain ⟨EI, ED⟩ : Hid (i = -1) ∧ Hid (d = 0) := by
            rcases HI.out with ⟨_, e1, e2⟩ | ⟨b', hb', _⟩
            · exact ⟨e1, e2⟩
            · have := (List.getElem?_eq_some_iff.1 hb').1
              omega
          go_wp2
          go_ret2
          exact ⟨ret_two EI.out.symm ED.out.symm, _, HW.out⟩
end Go.Proofs.Ytcbgjkedmboifab

/-
  What the document's own arena tells of a word (Find, Leads, Tag, Size, Get), where it and the program's arena are in one state: by that state. Condition: it lies in memory (Rf), and both are in one state (Rep).
-/
namespace Go.Proofs.Ytcbgjkedmboifab
open Go.ChangeShapes Go.WideShapes Go.ChangeAt Go.RowKit Go.Deep
set_option linter.unusedVariables false
set_option maxHeartbeats 400000

/-- The document's own arena lies in memory, in one state with the program's (which may lie in another memory). -/
structure Both (w : World) (p : Pl) (s : St) (rb : Nat) (r : RS) (a : Option Addr) (cap : Nat) (V : Nat → Value) : Prop where
  ar : ∃ w0, Ar w0 p s
  rf : Rf w rb r a cap V
  rep : Rep s r
  below : p.a < rb ∧ p.h < rb ∧ p.c < rb ∧ p.b < rb
theorem lenB_length (l : List Blk) : l.length ≤ lenB l := by
  induction l with
  | nil => simp [lenB]
  | cons b l ih => simp [lenB]; omega
variable {w : World} {p : Pl} {s : St} {rb : Nat} {r : RS} {a : Option Addr} {cap : Nat} {V : Nat → Value}
theorem Both.drewN (h : Both w p s rb r a cap V) (n : Nat) : Both (w.drewN n) p s rb r a cap V := ⟨h.ar, h.rf.drewN n, h.rep, h.below⟩
theorem Both.arw (h : Both w p s rb r a cap V) : Ar h.ar.choose p s := h.ar.choose_spec
theorem Both.sizes (h : Both w p s rb r a cap V) : lenB r.L ≤ 32768 ∧ r.L.length ≤ 32768 ∧ r.n ≤ 32768 ∧ s.base ≤ 32768 ∧ s.top ≤ 65536 := by
  have := h.rep.top; have := h.arw.t2; have := h.arw.n2; have := h.rep.n; have := lenB_length r.L; have := h.arw.b1
  omega
theorem Both.blk (h : Both w p s rb r a cap V) {j : Nat} {c : Blk} (hc : r.L[j]? = some c) : c.ad ≤ 100000 ∧ c.F.length ≤ 4096 := by
  have := h.rep.inside hc; have := h.sizes; have := (h.rep.tag j c hc).2.2
  omega
theorem Both.find0 (h : Both w p s rb r a cap V) {x : Int} (g : addrW x = 0) : s.find x = (0, 0) := by
  have hb : ¬ s.isBlk 0 = true := by
    rw [h.rep.blk]
    rintro ⟨i, b, hb, e⟩
    have := h.rep.inside hb
    omega
  unfold St.find
  rw [g, if_neg hb, if_pos (by unfold St.inUse; simp; omega)]
theorem rfind_no (x : Int) (w : World) (h : Both w p s rb r a cap V) (h0 : 0 ≤ x) (h1 : x ≤ 18446744073709551615) (g : (s.find x).1 = 0) :
    Calls Try.prog 57 #[.pointer (some ⟨rb, 0, none⟩), .int .u64 x] w fun e w' => e = .returned (.tuple #[.int .i64 (-1), .int .i64 0]) ∧ ∃ m, w' = w.drewN m := by
  obtain ⟨z1, z2, z3, z4, z5⟩ := h.sizes
  by_cases c : addrW x = 0
  · refine (rfind_zero x w h.rf h0 h1 c).mono ?_
    rintro e w' ⟨rfl, rfl⟩
    exact ⟨rfl, 0, rfl⟩
  · have hn : ∀ (j : Nat) (c : Blk), r.L[j]? = some c → (c.ad : Int) ≠ addrW x := by
      intro j b hb e
      have := h.rep.find_blk' hb e
      rw [this] at g
      have := h.rep.inside hb
      omega
    refine rfind_rest x r.L.length (-1) 0 w h.rf (by omega) h0 h1 c (fun j c hc => (h.blk hc).1) (fun j c hc => (h.blk hc).2) hn (Nat.le_refl _) ?_ (Or.inl ⟨rfl, rfl, rfl⟩)
    intro j b _ hb hit
    have := h.rep.find_hit hn hb hit
    rw [this] at g
    have := h.rep.inside hb
    omega
theorem rfind_yes (x : Int) (k : Nat) (b : Blk) (w : World) (h : Both w p s rb r a cap V) (h0 : 0 ≤ x) (h1 : x ≤ 18446744073709551615) (hk : r.L[k]? = some b) (g : (s.find x).1 = b.ad) :
    Calls Try.prog 57 #[.pointer (some ⟨rb, 0, none⟩), .int .u64 x] w fun e w' => e = .returned (.tuple #[.int .i64 k, .int .i64 (s.find x).2]) ∧ ∃ m, w' = w.drewN m := by
  obtain ⟨z1, z2, z3, z4, z5⟩ := h.sizes
  have hin := h.rep.inside hk
  have c : addrW x ≠ 0 := by
    intro c
    rw [h.find0 c] at g
    have g' : (0 : Int) = b.ad := g
    omega
  by_cases hb : ∃ (j : Nat) (c : Blk), r.L[j]? = some c ∧ (c.ad : Int) = addrW x
  · obtain ⟨j, b', hb', e⟩ := hb
    have hf := h.rep.find_blk' hb' e
    rw [hf] at g
    have g' : (b'.ad : Int) = b.ad := g
    have := h.rep.inj hb' hk (by omega)
    subst this
    rw [hk] at hb'
    have : b = b' := by simpa using hb'
    subst this
    refine (rfind_blk x j b w h.rf (by omega) h0 h1 c hk e ?_).mono ?_
    · intro i c hi hc e'
      have := h.rep.inj hc hk (by omega)
      omega
    · rintro e w' ⟨rfl, rfl⟩
      exact ⟨by rw [hf], 0, rfl⟩
  · have hn : ∀ (j : Nat) (c : Blk), r.L[j]? = some c → (c.ad : Int) ≠ addrW x := fun j c hc e => hb ⟨j, c, hc, e⟩
    by_cases hh : ∃ (j : Nat) (c : Blk), r.L[j]? = some c ∧ Rep.hit c (addrW x)
    · obtain ⟨j, b', hb', hit⟩ := hh
      have hf := h.rep.find_hit hn hb' hit
      rw [hf] at g
      have g' : (b'.ad : Int) = b.ad := g
      have := h.rep.inj hb' hk (by omega)
      subst this
      rw [hk] at hb'
      have : b = b' := by simpa using hb'
      subst this
      have hl := (List.getElem?_eq_some_iff.1 hk).1
      refine rfind_rest x j j (s.find x).2 w h.rf (by omega) h0 h1 c (fun j c hc => (h.blk hc).1) (fun j c hc => (h.blk hc).2) hn (by omega) ?_ (Or.inr ⟨b, hk, hit, rfl, by rw [hf]⟩)
      intro i c hi hc hit'
      have hf' := h.rep.find_hit hn hc hit'
      rw [hf] at hf'
      have e : (b.ad : Int) = c.ad := congrArg Prod.fst hf'
      have := h.rep.inj hk hc (by omega)
      omega
    · have hf := h.rep.find_none h.arw.lo h.arw.hi hn (fun i c hc hit => hh ⟨i, c, hc, hit⟩)
      rw [hf] at g
      have g' : (0 : Int) = b.ad := g
      omega
theorem Both.block (h : Both w p s rb r a cap V) {x : Int} (g : (s.find x).1 ≠ 0) : ∃ (k : Nat) (b : Blk), r.L[k]? = some b ∧ (s.find x).1 = b.ad := by
  obtain ⟨k, b, hb, e⟩ := (h.rep.blk _).1 (find_blk g)
  exact ⟨k, b, hb, e.symm⟩
end Go.Proofs.Ytcbgjkedmboifab

/-
  Laws of append for the document's own arena: one word more in a row of the call's own; one block of three cells more in a row of blocks. And how the row of blocks is told by its cells. Conditions: sizes.
-/
namespace Go.Proofs.Ytcbgjkedmboifab
open Go.RowKit Go.Deep
set_option linter.unusedVariables false
set_option maxHeartbeats 400000

theorem Try.info105 : (Try.prog.info? 105).map (fun i => (i.zero, i.size, i.bytes)) = some (some (.agg #[.int .i64 0, .int .i64 0, .slice none 0 0]), 3, 40) := by kernel_rfl
theorem own_shape {w : World} {B : Nat} {e : TypeId} {size : Nat} {v : Value} {n : Nat} {xs : List Value} (h : w.ownsRow B e size v (n + 1) xs) : ∃ g cap, v = .slice (some ⟨g, 0, none⟩) (n + 1) cap ∧ B ≤ g := by
  rcases h.2 with ⟨_, e⟩ | ⟨g, cap, cur, hv, hg, _⟩
  · omega
  · exact ⟨g, cap, hv, hg⟩
theorem to_own {w : World} {B : Nat} {a : Option Addr} {cap : Nat} {L : List Blk} {V : Nat → Value} (h : BlocksOf w B a cap L V) : ∃ xs, w.ownsRow B 105 3 (.slice a L.length cap) L.length xs ∧
    ∀ i b, L[i]? = some b → xs[i * 3]? = some (.int .i64 b.ad) ∧ xs[i * 3 + 1]? = some (.int .i64 b.tag) ∧ xs[i * 3 + 2]? = some (V i) ∧ FieldOf w B (V i) b.F := by
  obtain ⟨h1, h2, h3, h4⟩ := h
  cases a with
  | none =>
    obtain ⟨e1, e2⟩ := h1 rfl
    refine ⟨[], ⟨by rw [e1]; rfl, .inl ⟨by rw [e1, e2], e1⟩⟩, ?_⟩
    intro i b hb
    have := (List.getElem?_eq_some_iff.1 hb).1
    omega
  | some ad =>
    obtain ⟨g, cur, rfl, hb, hg, hc, hcell⟩ := h4 ad rfl
    refine ⟨cur.toList.take (L.length * 3), ⟨by simp [hc]; omega, .inr ⟨g, cap, cur, rfl, hb, hg, h2, h3, hc, rfl⟩⟩, ?_⟩
    intro i b hib
    have hi := (List.getElem?_eq_some_iff.1 hib).1
    obtain ⟨c1, c2, c3, c4⟩ := hcell i b hib
    refine ⟨?_, ?_, ?_, c4⟩
    · rw [List.getElem?_take, if_pos (by omega)]; simpa using c1
    · rw [List.getElem?_take, if_pos (by omega)]; simpa using c2
    · rw [List.getElem?_take, if_pos (by omega)]; simpa using c3
theorem of_own {w : World} {B : Nat} {a : Option Addr} {cap : Nat} {L : List Blk} {V : Nat → Value} {xs : List Value} (h : w.ownsRow B 105 3 (.slice a L.length cap) L.length xs)
    (hx : ∀ i b, L[i]? = some b → xs[i * 3]? = some (.int .i64 b.ad) ∧ xs[i * 3 + 1]? = some (.int .i64 b.tag) ∧ xs[i * 3 + 2]? = some (V i) ∧ FieldOf w B (V i) b.F) : BlocksOf w B a cap L V := by
  rcases h.2 with ⟨e, e0⟩ | ⟨g, cap', cur, e, hb, hg, hnc, hcm, hcs, htake⟩
  · simp only [Value.slice.injEq] at e
    obtain ⟨rfl, _, rfl⟩ := e
    exact ⟨fun _ => ⟨e0, rfl⟩, by omega, Nat.zero_le _, fun ad h => by cases h⟩
  · simp only [Value.slice.injEq] at e
    obtain ⟨rfl, _, rfl⟩ := e
    refine ⟨fun h => (by cases h), hnc, hcm, fun ad had => ?_⟩
    cases had
    refine ⟨g, cur, rfl, hb, hg, hcs, fun i b hib => ?_⟩
    have hi := (List.getElem?_eq_some_iff.1 hib).1
    obtain ⟨c1, c2, c3, c4⟩ := hx i b hib
    rw [← htake] at c1 c2 c3
    rw [List.getElem?_take, if_pos (by omega)] at c1 c2 c3
    exact ⟨by simpa using c1, by simpa using c2, by simpa using c3, c4⟩
theorem wpList_append_one {w : World} {ops : Array Oper} {rest : List Oper} {o : Oper} {a : Act} {Q : Exit → Act → World → Prop} (hgd : o.guard = none) (s x : Operand)
    (ho : o.op = .call { callee := .builtin .append, args := #[s, x], argTypes := #[37, 37] }) (B : Nat) (v : Value) (n : Nat) (xs : List Value) (hs : a.eval s = v) (hown : w.ownsRow B 30 1 v n xs)
    (ad : Addr) (c : Nat) (u : Int) (hx : a.eval x = .slice (some ad) 1 c) (hu : w.cell? (ad.add 0) = some (.int .u64 u)) (hn : n ≤ 1000000) (hB : B ≤ w.heap.size)
    (h : ∀ g cap w', w'.ownsRow B 30 1 (.slice (some ⟨g, 0, none⟩) (n + 1) cap) (n + 1) (xs ++ [.int .u64 u]) → w.grownBy w' v.ownBlock → B ≤ g → wpList Try.prog ops Q rest (a.put o.dst (.slice (some ⟨g, 0, none⟩) (n + 1) cap)) w') : wpList Try.prog ops Q (o :: rest) a w := by
  obtain ⟨i0, hi, hz0, hz1, hz2⟩ := info_parts Try.info30
  refine wpList_append_own w hgd s x 37 ho B 30 i0 (.int .u64 0) 1 8 Try.underlying37 hi hz0 hz1 hz2 rfl (by decide) v n xs hs hown ad 1 c [.int .u64 u] hx rfl ?_ ?_ (by unfold maxLen; omega) (by omega) hB ?_
  · intro j y hy
    match j, hy with
    | 0, hy => simp at hy; subst hy; exact hu
  · intro y hy; simp at hy; subst hy; rfl
  · intro v' w' h1 h2 _
    obtain ⟨g, cap, rfl, hg⟩ := own_shape h1
    exact h g cap w' h1 h2 hg
theorem step_append_block {ops : Array Oper} {o : Oper} {a : Act} {w : World} {K : Act → World → Prop} {Q : Exit → Act → World → Prop} {E : Prop} (hg : o.guard = none) (s x : Operand)
    (hop : o.op = Op.call { callee := Callee.builtin Builtin.append, args := #[s, x], argTypes := #[82, 82] }) (B : Nat) (ao : Option Addr) (n cap : Nat) (xs : List Value) (hs : a.eval s = .slice ao n cap) (hown : w.ownsRow B 105 3 (.slice ao n cap) n xs)
    (ad : Addr) (c : Nat) (u0 u1 : Int) (u2 : Value) (hx : a.eval x = .slice (some ad) 1 c) (h0 : w.cell? (ad.add 0) = some (.int .i64 u0)) (h1 : w.cell? (ad.add 1) = some (.int .i64 u1)) (h2 : w.cell? (ad.add 2) = some u2) (h2c : u2.oneCell' = true) (hn : n ≤ 1000000) (hB : B ≤ w.heap.size)
    (hK : ∀ g' cap' w', w'.ownsRow B 105 3 (.slice (some ⟨g', 0, none⟩) (n + 1) cap') (n + 1) (xs ++ [.int .i64 u0, .int .i64 u1, u2]) → w.grownBy w' (Value.slice ao n cap).ownBlock → B ≤ g' → K (a.put o.dst (.slice (some ⟨g', 0, none⟩) (n + 1) cap')) w') :
    if Region.wanted o (yielded ops a.tmps) = true then Oper.wp Try.prog o a w K Q else E := by
  have hw : Region.wanted o (yielded ops a.tmps) = true := by simp [Region.wanted, hg]
  rw [if_pos hw]
  obtain ⟨i0, hi, hz0, hz1, hz2⟩ := info_parts Try.info105
  refine wp_append_own w s x 82 hop B 105 i0 _ 3 40 Try.underlying82 hi hz0 hz1 hz2 rfl (by decide) _ n xs hs hown ad 1 c [.int .i64 u0, .int .i64 u1, u2] hx rfl ?_ ?_ (by unfold maxLen; omega) (by omega) hB ?_
  · intro j y hy
    match j, hy with
    | 0, hy => simp at hy; subst hy; exact h0
    | 1, hy => simp at hy; subst hy; exact h1
    | 2, hy => simp at hy; subst hy; exact h2
  · intro y hy
    simp at hy
    rcases hy with rfl | rfl | rfl
    · rfl
    · rfl
    · exact h2c
  · intro v' w' q1 q2 _
    obtain ⟨g, cap', rfl, hg'⟩ := own_shape q1
    exact hK g cap' w' q1 q2 hg'
theorem step_append_block2 {ops : Array Oper} {o : Oper} {a : Act} {w : World} {K : Act → World → Prop} {Q : Exit → Act → World → Prop} {E : Prop} (hg : o.guard = none) (s x : Operand)
    (hop : o.op = Op.call { callee := Callee.builtin Builtin.append, args := #[s, x], argTypes := #[82, 82] }) (B : Nat) (ao : Option Addr) (n cap : Nat) (xs : List Value) (hs : a.eval s = .slice ao n cap) (hown : w.ownsRow B 105 3 (.slice ao n cap) n xs)
    (ad : Addr) (c : Nat) (u0 u1 : Int) (u2 : Value) (hx : a.eval x = .slice (some ad) 1 c) (h0 : w.cell? (ad.add 0) = some (.int .i64 u0)) (h1 : w.cell? (ad.add 1) = some (.int .i64 u1)) (h2 : w.cell? (ad.add 2) = some u2) (h2c : u2.oneCell' = true) (hn : n ≤ 1000000) (hB : B ≤ w.heap.size)
    (hK : ∀ g' cap' w', w'.ownsRow B 105 3 (.slice (some ⟨g', 0, none⟩) (n + 1) cap') (n + 1) (xs ++ [.int .i64 u0, .int .i64 u1, u2]) → w.grownBy w' (Value.slice ao n cap).ownBlock → ((Value.slice ao n cap).ownBlock = some g' ∨ g' = w.heap.size) → K (a.put o.dst (.slice (some ⟨g', 0, none⟩) (n + 1) cap')) w') :
    if Region.wanted o (yielded ops a.tmps) = true then Oper.wp Try.prog o a w K Q else E := by
  have hw : Region.wanted o (yielded ops a.tmps) = true := by simp [Region.wanted, hg]
  rw [if_pos hw]
  obtain ⟨i0, hi, hz0, hz1, hz2⟩ := info_parts Try.info105
  refine wp_append_lies w s x 82 hop B 105 i0 _ 3 40 Try.underlying82 hi hz0 hz1 hz2 rfl (by decide) _ n xs hs hown ad 1 c [.int .i64 u0, .int .i64 u1, u2] hx rfl ?_ ?_ (by omega) (by unfold maxLen; omega) (by omega) hB _ rfl ?_
  · intro j y hy
    match j, hy with
    | 0, hy => simp at hy; subst hy; exact h0
    | 1, hy => simp at hy; subst hy; exact h1
    | 2, hy => simp at hy; subst hy; exact h2
  · intro y hy
    simp at hy
    rcases hy with rfl | rfl | rfl
    · rfl
    · rfl
    · exact h2c
  · intro g cap' w' q1 q2 hat _
    exact hK g cap' w' q1 q2 hat
end Go.Proofs.Ytcbgjkedmboifab

/-
  What Blocks tells: the words of the blocks' addresses, in order, in a row of its own. Condition: the arena lies in memory (Ar), in one state with a list of blocks (Rep).
-/
namespace Go.Proofs.Ytcbgjkedmboifab
open Go.ChangeShapes Go.WideShapes Go.ChangeAt Go.RowKit Go.Deep
set_option linter.unusedVariables false
set_option maxHeartbeats 1000000
variable {w : World} {p : Pl} {s : St} {r : RS}

/-- The word of block i. -/
def blkW (s : St) (r : RS) (i : Nat) : Int := 2 * ((s.base + lenB (r.L.take i) : Nat) + 1 : Int)
theorem ar_grown {w2 w3 : World} {o : Obj} {B : Nat} {row : Option Nat} (h : Ar w2 p s) (gr : (w2.alloc o).grownBy w3 row) (hrow : ∀ k, row = some k → B ≤ k) (h1 : p.a < B) (h2 : p.h < B) (h3 : p.c < B) (h4 : p.b < B) : Ar w3 p s := by
  have ho : Only (fun k => B ≤ k) w2 w3 := ⟨gr.os, gr.tape, gr.output, Nat.le_trans (by rw [nblk_alloc]; omega) gr.size, fun k hk hs => (gr.block k (by rw [nblk_alloc]; omega) (fun e => hs (hrow k e.symm))).trans (blk_alloc_lt _ _ _ hk)⟩
  exact h.frame ho (by omega) (by omega) (by omega) (by omega)
theorem own_ge' {w : World} {B : Nat} {e : TypeId} {size : Nat} {v : Value} {n : Nat} {xs : List Value} (h : w.ownsRow B e size v n xs) : ∀ k, v.ownBlock = some k → B ≤ k := by
  intro k hk
  rcases h.2 with ⟨rfl, _⟩ | ⟨g, cap, cur, rfl, hg, _⟩
  · cases hk
  · have : g = k := by simpa [Value.ownBlock] using hk
    omega
theorem lenB_length' (l : List Blk) : l.length ≤ lenB l := by
  induction l with
  | nil => simp [lenB]
  | cons b l ih => simp [lenB]; omega
theorem sizeAt_is {p : Pl} {s : St} (a v : Int) (w : World) (h : Ar w p s) (h0 : 1 ≤ a) (h1 : a ≤ 2 * s.n) (hv : s.sizeAt a = v) :
    Calls Try.prog 80 #[.pointer (some ⟨p.a, 0, none⟩), .int .i64 a] w fun e w' => e = .returned (.int .i64 v) ∧ w' = w := by
  subst hv; exact sizeAt_any a w h h0 h1
theorem own_any {w : World} {B k : Nat} {v : Value} {X : Nat → Int} (h : w.ownsRow B 30 1 v k ((List.range k).map fun j => .int .u64 (X j))) : ∃ al cb, v = .slice al k cb ∧ (al = none → k = 0 ∧ cb = 0) ∧ (∀ ad, al = some ad → ∃ g, ad = ⟨g, 0, none⟩ ∧ B ≤ g ∧ Own w g k X) := by
  rcases h.2 with ⟨rfl, e⟩ | ⟨g, cap, cur, rfl, r⟩
  · subst e
    exact ⟨none, 0, rfl, fun _ => ⟨rfl, rfl⟩, fun ad h => by cases h⟩
  · refine ⟨some ⟨g, 0, none⟩, cap, rfl, fun h => (by cases h), fun ad had => ?_⟩
    cases had
    obtain ⟨q1, q2⟩ := own_of_row h
    exact ⟨g, rfl, q2, q1⟩
end Go.Proofs.Ytcbgjkedmboifab

/-
  Layer 3's statements: what their helpers equal, word and words tell, by plain arithmetic. Condition: the slices lie in memory.
-/
namespace Go.Proofs.Ytcbgjkedmboifab
open Go.ChangeShapes Go.WideShapes Go.ChangeAt Go.RowKit Go.Deep
set_option linter.unusedVariables false
set_option maxHeartbeats 1000000

/-- A slice value of m words lies in memory, wherever it came from. -/
structure WS (w : World) (al : Option Addr) (m c : Nat) (X : Nat → Int) : Prop where
  nil : al = none → m = 0 ∧ c = 0
  cell : ∀ i, i < m → ∃ ad, al = some ad ∧ w.cell? (ad.add i) = some (.int .u64 (X i))
  lo : ∀ i, i < m → 0 ≤ X i
  hi : ∀ i, i < m → X i ≤ 18446744073709551615
theorem add_block (a : Addr) (i : Nat) : (a.add i).block = a.block := by unfold Addr.add; split <;> rfl
theorem cell_lt {w : World} {x : Addr} {v : Value} (hc : w.cell? x = some v) : x.block < w.heap.size := by
  by_cases hb : x.block < w.heap.size
  · exact hb
  · exfalso
    unfold World.cell? at hc
    rw [Array.getElem?_eq_none (by omega)] at hc
    cases hc
theorem WS.frame {w w' : World} {al : Option Addr} {m c : Nat} {X : Nat → Int} {S : Nat → Prop} (h : WS w al m c X) (k : Only S w w') (hs : ∀ ad, al = some ad → ad.block < w.heap.size → ¬ S ad.block) : WS w' al m c X := by
  refine ⟨h.nil, fun i hi => ?_, h.lo, h.hi⟩
  obtain ⟨ad, e, hc⟩ := h.cell i hi
  have hl := cell_lt hc
  refine ⟨ad, e, (World.cell?_of_block (w := w) (k.block _ hl ?_)).trans hc⟩
  rw [add_block] at hl ⊢
  exact hs ad e hl
theorem WS.below {w w' : World} {al : Option Addr} {m c : Nat} {X : Nat → Int} (h : WS w al m c X) (k : Below w.heap.size w w') : WS w' al m c X :=
  h.frame (S := fun _ => False) (Only.of_below k) (fun _ _ _ => id)
theorem WS.drewN {w : World} {al : Option Addr} {m c : Nat} {X : Nat → Int} (h : WS w al m c X) (n : Nat) : WS (w.drewN n) al m c X := ⟨h.nil, h.cell, h.lo, h.hi⟩
theorem ws_own {w : World} {g m c : Nat} {X : Nat → Int} (h : Own w g m X) (lo : ∀ i, i < m → 0 ≤ X i) (hi : ∀ i, i < m → X i ≤ 18446744073709551615) : WS w (some ⟨g, 0, none⟩) m c X := by
  refine ⟨fun h => (by cases h), fun i hi' => ⟨_, rfl, ?_⟩, lo, hi⟩
  have e : (Addr.mk g 0 none).add i = ⟨g, i, none⟩ := by
    cases i with
    | zero => rfl
    | succ i => simp [Addr.add]
  rw [e]; exact h.cell hi'
/-- What a number stands for. -/
def wordV (x : Int) (m : Nat) (X : Nat → Int) : Int := if 1048576 ≤ x ∧ x < 1048640 then headW 201 (x - 1048576) else if 1048576 ≤ x ∨ m = 0 then x else (X ((x % 64) % m).toNat + 2 * (x / 64 % 8)) % 18446744073709551616
theorem wordV_lo {x : Int} {m : Nat} {X : Nat → Int} (h0 : 0 ≤ x) : 0 ≤ wordV x m X := by
  unfold wordV
  split
  · unfold headW; split; omega; exact intW_lo _
  · split <;> omega
theorem wordV_hi {x : Int} {m : Nat} {X : Nat → Int} (h1 : x ≤ 18446744073709551615) : wordV x m X ≤ 18446744073709551615 := by
  unfold wordV
  split
  · unfold headW; split; omega; exact intW_hi _
  · split <;> omega
theorem ws_any {w w' : World} {ba : Option Addr} {m bc : Nat} {X : Nat → Int} (u1 : ba = none → m = 0 ∧ bc = 0) (u2 : ∀ ad, ba = some ad → ∃ g, ad = ⟨g, 0, none⟩ ∧ w.heap.size ≤ g ∧ Own w' g m X) (lo : ∀ i, i < m → 0 ≤ X i) (hi : ∀ i, i < m → X i ≤ 18446744073709551615) : WS w' ba m bc X := by
  cases ba with
  | none => exact ⟨u1, fun i h => by have := (u1 rfl).1; omega, lo, hi⟩
  | some ad =>
    obtain ⟨g, rfl, _, ho⟩ := u2 ad rfl
    exact ws_own ho lo hi
theorem blkW_lo (s : St) (r : RS) (i : Nat) : 0 ≤ blkW s r i := by unfold blkW; omega
theorem blkW_hi {w : World} {p : Pl} {s : St} {r : RS} (h : Ar w p s) (hr : Rep s r) (i : Nat) : blkW s r i ≤ 18446744073709551615 := by
  have := lenB_take_all r.L i; have := hr.top; have := h.t2; have := h.n2; have := h.b1
  unfold blkW; omega
end Go.Proofs.Ytcbgjkedmboifab

/-
  What Alloc of the document's own arena tells and makes, where it and the program's arena are in one state. Condition: it lies in memory (Rf), and both are in one state (Rep).
-/
namespace Go.Proofs.Ytcbgjkedmboifab
open Go.ChangeShapes Go.WideShapes Go.ChangeAt Go.RowKit Go.Deep
set_option linter.unusedVariables false
set_option maxHeartbeats 2000000
variable {w : World} {p : Pl} {s : St} {rb : Nat} {r : RS} {a : Option Addr} {cap : Nat} {V : Nat → Value}

/-- The old blocks that the document's own arena may write. -/
def Rown (rb : Nat) (a : Option Addr) (k : Nat) : Prop := k = rb ∨ a = some ⟨k, 0, none⟩
theorem both_drew {w' : World} {m : Nat} {S : Nat → Prop} (hw : w' = w.drewN m) (h : Both w p s rb r a cap V) : Both w' p s rb r a cap V ∧ Only S w w' := by
  rw [hw]; exact ⟨h.drewN m, (Only.refl _ _).drewN m⟩
theorem hidden {p : Prop} (h : p) : Hid p := h
theorem three_cells {w : World} {b : Nat} {x0 x1 x2 : Value} {t : TypeId} (h : w.heap[b]? = some (.cells #[x0, x1, x2] t (0, 0))) : (w.cell? ⟨b, 0, none⟩ = some x0 ∧ w.cell? ⟨b, 1, none⟩ = some x1 ∧ w.cell? ⟨b, 2, none⟩ = some x2) ∧ ∀ o, w.frozen? ⟨b, o, none⟩ = false := by
  simp [World.cell?, World.frozen?, h]
theorem three_set {w : World} {b : Nat} {x0 x1 x2 : Value} {t : TypeId} (h : w.heap[b]? = some (.cells #[x0, x1, x2] t (0, 0))) (v : Value) : (w.setCell ⟨b, 2, none⟩ v).heap[b]? = some (.cells #[x0, x1, v] t (0, 0)) := by
  simp [World.setCell, Array.getElem?_modify, h]
theorem own_ge {w : World} {B : Nat} {e : TypeId} {size : Nat} {v : Value} {n : Nat} {xs : List Value} (h : w.ownsRow B e size v n xs) : ∀ k, v.ownBlock = some k → B ≤ k := by
  intro k hk
  rcases h.2 with ⟨rfl, _⟩ | ⟨g, cap, cur, rfl, hg, _⟩
  · cases hk
  · have : g = k := by simpa [Value.ownBlock] using hk
    omega
theorem ralloc_next {w2 wr w3 : World} {lb k : Nat} {x0 x1 v : Value} {xs : List Value} {o : Obj} {t : TypeId} {size : Nat} (hl : wr.heap[lb]? = some (.cells #[x0, x1, v] 105 (0, 0))) (ho : wr.ownsRow (lb + 1) t size v k xs) (gr : (wr.alloc o).grownBy w3 v.ownBlock) (hb : Below lb w2 wr) :
    w3.heap[lb]? = some (.cells #[x0, x1, v] 105 (0, 0)) ∧ Below lb w2 w3 := by
  have hlt := lt_of_some hl
  have hge := own_ge ho
  refine ⟨(gr.block lb (by rw [nblk_alloc]; omega) (fun e => by have := hge lb e.symm; omega)).trans ((blk_alloc_lt _ _ _ hlt).trans hl), ?_⟩
  exact (hb.alloc (by omega) o).grown gr (by rw [nblk_alloc]; omega) (fun k hk => by have := hge k hk; omega)
theorem own_one {w : World} {B : Nat} {e : TypeId} {size : Nat} {v : Value} {n : Nat} {xs : List Value} (h : w.ownsRow B e size v n xs) : v.oneCell' = true := by
  rcases h.2 with ⟨rfl, _⟩ | ⟨g, cap, cur, rfl, _⟩
  · rfl
  · rfl
theorem Rf.top_lt (h : Rf w rb r a cap V) : ∀ ad, a = some ad → ad.block < w.heap.size := by
  intro ad had
  obtain ⟨g, cur, rfl, hb, hg, _⟩ := h.hl.2.2.2 ad had
  exact lt_of_some hg
theorem rf_below {w' : World} (h : Both w p s rb r a cap V) (hb : Below w.heap.size w w') : Rf w' rb r a cap V :=
  h.rf.frame (S := fun _ => False) (Only.of_below hb) (fun _ _ => id)
theorem FieldOf.grown {W w4 : World} {B : Nat} {v : Value} {F : List Int} {row : Option Nat} (h : FieldOf W B v F) (gr : W.grownBy w4 row) (hrow : ∀ k, row = some k → ∃ cur, W.heap[k]? = some (.cells cur 105 (0, 0))) : FieldOf w4 B v F := by
  obtain ⟨a, cap, e, hn, hc⟩ := h
  refine ⟨a, cap, e, hn, fun ad had => ?_⟩
  obtain ⟨g, e2, hb, ho⟩ := hc ad had
  refine ⟨g, e2, hb, ho.of_block (gr.block g ho.lt ?_)⟩
  intro e3
  obtain ⟨cur, hcur⟩ := hrow g e3.symm
  obtain ⟨c, hc', _⟩ := ho
  rw [hcur] at hc'
  simp at hc'
theorem own_row {w : World} {B : Nat} {e : TypeId} {size : Nat} {v : Value} {n : Nat} {xs : List Value} (h : w.ownsRow B e size v n xs) : ∀ k, v.ownBlock = some k → ∃ cur, w.heap[k]? = some (.cells cur e (0, 0)) := by
  intro k hk
  rcases h.2 with ⟨rfl, _⟩ | ⟨g, cap, cur, rfl, hg, hh, _⟩
  · cases hk
  · have : g = k := by simpa [Value.ownBlock] using hk
    exact ⟨cur, by rw [← this]; exact hh⟩
theorem field_own {w : World} {B B' k : Nat} {v : Value} (h : w.ownsRow B' 30 1 v k (List.replicate k (.int .u64 1))) (hB : B ≤ B') : FieldOf w B v (List.replicate k 1) := by
  rcases h.2 with ⟨rfl, e⟩ | ⟨g, cap, cur, rfl, hg, hh, hnc, _, hcs, htake⟩
  · subst e
    exact ⟨none, 0, rfl, fun _ => ⟨rfl, rfl⟩, fun ad h => by cases h⟩
  · refine ⟨some ⟨g, 0, none⟩, cap, by simp, fun h => (by cases h), fun ad had => ?_⟩
    cases had
    refine ⟨g, rfl, by omega, cur, hh, fun i hi => ?_⟩
    have hi' : i < k := by simpa using hi
    have : (cur.toList.take (k * 1))[i]? = some (.int .u64 1) := by rw [htake]; simp [hi']
    rw [List.getElem?_take, if_pos (by omega)] at this
    have e1 : (List.replicate k (1 : Int)).getD i 0 = 1 := by rw [List.getD_eq_getElem?_getD]; simp [hi']
    show cur[i]? = some (.int .u64 ((List.replicate k (1 : Int)).getD i 0))
    rw [e1]
    simpa using this
theorem FieldOf.setRb {w : World} {B rb o : Nat} {v x : Value} {F : List Int} (h : FieldOf w B v F) (hB : rb < B) : FieldOf (w.setCell ⟨rb, o, none⟩ x) B v F := by
  obtain ⟨a, cap, e, hn, hc⟩ := h
  refine ⟨a, cap, e, hn, fun ad had => ?_⟩
  obtain ⟨g, e2, hb, ho⟩ := hc ad had
  exact ⟨g, e2, hb, ho.of_block (blk_setCell_other _ _ _ _ (by show g ≠ rb; omega))⟩
theorem FieldOf.alloc {w : World} {B : Nat} {v : Value} {F : List Int} (h : FieldOf w B v F) (o : Obj) : FieldOf (w.alloc o) B v F := by
  obtain ⟨a, cap, e, hn, hc⟩ := h
  refine ⟨a, cap, e, hn, fun ad had => ?_⟩
  obtain ⟨g, e2, hb, ho⟩ := hc ad had
  exact ⟨g, e2, hb, ho.of_block (blk_alloc_lt _ _ _ ho.lt)⟩
/-- The row of blocks is the one that was, or a new one. -/
theorem hat_row {w2 wr : World} {g' H : Nat} (h2 : Both w2 p s rb r a cap V) (hb : Below w2.heap.size w2 wr) (hat : (Value.slice a r.L.length cap).ownBlock = some g' ∨ g' = H) (hH : wr.heap.size ≤ H) : ∀ q, some (Addr.mk g' 0 none) = some ⟨q, 0, none⟩ → a = some ⟨q, 0, none⟩ ∨ w2.heap.size ≤ q := by
  intro q hq
  have e : g' = q := by simpa using hq
  subst e
  rcases hat with h | h
  · cases a with
    | none => cases h
    | some ad =>
      obtain ⟨g, cur, rfl, _⟩ := h2.rf.hl.2.2.2 ad rfl
      have : g = g' := by simpa [Value.ownBlock] using h
      rw [this]; exact Or.inl rfl
  · have := hb.size
    exact Or.inr (by omega)
theorem ralloc_end {w2 wr w4 : World} {t z : Int} {k g' cap' : Nat} {v : Value} {xs : List Value} {o : Obj} (h2 : Both w2 p s rb r a cap V) (hb : Below w2.heap.size w2 wr) (hl : wr.heap[w2.heap.size]? = some (.cells #[.int .i64 (s.top + 1), .int .i64 t, v] 105 (0, 0)))
    (ho : wr.ownsRow (w2.heap.size + 1) 30 1 v k (List.replicate k (.int .u64 1))) (ek : k = z.toNat) (hx : wr.ownsRow (rb + 1) 105 3 (.slice a r.L.length cap) r.L.length xs)
    (hx2 : ∀ i b, r.L[i]? = some b → xs[i * 3]? = some (.int .i64 b.ad) ∧ xs[i * 3 + 1]? = some (.int .i64 b.tag) ∧ xs[i * 3 + 2]? = some (V i) ∧ FieldOf wr (rb + 1) (V i) b.F)
    (ho4 : w4.ownsRow (rb + 1) 105 3 (.slice (some ⟨g', 0, none⟩) (r.L.length + 1) cap') (r.L.length + 1) (xs ++ [.int .i64 (s.top + 1), .int .i64 t, v])) (gr : (wr.alloc o).grownBy w4 (Value.slice a r.L.length cap).ownBlock) :
    (w4.heap[rb]? = some (.cells #[.int .i64 r.n, .int .i64 r.which, .slice a r.L.length cap] 84 (0, 0)) ∧ w4.heap[w2.heap.size]? = some (.cells #[.int .i64 (s.top + 1), .int .i64 t, v] 105 (0, 0))) ∧
    Rf (w4.setCell ⟨rb, 2, none⟩ (.slice (some ⟨g', 0, none⟩) (r.L.length + 1) cap')) rb (r.alloc s t z) (some ⟨g', 0, none⟩) cap' (fun i => if i < r.L.length then V i else v) ∧
    Only (Rown rb a) w2 (w4.setCell ⟨rb, 2, none⟩ (.slice (some ⟨g', 0, none⟩) (r.L.length + 1) cap')) ∧ Fresh w2.heap.size r.L.length V (r.alloc s t z).L.length (fun i => if i < r.L.length then V i else v) := by
  have hrf := rf_below h2 hb
  have hrb2 := lt_of_some h2.rf.hr
  have hrb := lt_of_some hrf.hr
  have hlb := lt_of_some hl
  have hge := own_ge hx
  have hrow := own_row (hx.alloc o)
  have hlt : ∀ q, (Value.slice a r.L.length cap).ownBlock = some q → q < w2.heap.size := by
    intro q hq
    cases a with
    | none => cases hq
    | some ad =>
      have := h2.rf.top_lt ad rfl
      have e : ad.block = q := by simpa [Value.ownBlock] using hq
      omega
  have e1 : w4.heap[rb]? = some (.cells #[.int .i64 r.n, .int .i64 r.which, .slice a r.L.length cap] 84 (0, 0)) :=
    (gr.block rb (by rw [nblk_alloc]; omega) (fun e => by have := hge rb e.symm; omega)).trans ((blk_alloc_lt _ _ _ hrb).trans hrf.hr)
  have e2 : w4.heap[w2.heap.size]? = some (.cells #[.int .i64 (s.top + 1), .int .i64 t, v] 105 (0, 0)) :=
    (gr.block _ (by rw [nblk_alloc]; omega) (fun e => by have := hlt _ e.symm; omega)).trans ((blk_alloc_lt _ _ _ hlb).trans hl)
  have hf : Fresh w2.heap.size r.L.length V (r.alloc s t z).L.length (fun i => if i < r.L.length then V i else v) := by
    intro i hi
    by_cases hl : i < r.L.length
    · exact Or.inl ⟨hl, by show (if i < r.L.length then V i else v) = _; rw [if_pos hl]⟩
    · refine Or.inr (fun ad n c e => ?_)
      have e' : (if i < r.L.length then V i else v) = .slice (some ad) n c := e
      rw [if_neg hl] at e'
      have := own_ge ho ad.block (by rw [e']; rfl)
      omega
  refine ⟨⟨e1, e2⟩, ⟨?_, ?_⟩, ?_, hf⟩
  · show _ = some (Obj.cells #[.int .i64 r.n, .int .i64 r.which, .slice (some ⟨g', 0, none⟩) (r.L ++ [_]).length cap'] 84 (0, 0))
    rw [List.length_append]
    exact three_set e1 _
  · refine of_own (xs := xs ++ [.int .i64 (s.top + 1), .int .i64 t, v]) ?_ ?_
    · show World.ownsRow _ _ _ _ (.slice (some ⟨g', 0, none⟩) (r.L ++ [_]).length cap') (r.L ++ [_]).length _
      rw [List.length_append]
      exact ownsRow_setCell_below ho4 (by show rb < rb + 1; omega) _
    · intro i b hib
      have hxl : xs.length = r.L.length * 3 := hx.1
      rcases snoc_some hib with ⟨hb', hi⟩ | ⟨rfl, rfl⟩
      · obtain ⟨d1, d2, d3, d4⟩ := hx2 i b hb'
        rw [if_pos hi]
        refine ⟨?_, ?_, ?_, ((d4.alloc o).grown gr hrow).setRb (by omega)⟩
        · rw [List.getElem?_append_left (by omega)]; exact d1
        · rw [List.getElem?_append_left (by omega)]; exact d2
        · rw [List.getElem?_append_left (by omega)]; exact d3
      · rw [if_neg (by omega)]
        refine ⟨?_, ?_, ?_, ?_⟩
        · rw [List.getElem?_append_right (by omega), show r.L.length * 3 - xs.length = 0 from by omega]
          show some (Value.int .i64 ((s.top : Int) + 1)) = some (Value.int .i64 ((s.top + 1 : Nat) : Int))
          simp
        · rw [List.getElem?_append_right (by omega), show r.L.length * 3 + 1 - xs.length = 1 from by omega]
          rfl
        · rw [List.getElem?_append_right (by omega), show r.L.length * 3 + 2 - xs.length = 2 from by omega]
          rfl
        · have f1 : FieldOf wr (rb + 1) v (List.replicate z.toNat 1) := by rw [← ek]; exact field_own ho (by omega)
          exact ((f1.alloc o).grown gr hrow).setRb (by omega)
  · have o1 : Only (Rown rb a) w2 w4 := by
      refine ⟨gr.os.trans hb.os, gr.tape.trans hb.tape, gr.output.trans hb.output, Nat.le_trans hb.size (Nat.le_trans (by rw [nblk_alloc]; omega) gr.size), fun q hq hs => ?_⟩
      have := hb.size
      refine (gr.block q (by rw [nblk_alloc]; omega) ?_).trans ((blk_alloc_lt _ _ _ (by omega)).trans (hb.block q hq))
      intro e
      apply hs
      right
      cases a with
      | none => cases e
      | some ad =>
        obtain ⟨g, cur, rfl, _⟩ := h2.rf.hl.2.2.2 ad rfl
        have : g = q := by simpa [Value.ownBlock] using e.symm
        rw [this]
    exact o1.setCell (Or.inr (Or.inl rfl)) _
theorem grown_of_drew {w w' : World} {row : Option Nat} (h : w.drew.grownBy w' row) : w.grownBy w' row := ⟨h.os, h.tape, h.output, h.size, h.block⟩
theorem cell_beside {w : World} {rb lb o : Nat} {v : Value} (hne : rb < lb) (h : w.cell? ⟨lb, o, none⟩ = some v) : ∀ x, (w.setCell ⟨rb, 2, none⟩ x).cell? ⟨lb, o, none⟩ = some v :=
  fun x => (World.cell?_of_block (w := w) (blk_setCell_other _ _ _ _ (by show lb ≠ rb; omega))).trans h
theorem ralloc_low (t z : Int) (w : World) (h : Both w p s rb r a cap V) (g : s.allocE t z = 0) (c : 0 ≤ t) (c2 : t ≤ 199) :
    Calls Try.prog 22 #[.pointer (some ⟨rb, 0, none⟩), .int .i64 t, .int .i64 z] w fun e w' => e = .returned (.tuple #[.int .u64 (2 * (s.top + 1)), .int .i64 0]) ∧ ∃ a' cap' V', Rf w' rb (r.alloc s t z) a' cap' V' ∧ Only (Rown rb a) w w' ∧ Fresh w.heap.size r.L.length V (r.alloc s t z).L.length V' ∧ ∀ q, a' = some ⟨q, 0, none⟩ → a = some ⟨q, 0, none⟩ ∨ w.heap.size ≤ q := by
  obtain ⟨z1, z2, z3, z4, z5⟩ := h.sizes
  obtain ⟨_, g2, g3, g4, _, _⟩ := allocE_zero g
  have hn := h.rep.n
  have htop := h.rep.top
  have hbase := h.rep.base
  have hwh := h.rep.wh
  have HT : Hid (s.base + lenB r.L = s.top) := htop.symm
  have HBB : Hid (s.base = r.n * r.which) := hbase
  have HN : Hid _ := hn
  have e1 := wrapId ((s.top : Int) + 1) (by omega) (by omega)
  have e2 := wrapId ((s.top : Int) + 1 + z) (by omega) (by omega)
  have e3 := wrapId ((s.base : Int) + r.n) (by omega) (by omega)
  have g5 : (s.top : Int) + 1 + z ≤ s.base + r.n := by omega
  obtain ⟨c0, c1, c2', c3⟩ := h.rf.cells
  clear hn htop hbase g4 g
  go_enter Try.func22, Try.ntmps22
  go_wp2_with (go_at_call 53; refine (rtop_any s.base _ h.rf HBB.out z3 hwh z4 (by omega) (by omega)).mono ?_; rw [HT.out]; rintro e w1 ⟨rfl, m, hw1⟩; obtain ⟨h1, o1⟩ := both_drew (S := Rown rb a) hw1 h; clear hw1)
  clear c0 c1 c2' c3
  obtain ⟨c0, c1, c2', c3⟩ := h1.rf.cells
  go_quiet ((go_at_call 54; exact Calls.quiet_of (rbase_any s.base _ (h1.rf.drewN _) HBB.out z3 hwh)))
  have h2 := h1.drewN nq
  have o2 := o1.drewN nq
  generalize w1.drewN nq = w2 at h2 o2 ⊢
  clear h1 o1 c0 c1 c2' c3 h
  go_wp2
  go_loopw [10] (fun i wr => ∃ (k : Nat) (v : Value), (k : Int) ≤ z ∧ i = .int .i64 k ∧ wr.heap[w2.heap.size]? = some (.cells #[.int .i64 (s.top + 1), .int .i64 t, v] 105 (0, 0)) ∧ wr.ownsRow (w2.heap.size + 1) 30 1 v k (List.replicate k (.int .u64 1)) ∧ Below w2.heap.size w2 wr) (fun i _ => z.toNat - (intOf i).toNat)
  case atStart => exact ⟨0, .slice none 0 0, by omega, rfl, blk_alloc_new _ _, ⟨rfl, .inl ⟨rfl, rfl⟩⟩, (Below.refl _ _).alloc (Nat.le_refl _) _⟩
  case round =>
    obtain ⟨k, v, hk, rfl, hl, ho, hb⟩ := hrel
    by_cases hlt : (k : Int) < z
    · obtain ⟨q1, q2⟩ := three_cells hl
      have q3 := hb.size
      have q4 := lt_of_some hl
      have HL : Hid _ := hl
      clear hl
      go_wp2_with (at_builtin; refine wpList_append_one rfl (.tmp 55) (.tmp 56) rfl (w2.heap.size + 1) v k _ rfl (ho.alloc _) ⟨wr.heap.size, 0, none⟩ 1 1 rfl (by simp [Addr.add]) (by omega) (by rw [nblk_alloc]; omega) ?_; intro g cp w3 ho3 gr hg; obtain ⟨hl3, hb3⟩ := ralloc_next HL.out ho gr hb; obtain ⟨q5, q6⟩ := three_cells hl3; have HL3 := hidden hl3; clear hl3 gr)
      go_roundw
      case rel => exact ⟨k + 1, .slice (some ⟨g, 0, none⟩) (k + 1) cp, by omega, by go_num, three_set HL3.out _, by rw [List.replicate_succ']; exact ownsRow_setCell_below ho3 (Nat.lt_succ_self _) _, hb3.setCell (Nat.le_refl _) _⟩
      case measure => simp [intOf]; omega
    · have ek : k = z.toNat := by omega
      have EK : Hid _ := ek
      clear ek
      have hrf := rf_below h2 hb
      obtain ⟨xs, hx1, hx2⟩ := to_own hrf.hl
      obtain ⟨c0, c1, c2', c3⟩ := hrf.cells
      obtain ⟨⟨q1, q2, q3⟩, q4⟩ := three_cells hl
      have q5 := hb.size
      have q6 := lt_of_some hl
      have q7 := lt_of_some h2.rf.hr
      have q8 : rb < wr.heap.size := by omega
      have c2a : ∀ o, (wr.alloc o).cell? ⟨rb, 2, none⟩ = some (.slice a r.L.length cap) := fun o => (World.cell?_of_block (w := wr) (blk_alloc_lt _ _ _ q8)).trans c2'
      have HL : Hid _ := hl
      have HX : Hid (wr.ownsRow (rb + 1) 105 3 (.slice a r.L.length cap) r.L.length xs) := hx1
      have HX2 : Hid _ := hx2
      have HO : Hid (wr.ownsRow (w2.heap.size + 1) 30 1 v k (List.replicate k (.int .u64 1))) := ho
      have HV : v.oneCell' = true := own_one ho
      have HP : Hid (ptrW ((s.top : Int) + 1) = 2 * (s.top + 1)) := by show _ = _; unfold ptrW; rw [if_neg (by omega)]
      clear hl hx1 hx2 ho
      go_wp2
      go_region_law (refine step_append_block2 rfl (.tmp 63) (.tmp 65) rfl (rb + 1) a r.L.length cap xs (by simp [Act.eval]) (by exact HX.out.alloc _) ⟨wr.heap.size, 0, none⟩ 1 (s.top + 1) t v (by simp [Act.eval]) (by simp [Addr.add]) (by simp [Addr.add]) (by simp [Addr.add]) HV (by omega) (by simp; omega) ?_; intro g' cap' w4 ho4 gr4 hg4; obtain ⟨⟨m1, m2⟩, m3, m4, m5⟩ := ralloc_end (o := .cells #[.int .i64 (s.top + 1), .int .i64 t, v] 105) h2 hb HL.out HO.out EK.out HX.out HX2.out ho4 (grown_of_drew gr4); obtain ⟨⟨n1, n2, n3⟩, n4⟩ := three_cells m1; obtain ⟨⟨n5, n6, n7⟩, n8⟩ := three_cells m2; have hf5 := hidden (m5.mono o2.size); have HAT := hidden (hat_row h2 hb hg4 (by simp <;> omega)); clear m5 hg4; have n9 := cell_beside (rb := rb) (lb := w2.heap.size) (w := w4) (by omega) n5; clear m1 m2 gr4 ho4)
      all_goals
        go_wp2_with (go_at_call 55; refine (rptr_any _ _ (by omega) (by omega)).mono ?_; rintro e w' ⟨rfl, rfl⟩)
        go_ret2
        exact ⟨ret_two HP.out rfl, _, _, _, m3, o2.trans m4, hf5.out, fun q hq => (HAT.out q hq).imp id (fun h => Nat.le_trans o2.size h)⟩
end Go.Proofs.Ytcbgjkedmboifab

/-
  What New, Set and Flip of the document's own arena tell and make, where it and the program's arena are in one state. Condition: it lies in memory (Rf), and both are in one state (Rep).
-/
namespace Go.Proofs.Ytcbgjkedmboifab
open Go.ChangeShapes Go.WideShapes Go.ChangeAt Go.RowKit Go.Deep
set_option linter.unusedVariables false
set_option maxHeartbeats 1000000
variable {w : World} {p : Pl} {s : St} {rb : Nat} {r : RS} {a : Option Addr} {cap : Nat} {V : Nat → Value}

theorem rnew_no (n : Int) (w : World) (h : n < 2 ∨ 32768 < n) :
    Calls Try.prog 15 #[.int .i64 n] w fun e w' => e = .returned (.pointer none) ∧ w' = w := by
  by_cases c : n < 2
  · go_enter Try.func15, Try.ntmps15
    go_wp2
    all_goals go_ret
    all_goals exact ⟨rfl, rfl⟩
  · have c2 : 32768 < n := by omega
    clear h
    go_enter Try.func15, Try.ntmps15
    go_wp2
    all_goals go_ret
    all_goals exact ⟨rfl, rfl⟩
theorem rnew_yes (n : Int) (w : World) (h1 : 2 ≤ n) (h2 : n ≤ 32768) :
    Calls Try.prog 15 #[.int .i64 n] w fun e w' => e = .returned (.pointer (some ⟨w.heap.size, 0, none⟩)) ∧ Rf w' w.heap.size ⟨n.toNat, 0, []⟩ none 0 (fun _ => .slice none 0 0) ∧ Below w.heap.size w w' := by
  go_enter Try.func15, Try.ntmps15
  go_wp2
  go_ret
  refine ⟨rfl, ⟨?_, fun _ => ⟨rfl, rfl⟩, Nat.le_refl _, Nat.zero_le _, fun ad h => by cases h⟩, (Below.refl _ _).alloc (Nat.le_refl _) _⟩
  have e : ((n.toNat : Nat) : Int) = n := by omega
  show _ = some (Obj.cells #[.int .i64 ((n.toNat : Nat) : Int), .int .i64 ((0 : Nat) : Int), .slice none 0 0] 84 (0, 0))
  rw [e]
  exact blk_alloc_new _ _
theorem FieldOf.setRow {w : World} {B ga o : Nat} {v x : Value} {F : List Int} {cur : Array Value} (h : FieldOf w B v F) (hga : w.heap[ga]? = some (.cells cur 105 (0, 0))) : FieldOf (w.setCell ⟨ga, o, none⟩ x) B v F := by
  obtain ⟨a, cap, e, hn, hc⟩ := h
  refine ⟨a, cap, e, hn, fun ad had => ?_⟩
  obtain ⟨g, e2, hb, ho⟩ := hc ad had
  refine ⟨g, e2, hb, ho.of_block (blk_setCell_other _ _ _ _ ?_)⟩
  intro e3
  have e3' : g = ga := e3
  subst e3'
  obtain ⟨c, hc', _⟩ := ho
  rw [hga] at hc'
  simp at hc'
theorem rset_end {w1 w3 : World} {ga k i g2 cap2 : Nat} {b : Blk} {v : Int} (h1 : Both w1 p s rb r (some ⟨ga, 0, none⟩) cap V) (hb : Below w1.heap.size w1 w3) (hk : r.L[k]? = some b) (hi : i < b.F.length)
    (ho : Own w3 g2 b.F.length (fun j => if j = i then v else b.F.getD j 0)) (hg2 : w1.heap.size ≤ g2) :
    Rf (w3.setCell ⟨ga, k * 3 + 2, none⟩ (.slice (some ⟨g2, 0, none⟩) b.F.length cap2)) rb (r.put k b i v) (some ⟨ga, 0, none⟩) cap (fun j => if j = k then .slice (some ⟨g2, 0, none⟩) b.F.length cap2 else V j) ∧
    Only (Rown rb (some ⟨ga, 0, none⟩)) w1 (w3.setCell ⟨ga, k * 3 + 2, none⟩ (.slice (some ⟨g2, 0, none⟩) b.F.length cap2)) ∧ Fresh w1.heap.size r.L.length V (r.put k b i v).L.length (fun j => if j = k then .slice (some ⟨g2, 0, none⟩) b.F.length cap2 else V j) := by
  have hrf := rf_below h1 hb
  have hl := (List.getElem?_eq_some_iff.1 hk).1
  obtain ⟨g, cur, e, hgB, hg, hcs, hcell⟩ := hrf.hl.2.2.2 _ rfl
  have eg : ga = g := by simpa using e
  subst eg
  have hrb := lt_of_some h1.rf.hr
  have hlen : (r.put k b i v).L.length = r.L.length := by simp [RS.put]
  have hf : Fresh w1.heap.size r.L.length V (r.put k b i v).L.length (fun j => if j = k then .slice (some ⟨g2, 0, none⟩) b.F.length cap2 else V j) := by
    rw [hlen]
    intro j hj
    by_cases e : j = k
    · refine Or.inr (fun ad n c e' => ?_)
      have e2 : (if j = k then Value.slice (some ⟨g2, 0, none⟩) b.F.length cap2 else V j) = .slice (some ad) n c := e'
      rw [if_pos e] at e2
      simp only [Value.slice.injEq, Option.some.injEq] at e2
      rw [← e2.1]
      exact hg2
    · exact Or.inl ⟨hj, by show (if j = k then _ else V j) = _; rw [if_neg e]⟩
  refine ⟨⟨?_, ?_⟩, (Only.of_below hb).setCell (Or.inr (Or.inr rfl)) _, hf⟩
  · rw [hlen, blk_setCell_other _ _ _ _ (by show rb ≠ ga; omega)]
    exact hrf.hr
  · refine ⟨fun h => (by cases h), by rw [hlen]; exact hrf.hl.2.1, hrf.hl.2.2.1, fun ad had => ?_⟩
    cases had
    refine ⟨ga, cur.setIfInBounds (k * 3 + 2) (.slice (some ⟨g2, 0, none⟩) b.F.length cap2), rfl, hgB, by simp [World.setCell, Array.getElem?_modify, hg], by simpa using hcs, ?_⟩
    intro j c hc
    have hcl : k * 3 + 2 < cur.size := by have := hrf.hl.2.1; omega
    show _ ∧ _ ∧ _ = some (if j = k then Value.slice (some ⟨g2, 0, none⟩) b.F.length cap2 else V j) ∧ FieldOf _ _ (if j = k then Value.slice (some ⟨g2, 0, none⟩) b.F.length cap2 else V j) _
    rcases set_some hk hc with ⟨rfl, rfl⟩ | ⟨ne, hc'⟩
    · obtain ⟨d1, d2, d3, d4⟩ := hcell j b hk
      refine ⟨?_, ?_, ?_, ?_⟩
      · rw [Array.getElem?_setIfInBounds, if_neg (by omega)]; exact d1
      · rw [Array.getElem?_setIfInBounds, if_neg (by omega)]; exact d2
      · rw [Array.getElem?_setIfInBounds, if_pos rfl, if_pos hcl, if_pos rfl]
      · rw [if_pos rfl]
        refine ⟨some ⟨g2, 0, none⟩, cap2, by simp, fun h => (by cases h), fun ad had => ?_⟩
        cases had
        have hlen2 : (b.F.set i v).length = b.F.length := by simp
        have hgl := lt_of_some h1.rf.hr
        have hga1 : ga < w1.heap.size := h1.rf.top_lt _ rfl
        refine ⟨g2, rfl, by omega, ?_⟩
        show Own _ g2 (b.F.set i v).length (fun j => (b.F.set i v).getD j 0)
        rw [hlen2]
        refine (ho.of_block (blk_setCell_other _ _ _ _ (by show g2 ≠ ga; omega))).congr (fun q hq => ?_)
        show (if q = i then v else b.F.getD q 0) = (b.F.set i v).getD q 0
        rw [List.getD_eq_getElem?_getD, List.getD_eq_getElem?_getD]
        by_cases e : q = i
        · subst e; rw [if_pos rfl, List.getElem?_set_self hi]; rfl
        · rw [if_neg e, List.getElem?_set_ne (fun c => e c.symm)]
    · obtain ⟨d1, d2, d3, d4⟩ := hcell j c hc'
      rw [if_neg ne]
      refine ⟨?_, ?_, ?_, d4.setRow hg⟩
      · rw [Array.getElem?_setIfInBounds, if_neg (by omega)]; exact d1
      · rw [Array.getElem?_setIfInBounds, if_neg (by omega)]; exact d2
      · rw [Array.getElem?_setIfInBounds, if_neg (by omega)]; exact d3
end Go.Proofs.Ytcbgjkedmboifab

/-
  What Set of the document's own arena tells and makes, where it and the program's arena are in one state. Condition: it lies in memory (Rf), and both are in one state (Rep).
-/
namespace Go.Proofs.Ytcbgjkedmboifab
open Go.ChangeShapes Go.WideShapes Go.ChangeAt Go.RowKit Go.Deep
set_option linter.unusedVariables false
set_option maxHeartbeats 1000000
variable {w : World} {p : Pl} {s : St} {rb : Nat} {r : RS} {a : Option Addr} {cap : Nat} {V : Nat → Value}

theorem grown_below {w1 w2 : World} {o : Obj} (gr : (w1.alloc o).grownBy w2 (some w1.heap.size)) : Below w1.heap.size w1 w2 :=
  ⟨gr.os, gr.tape, gr.output, Nat.le_trans (by rw [nblk_alloc]; omega) gr.size, fun k hk => (gr.block k (by rw [nblk_alloc]; omega) (by simp; omega)).trans (blk_alloc_lt _ _ _ hk)⟩
theorem rset_cells {w1 w2 : World} {rb ga o : Nat} {x y : Value} (hb : Below w1.heap.size w1 w2) (h1 : rb < w1.heap.size) (h2 : ga < w1.heap.size) (c : w1.cell? ⟨rb, 2, none⟩ = some x) (d : w1.cell? ⟨ga, o, none⟩ = some y) : w2.cell? ⟨rb, 2, none⟩ = some x ∧ w2.cell? ⟨ga, o, none⟩ = some y :=
  ⟨(hb.cell (p := ⟨rb, 2, none⟩) h1).trans c, (hb.cell (p := ⟨ga, o, none⟩) h2).trans d⟩
theorem rset_cells2 {w1 w2 : World} {rb ga o g2 j : Nat} {x y : Value} (hb : Below w1.heap.size w1 w2) (hg : w1.heap.size ≤ g2) (h1 : rb < w1.heap.size) (h2 : ga < w1.heap.size) (c : w1.cell? ⟨rb, 2, none⟩ = some x) (d : w1.cell? ⟨ga, o, none⟩ = some y) (f : w1.frozen? ⟨ga, o, none⟩ = false) :
    (∀ u, (w2.setCell ⟨g2, j, none⟩ u).cell? ⟨rb, 2, none⟩ = some x) ∧ (∀ u, (w2.setCell ⟨g2, j, none⟩ u).cell? ⟨ga, o, none⟩ = some y) ∧ (∀ u, (w2.setCell ⟨g2, j, none⟩ u).frozen? ⟨ga, o, none⟩ = false) := by
  refine ⟨fun u => ?_, fun u => ?_, fun u => ?_⟩
  · exact ((hb.setCell (p := ⟨g2, j, none⟩) hg u).cell (p := ⟨rb, 2, none⟩) h1).trans c
  · exact ((hb.setCell (p := ⟨g2, j, none⟩) hg u).cell (p := ⟨ga, o, none⟩) h2).trans d
  · exact ((hb.setCell (p := ⟨g2, j, none⟩) hg u).frozen (p := ⟨ga, o, none⟩) h2).trans f
theorem own_store {w : World} {g m j : Nat} {X : Nat → Int} (h : Own w g m X) (hj : j < m) : w.cell? ⟨g, j, none⟩ = some (.int .u64 (X j)) ∧ ∀ o, w.frozen? ⟨g, o, none⟩ = false := ⟨h.cell hj, h.frozen⟩
theorem rset_fresh (x i v : Int) (w : World) (h : Both w p s rb r a cap V) (h0 : 0 ≤ x) (h1 : x ≤ 18446744073709551615) :
    Calls Try.prog 24 #[.pointer (some ⟨rb, 0, none⟩), .int .u64 x, .int .i64 i, .int .u64 v] w fun e w' => e = .returned (.int .i64 (s.fieldE x i)) ∧ ∃ r' V', Rf w' rb r' a cap V' ∧ Rep (s.put x i v) r' ∧ Only (Rown rb a) w w' ∧ Fresh w.heap.size r.L.length V r'.L.length V' := by
  by_cases g : (s.find x).1 = 0
  · have HE : Hid (s.fieldE x i = 6) := by show _ = _; unfold St.fieldE; rw [if_pos g]
    have HP : Hid (s.put x i v = s) := by show _ = _; unfold St.put; rw [if_neg (by rw [HE.out]; omega)]
    have HG : Hid _ := g
    clear g
    go_enter Try.func24, Try.ntmps24
    go_wp2_with (go_at_call 57; refine (rfind_no x _ h h0 h1 HG.out).mono ?_; rintro e w' ⟨rfl, m, rfl⟩)
    all_goals go_ret
    all_goals exact ⟨ret_int HE.out.symm, r, V, h.rf.drewN _, by rw [HP.out]; exact h.rep, (Only.refl _ _).drewN _, Fresh.refl _ _ _⟩
  · obtain ⟨k, b, hk, hf⟩ := h.block g
    obtain ⟨l1, l2⟩ := h.blk hk
    obtain ⟨z1, z2, z3, z4, z5⟩ := h.sizes
    have hl := (List.getElem?_eq_some_iff.1 hk).1
    have hsz := (h.rep.tagAt hk).2
    obtain ⟨ga, rfl, hdel⟩ := h.rf.row (by omega)
    clear hdel
    by_cases i1 : i < 0
    · have HE : Hid (s.fieldE x i = 2) := by show _ = _; unfold St.fieldE; rw [if_neg g, if_pos (Or.inl i1)]
      have HP : Hid (s.put x i v = s) := by show _ = _; unfold St.put; rw [if_neg (by rw [HE.out]; omega)]
      have HF : Hid _ := hf
      have HK : Hid _ := hk
      clear g hf hk hsz
      go_enter Try.func24, Try.ntmps24
      go_wp2_with (go_at_call 57; refine (rfind_yes x k b _ h h0 h1 HK.out HF.out).mono ?_; rintro e w' ⟨rfl, m, rfl⟩)
      all_goals go_ret
      all_goals exact ⟨ret_int HE.out.symm, r, V, h.rf.drewN _, by rw [HP.out]; exact h.rep, (Only.refl _ _).drewN _, Fresh.refl _ _ _⟩
    · by_cases i2 : (b.F.length : Int) ≤ i
      · have HE : Hid (s.fieldE x i = 2) := by show _ = _; unfold St.fieldE; rw [if_neg g, hf, hsz, if_pos (Or.inr i2)]
        have HP : Hid (s.put x i v = s) := by show _ = _; unfold St.put; rw [if_neg (by rw [HE.out]; omega)]
        obtain ⟨ga', ea, hg1, hg2, hg3, hg4⟩ := h.rf.row (by omega)
        have : ga = ga' := by simpa using ea
        subst this
        obtain ⟨d0, d1, d2, d3⟩ := hg4 k b hk
        obtain ⟨c0, c1, c2, c3⟩ := h.rf.cells
        obtain ⟨va, vc, hv⟩ := field_len d3
        rw [hv] at d2
        have HF : Hid _ := hf
        have HK : Hid _ := hk
        clear g hg4 d3 hf hk hsz hv ea
        go_enter Try.func24, Try.ntmps24
        go_wp2_with (go_at_call 57; refine (rfind_yes x k b _ h h0 h1 HK.out HF.out).mono ?_; rintro e w' ⟨rfl, m, rfl⟩)
        all_goals go_ret
        all_goals exact ⟨ret_int HE.out.symm, r, V, h.rf.drewN _, by rw [HP.out]; exact h.rep, (Only.refl _ _).drewN _, Fresh.refl _ _ _⟩
      · obtain ⟨j, rfl⟩ : ∃ j : Nat, i = (j : Int) := ⟨i.toNat, by omega⟩
        have hj : j < b.F.length := by omega
        obtain ⟨HE0, HR⟩ := rep_put (v := v) h.rep hk hf hj
        have HE : Hid _ := HE0
        have HF : Hid _ := hf
        have HK : Hid _ := hk
        clear g hf hsz HE0
        go_enter Try.func24, Try.ntmps24
        go_wp2_with fail
        refine (rfind_yes x k b _ h h0 h1 HK.out HF.out).mono ?_
        rintro e w1 ⟨rfl, m, hw1⟩
        obtain ⟨hb1, o1⟩ := both_drew (S := Rown rb (some ⟨ga, 0, none⟩)) hw1 h
        clear hw1
        obtain ⟨ga', ea, hg1, hg2, hg3, hg4⟩ := hb1.rf.row (by omega)
        have : ga = ga' := by simpa using ea
        subst this
        obtain ⟨d0, d1, d2, d3⟩ := hg4 k b HK.out
        obtain ⟨c0, c1, c2, c3⟩ := hb1.rf.cells
        obtain ⟨gf, capf, hv, hgf, hcf⟩ := field_cell d3 j hj
        have HD3 : Hid _ := d3
        have HV : Hid _ := hv
        rw [hv] at d2
        have hrb := lt_of_some hb1.rf.hr
        have c2a : ∀ o, (w1.alloc o).cell? ⟨rb, 2, none⟩ = some (.slice (some ⟨ga, 0, none⟩) r.L.length cap) := fun o => (World.cell?_of_block (w := w1) (blk_alloc_lt _ _ _ hrb)).trans c2
        have d2a : ∀ o, (w1.alloc o).cell? ⟨ga, k * 3 + 2, none⟩ = some (.slice (some ⟨gf, 0, none⟩) b.F.length capf) := fun o => (World.cell?_of_block (w := w1) (blk_alloc_lt _ _ _ hg2)).trans d2
        have HNEW : Hid ((w1.alloc (.cells #[] 30)).heap[w1.heap.size]? = some (.cells #[] 30 (0, 0))) := blk_alloc_new _ _
        have HS : Hid (∀ q, q < b.F.length → ∃ ad, some (Addr.mk gf 0 none) = some ad ∧ (w1.alloc (.cells #[] 30)).cell? (ad.add q) = some (.int .u64 (b.F.getD q 0))) := by
          intro q hq
          obtain ⟨gf', capf', hv', _, hcq⟩ := field_cell HD3.out q hq
          rw [HV.out] at hv'
          have eg : gf = gf' := by simp at hv'; exact hv'.1
          subst eg
          refine ⟨_, rfl, ?_⟩
          have hlt : gf < w1.heap.size := by
            by_cases hh : gf < w1.heap.size
            · exact hh
            · exfalso; unfold World.cell? at hcq; rw [Array.getElem?_eq_none (by show _ ≤ gf; omega)] at hcq; cases hcq
          have := (World.cell?_of_block (w := w1) (a := ⟨gf, q, none⟩) (blk_alloc_lt _ (.cells #[] 30) _ hlt)).trans hcq
          have ea2 : (Addr.mk gf 0 none).add q = ⟨gf, q, none⟩ := by
            cases q with
            | zero => rfl
            | succ q => simp [Addr.add]
          rw [ea2]
          exact this
        clear hg4 d3 hk hv ea
        go_wp2_with (at_builtin; refine wpList_append_words rfl (.tmp 35) (.tmp 43) rfl w1.heap.size rfl HNEW.out (some ⟨gf, 0, none⟩) b.F.length capf rfl (fun q => b.F.getD q 0) (fun h => by cases h) HS.out (by omega) ?_; intro g2 cap2 w2 hown gr hgg; have hb2 := grown_below gr; obtain ⟨y1, y2, y5⟩ := rset_cells2 (j := j) hb2 hgg hrb hg2 c2 d2 (hg3 _); obtain ⟨y3, y4⟩ := own_store hown hj; clear gr)
        go_ret
        obtain ⟨m1, m2, m3⟩ := rset_end (cap2 := cap2) hb1 (hb2.setCell (p := ⟨g2, j, none⟩) hgg (.int .u64 v)) HK.out hj (hown.set j v) hgg
        exact ⟨ret_int HE.out.symm, _, _, m1, HR, o1.trans m2, m3.mono o1.size⟩
theorem rset_any (x i v : Int) (w : World) (h : Both w p s rb r a cap V) (h0 : 0 ≤ x) (h1 : x ≤ 18446744073709551615) :
    Calls Try.prog 24 #[.pointer (some ⟨rb, 0, none⟩), .int .u64 x, .int .i64 i, .int .u64 v] w fun e w' => e = .returned (.int .i64 (s.fieldE x i)) ∧ ∃ r' V', Rf w' rb r' a cap V' ∧ Rep (s.put x i v) r' ∧ Only (Rown rb a) w w' :=
  (rset_fresh x i v w h h0 h1).mono (fun e w' ⟨h1, r', V', h2, h3, h4, _⟩ => ⟨h1, r', V', h2, h3, h4⟩)
end Go.Proofs.Ytcbgjkedmboifab

/-
  What Alloc of the document's own arena tells and makes, for every tag and size, where it and the program's arena are in one state. Condition: it lies in memory (Rf), and both are in one state (Rep).
-/
namespace Go.Proofs.Ytcbgjkedmboifab
open Go.ChangeShapes Go.WideShapes Go.ChangeAt Go.RowKit Go.Deep
set_option linter.unusedVariables false
set_option maxHeartbeats 2000000
variable {w : World} {p : Pl} {s : St} {rb : Nat} {r : RS} {a : Option Addr} {cap : Nat} {V : Nat → Value}

theorem ralloc_200 (t z : Int) (w : World) (h : Both w p s rb r a cap V) (g : s.allocE t z = 0) (c : 199 < t) (T1 : (t != 200) = false) :
    Calls Try.prog 22 #[.pointer (some ⟨rb, 0, none⟩), .int .i64 t, .int .i64 z] w fun e w' => e = .returned (.tuple #[.int .u64 (2 * (s.top + 1)), .int .i64 0]) ∧ ∃ a' cap' V', Rf w' rb (r.alloc s t z) a' cap' V' ∧ Only (Rown rb a) w w' ∧ Fresh w.heap.size r.L.length V (r.alloc s t z).L.length V' ∧ ∀ q, a' = some ⟨q, 0, none⟩ → a = some ⟨q, 0, none⟩ ∨ w.heap.size ≤ q := by
  obtain ⟨z1, z2, z3, z4, z5⟩ := h.sizes
  obtain ⟨_, g2, g3, g4, _, _⟩ := allocE_zero g
  have hn := h.rep.n
  have htop := h.rep.top
  have hbase := h.rep.base
  have hwh := h.rep.wh
  have HT : Hid (s.base + lenB r.L = s.top) := htop.symm
  have HBB : Hid (s.base = r.n * r.which) := hbase
  have HN : Hid _ := hn
  have e1 := wrapId ((s.top : Int) + 1) (by omega) (by omega)
  have e2 := wrapId ((s.top : Int) + 1 + z) (by omega) (by omega)
  have e3 := wrapId ((s.base : Int) + r.n) (by omega) (by omega)
  have g5 : (s.top : Int) + 1 + z ≤ s.base + r.n := by omega
  obtain ⟨c0, c1, c2', c3⟩ := h.rf.cells
  clear hn htop hbase g4 g
  go_enter Try.func22, Try.ntmps22
  go_wp2_with (go_at_call 53; refine (rtop_any s.base _ h.rf HBB.out z3 hwh z4 (by omega) (by omega)).mono ?_; rw [HT.out]; rintro e w1 ⟨rfl, m, hw1⟩; obtain ⟨h1, o1⟩ := both_drew (S := Rown rb a) hw1 h; clear hw1)
  clear c0 c1 c2' c3
  obtain ⟨c0, c1, c2', c3⟩ := h1.rf.cells
  go_quiet ((go_at_call 54; exact Calls.quiet_of (rbase_any s.base _ (h1.rf.drewN _) HBB.out z3 hwh)))
  have h2 := h1.drewN nq
  have o2 := o1.drewN nq
  generalize w1.drewN nq = w2 at h2 o2 ⊢
  clear h1 o1 c0 c1 c2' c3 h
  go_wp2
  go_loopw [10] (fun i wr => ∃ (k : Nat) (v : Value), (k : Int) ≤ z ∧ i = .int .i64 k ∧ wr.heap[w2.heap.size]? = some (.cells #[.int .i64 (s.top + 1), .int .i64 t, v] 105 (0, 0)) ∧ wr.ownsRow (w2.heap.size + 1) 30 1 v k (List.replicate k (.int .u64 1)) ∧ Below w2.heap.size w2 wr) (fun i _ => z.toNat - (intOf i).toNat)
  case atStart => exact ⟨0, .slice none 0 0, by omega, rfl, blk_alloc_new _ _, ⟨rfl, .inl ⟨rfl, rfl⟩⟩, (Below.refl _ _).alloc (Nat.le_refl _) _⟩
  case round =>
    obtain ⟨k, v, hk, rfl, hl, ho, hb⟩ := hrel
    by_cases hlt : (k : Int) < z
    · obtain ⟨q1, q2⟩ := three_cells hl
      have q3 := hb.size
      have q4 := lt_of_some hl
      have HL : Hid _ := hl
      clear hl
      go_wp2_with (at_builtin; refine wpList_append_one rfl (.tmp 55) (.tmp 56) rfl (w2.heap.size + 1) v k _ rfl (ho.alloc _) ⟨wr.heap.size, 0, none⟩ 1 1 rfl (by simp [Addr.add]) (by omega) (by rw [nblk_alloc]; omega) ?_; intro g cp w3 ho3 gr hg; obtain ⟨hl3, hb3⟩ := ralloc_next HL.out ho gr hb; obtain ⟨q5, q6⟩ := three_cells hl3; have HL3 := hidden hl3; clear hl3 gr)
      go_roundw
      case rel => exact ⟨k + 1, .slice (some ⟨g, 0, none⟩) (k + 1) cp, by omega, by go_num, three_set HL3.out _, by rw [List.replicate_succ']; exact ownsRow_setCell_below ho3 (Nat.lt_succ_self _) _, hb3.setCell (Nat.le_refl _) _⟩
      case measure => simp [intOf]; omega
    · have ek : k = z.toNat := by omega
      have EK : Hid _ := ek
      clear ek
      have hrf := rf_below h2 hb
      obtain ⟨xs, hx1, hx2⟩ := to_own hrf.hl
      obtain ⟨c0, c1, c2', c3⟩ := hrf.cells
      obtain ⟨⟨q1, q2, q3⟩, q4⟩ := three_cells hl
      have q5 := hb.size
      have q6 := lt_of_some hl
      have q7 := lt_of_some h2.rf.hr
      have q8 : rb < wr.heap.size := by omega
      have c2a : ∀ o, (wr.alloc o).cell? ⟨rb, 2, none⟩ = some (.slice a r.L.length cap) := fun o => (World.cell?_of_block (w := wr) (blk_alloc_lt _ _ _ q8)).trans c2'
      have HL : Hid _ := hl
      have HX : Hid (wr.ownsRow (rb + 1) 105 3 (.slice a r.L.length cap) r.L.length xs) := hx1
      have HX2 : Hid _ := hx2
      have HO : Hid (wr.ownsRow (w2.heap.size + 1) 30 1 v k (List.replicate k (.int .u64 1))) := ho
      have HV : v.oneCell' = true := own_one ho
      have HP : Hid (ptrW ((s.top : Int) + 1) = 2 * (s.top + 1)) := by show _ = _; unfold ptrW; rw [if_neg (by omega)]
      clear hl hx1 hx2 ho
      go_wp2
      go_region_law (refine step_append_block2 rfl (.tmp 63) (.tmp 65) rfl (rb + 1) a r.L.length cap xs (by simp [Act.eval]) (by exact HX.out.alloc _) ⟨wr.heap.size, 0, none⟩ 1 (s.top + 1) t v (by simp [Act.eval]) (by simp [Addr.add]) (by simp [Addr.add]) (by simp [Addr.add]) HV (by omega) (by simp; omega) ?_; intro g' cap' w4 ho4 gr4 hg4; obtain ⟨⟨m1, m2⟩, m3, m4, m5⟩ := ralloc_end (o := .cells #[.int .i64 (s.top + 1), .int .i64 t, v] 105) h2 hb HL.out HO.out EK.out HX.out HX2.out ho4 (grown_of_drew gr4); obtain ⟨⟨n1, n2, n3⟩, n4⟩ := three_cells m1; obtain ⟨⟨n5, n6, n7⟩, n8⟩ := three_cells m2; have hf5 := hidden (m5.mono o2.size); have HAT := hidden (hat_row h2 hb hg4 (by simp <;> omega)); clear m5 hg4; have n9 := cell_beside (rb := rb) (lb := w2.heap.size) (w := w4) (by omega) n5; clear m1 m2 gr4 ho4)
      all_goals
        go_wp2_with (go_at_call 55; refine (rptr_any _ _ (by omega) (by omega)).mono ?_; rintro e w' ⟨rfl, rfl⟩)
        go_ret2
        exact ⟨ret_two HP.out rfl, _, _, _, m3, o2.trans m4, hf5.out, fun q hq => (HAT.out q hq).imp id (fun h => Nat.le_trans o2.size h)⟩
theorem ralloc_202 (t z : Int) (w : World) (h : Both w p s rb r a cap V) (g : s.allocE t z = 0) (c : 199 < t) (T1 : (t != 200) = true) (T2 : (t != 202) = false) :
    Calls Try.prog 22 #[.pointer (some ⟨rb, 0, none⟩), .int .i64 t, .int .i64 z] w fun e w' => e = .returned (.tuple #[.int .u64 (2 * (s.top + 1)), .int .i64 0]) ∧ ∃ a' cap' V', Rf w' rb (r.alloc s t z) a' cap' V' ∧ Only (Rown rb a) w w' ∧ Fresh w.heap.size r.L.length V (r.alloc s t z).L.length V' ∧ ∀ q, a' = some ⟨q, 0, none⟩ → a = some ⟨q, 0, none⟩ ∨ w.heap.size ≤ q := by
  obtain ⟨z1, z2, z3, z4, z5⟩ := h.sizes
  obtain ⟨_, g2, g3, g4, _, _⟩ := allocE_zero g
  have hn := h.rep.n
  have htop := h.rep.top
  have hbase := h.rep.base
  have hwh := h.rep.wh
  have HT : Hid (s.base + lenB r.L = s.top) := htop.symm
  have HBB : Hid (s.base = r.n * r.which) := hbase
  have HN : Hid _ := hn
  have e1 := wrapId ((s.top : Int) + 1) (by omega) (by omega)
  have e2 := wrapId ((s.top : Int) + 1 + z) (by omega) (by omega)
  have e3 := wrapId ((s.base : Int) + r.n) (by omega) (by omega)
  have g5 : (s.top : Int) + 1 + z ≤ s.base + r.n := by omega
  obtain ⟨c0, c1, c2', c3⟩ := h.rf.cells
  clear hn htop hbase g4 g
  go_enter Try.func22, Try.ntmps22
  go_wp2_with (go_at_call 53; refine (rtop_any s.base _ h.rf HBB.out z3 hwh z4 (by omega) (by omega)).mono ?_; rw [HT.out]; rintro e w1 ⟨rfl, m, hw1⟩; obtain ⟨h1, o1⟩ := both_drew (S := Rown rb a) hw1 h; clear hw1)
  clear c0 c1 c2' c3
  obtain ⟨c0, c1, c2', c3⟩ := h1.rf.cells
  go_quiet ((go_at_call 54; exact Calls.quiet_of (rbase_any s.base _ (h1.rf.drewN _) HBB.out z3 hwh)))
  have h2 := h1.drewN nq
  have o2 := o1.drewN nq
  generalize w1.drewN nq = w2 at h2 o2 ⊢
  clear h1 o1 c0 c1 c2' c3 h
  go_wp2
  go_loopw [10] (fun i wr => ∃ (k : Nat) (v : Value), (k : Int) ≤ z ∧ i = .int .i64 k ∧ wr.heap[w2.heap.size]? = some (.cells #[.int .i64 (s.top + 1), .int .i64 t, v] 105 (0, 0)) ∧ wr.ownsRow (w2.heap.size + 1) 30 1 v k (List.replicate k (.int .u64 1)) ∧ Below w2.heap.size w2 wr) (fun i _ => z.toNat - (intOf i).toNat)
  case atStart => exact ⟨0, .slice none 0 0, by omega, rfl, blk_alloc_new _ _, ⟨rfl, .inl ⟨rfl, rfl⟩⟩, (Below.refl _ _).alloc (Nat.le_refl _) _⟩
  case round =>
    obtain ⟨k, v, hk, rfl, hl, ho, hb⟩ := hrel
    by_cases hlt : (k : Int) < z
    · obtain ⟨q1, q2⟩ := three_cells hl
      have q3 := hb.size
      have q4 := lt_of_some hl
      have HL : Hid _ := hl
      clear hl
      go_wp2_with (at_builtin; refine wpList_append_one rfl (.tmp 55) (.tmp 56) rfl (w2.heap.size + 1) v k _ rfl (ho.alloc _) ⟨wr.heap.size, 0, none⟩ 1 1 rfl (by simp [Addr.add]) (by omega) (by rw [nblk_alloc]; omega) ?_; intro g cp w3 ho3 gr hg; obtain ⟨hl3, hb3⟩ := ralloc_next HL.out ho gr hb; obtain ⟨q5, q6⟩ := three_cells hl3; have HL3 := hidden hl3; clear hl3 gr)
      go_roundw
      case rel => exact ⟨k + 1, .slice (some ⟨g, 0, none⟩) (k + 1) cp, by omega, by go_num, three_set HL3.out _, by rw [List.replicate_succ']; exact ownsRow_setCell_below ho3 (Nat.lt_succ_self _) _, hb3.setCell (Nat.le_refl _) _⟩
      case measure => simp [intOf]; omega
    · have ek : k = z.toNat := by omega
      have EK : Hid _ := ek
      clear ek
      have hrf := rf_below h2 hb
      obtain ⟨xs, hx1, hx2⟩ := to_own hrf.hl
      obtain ⟨c0, c1, c2', c3⟩ := hrf.cells
      obtain ⟨⟨q1, q2, q3⟩, q4⟩ := three_cells hl
      have q5 := hb.size
      have q6 := lt_of_some hl
      have q7 := lt_of_some h2.rf.hr
      have q8 : rb < wr.heap.size := by omega
      have c2a : ∀ o, (wr.alloc o).cell? ⟨rb, 2, none⟩ = some (.slice a r.L.length cap) := fun o => (World.cell?_of_block (w := wr) (blk_alloc_lt _ _ _ q8)).trans c2'
      have HL : Hid _ := hl
      have HX : Hid (wr.ownsRow (rb + 1) 105 3 (.slice a r.L.length cap) r.L.length xs) := hx1
      have HX2 : Hid _ := hx2
      have HO : Hid (wr.ownsRow (w2.heap.size + 1) 30 1 v k (List.replicate k (.int .u64 1))) := ho
      have HV : v.oneCell' = true := own_one ho
      have HP : Hid (ptrW ((s.top : Int) + 1) = 2 * (s.top + 1)) := by show _ = _; unfold ptrW; rw [if_neg (by omega)]
      clear hl hx1 hx2 ho
      go_wp2
      go_region_law (refine step_append_block2 rfl (.tmp 63) (.tmp 65) rfl (rb + 1) a r.L.length cap xs (by simp [Act.eval]) (by exact HX.out.alloc _) ⟨wr.heap.size, 0, none⟩ 1 (s.top + 1) t v (by simp [Act.eval]) (by simp [Addr.add]) (by simp [Addr.add]) (by simp [Addr.add]) HV (by omega) (by simp; omega) ?_; intro g' cap' w4 ho4 gr4 hg4; obtain ⟨⟨m1, m2⟩, m3, m4, m5⟩ := ralloc_end (o := .cells #[.int .i64 (s.top + 1), .int .i64 t, v] 105) h2 hb HL.out HO.out EK.out HX.out HX2.out ho4 (grown_of_drew gr4); obtain ⟨⟨n1, n2, n3⟩, n4⟩ := three_cells m1; obtain ⟨⟨n5, n6, n7⟩, n8⟩ := three_cells m2; have hf5 := hidden (m5.mono o2.size); have HAT := hidden (hat_row h2 hb hg4 (by simp <;> omega)); clear m5 hg4; have n9 := cell_beside (rb := rb) (lb := w2.heap.size) (w := w4) (by omega) n5; clear m1 m2 gr4 ho4)
      all_goals
        go_wp2_with (go_at_call 55; refine (rptr_any _ _ (by omega) (by omega)).mono ?_; rintro e w' ⟨rfl, rfl⟩)
        go_ret2
        exact ⟨ret_two HP.out rfl, _, _, _, m3, o2.trans m4, hf5.out, fun q hq => (HAT.out q hq).imp id (fun h => Nat.le_trans o2.size h)⟩
end Go.Proofs.Ytcbgjkedmboifab

/-
  What Alloc of the document's own arena tells and makes, for every tag and size, where it and the program's arena are in one state. Condition: it lies in memory (Rf), and both are in one state (Rep).
-/
namespace Go.Proofs.Ytcbgjkedmboifab
open Go.ChangeShapes Go.WideShapes Go.ChangeAt Go.RowKit Go.Deep
set_option linter.unusedVariables false
set_option maxHeartbeats 2000000
variable {w : World} {p : Pl} {s : St} {rb : Nat} {r : RS} {a : Option Addr} {cap : Nat} {V : Nat → Value}

theorem both_drew2 {w' : World} {m : Nat} (hw : w' = w.drewN m) (h : Both w p s rb r a cap V) : Both w' p s rb r a cap V ∧ Hid (w' = w.drewN m) := ⟨by rw [hw]; exact h.drewN m, hw⟩
theorem ralloc_full (t z : Int) (w : World) (h : Both w p s rb r a cap V) (g0 : St.mayLie t = true) (g2 : 0 ≤ z) (g3 : z ≤ 4096) (g4 : (s.base : Int) + s.n < s.top + z + 1) :
    Calls Try.prog 22 #[.pointer (some ⟨rb, 0, none⟩), .int .i64 t, .int .i64 z] w fun e w' => e = .returned (.tuple #[.int .u64 0, .int .i64 10]) ∧ ∃ m, w' = w.drewN m := by
  obtain ⟨z1, z2, z3, z4, z5⟩ := h.sizes
  have hn := h.rep.n
  have htop := h.rep.top
  have hbase := h.rep.base
  have hwh := h.rep.wh
  have HT : Hid (s.base + lenB r.L = s.top) := htop.symm
  have HBB : Hid (s.base = r.n * r.which) := hbase
  have e1 := wrapId ((s.top : Int) + 1) (by omega) (by omega)
  have e2 := wrapId ((s.top : Int) + 1 + z) (by omega) (by omega)
  have e3 := wrapId ((s.base : Int) + r.n) (by omega) (by omega)
  have g5 : (s.base : Int) + r.n < (s.top : Int) + 1 + z := by omega
  clear hn htop hbase g4
  have tt : (0 ≤ t ∧ t ≤ 199) ∨ t = 200 ∨ t = 202 := by unfold St.mayLie at g0; simp at g0; omega
  rcases tt with ⟨c, c2⟩ | ct | ct
  · go_enter Try.func22, Try.ntmps22
    go_wp2_with (go_at_call 53; refine (rtop_any s.base _ h.rf HBB.out z3 hwh z4 (by omega) (by omega)).mono ?_; rw [HT.out]; rintro e w1 ⟨rfl, m, hw1⟩; obtain ⟨h1, HW⟩ := both_drew2 hw1 h; clear hw1)
    obtain ⟨c0, c1, c2', c3⟩ := h1.rf.cells
    go_quiet ((go_at_call 54; exact Calls.quiet_of (rbase_any s.base _ (h1.rf.drewN _) HBB.out z3 hwh)))
    go_wp2
    go_ret2
    exact ⟨rfl, _, by rw [HW.out]; exact World.drewN_drewN _ _ _⟩
  · have c : 199 < t := by omega
    have T1 : (t != 200) = false := by rw [ct]; rfl
    clear ct
    go_enter Try.func22, Try.ntmps22
    go_wp2_with (go_at_call 53; refine (rtop_any s.base _ h.rf HBB.out z3 hwh z4 (by omega) (by omega)).mono ?_; rw [HT.out]; rintro e w1 ⟨rfl, m, hw1⟩; obtain ⟨h1, HW⟩ := both_drew2 hw1 h; clear hw1)
    obtain ⟨c0, c1, c2', c3⟩ := h1.rf.cells
    go_quiet ((go_at_call 54; exact Calls.quiet_of (rbase_any s.base _ (h1.rf.drewN _) HBB.out z3 hwh)))
    go_wp2
    go_ret2
    exact ⟨rfl, _, by rw [HW.out]; exact World.drewN_drewN _ _ _⟩
  · have c : 199 < t := by omega
    have T1 : (t != 200) = true := by rw [ct]; rfl
    have T2 : (t != 202) = false := by rw [ct]; rfl
    clear ct
    go_enter Try.func22, Try.ntmps22
    go_wp2_with (go_at_call 53; refine (rtop_any s.base _ h.rf HBB.out z3 hwh z4 (by omega) (by omega)).mono ?_; rw [HT.out]; rintro e w1 ⟨rfl, m, hw1⟩; obtain ⟨h1, HW⟩ := both_drew2 hw1 h; clear hw1)
    obtain ⟨c0, c1, c2', c3⟩ := h1.rf.cells
    go_quiet ((go_at_call 54; exact Calls.quiet_of (rbase_any s.base _ (h1.rf.drewN _) HBB.out z3 hwh)))
    go_wp2
    go_ret2
    exact ⟨rfl, _, by rw [HW.out]; exact World.drewN_drewN _ _ _⟩
theorem ralloc_arg (t z : Int) (w : World) (g0 : St.mayLie t = false) :
    Calls Try.prog 22 #[.pointer (some ⟨rb, 0, none⟩), .int .i64 t, .int .i64 z] w fun e w' => e = .returned (.tuple #[.int .u64 0, .int .i64 1]) ∧ w' = w := by
  have tt : t < 0 ∨ (199 < t ∧ t ≠ 200 ∧ t ≠ 202) := by unfold St.mayLie at g0; simp at g0; omega
  have T1 : (t != 200) = true := by rw [bne_iff_ne]; omega
  have T2 : (t != 202) = true := by rw [bne_iff_ne]; omega
  by_cases c : t < 0
  · clear tt
    go_enter Try.func22, Try.ntmps22
    go_wp2
    all_goals go_ret2
    all_goals exact ⟨rfl, rfl⟩
  · have c2 : 199 < t := by omega
    clear tt
    go_enter Try.func22, Try.ntmps22
    go_wp2
    all_goals go_ret2
    all_goals exact ⟨rfl, rfl⟩
theorem ralloc_size (t z : Int) (w : World) (g0 : St.mayLie t = true) (g : z < 0 ∨ 4096 < z) :
    Calls Try.prog 22 #[.pointer (some ⟨rb, 0, none⟩), .int .i64 t, .int .i64 z] w fun e w' => e = .returned (.tuple #[.int .u64 0, .int .i64 2]) ∧ w' = w := by
  have tt : (0 ≤ t ∧ t ≤ 199) ∨ t = 200 ∨ t = 202 := by unfold St.mayLie at g0; simp at g0; omega
  by_cases cz : z < 0
  · rcases tt with ⟨c, c2⟩ | ct | ct
    · go_enter Try.func22, Try.ntmps22
      go_wp2
      all_goals go_ret2
      all_goals exact ⟨rfl, rfl⟩
    · subst ct
      go_enter Try.func22, Try.ntmps22
      go_wp2
      all_goals go_ret2
      all_goals exact ⟨rfl, rfl⟩
    · subst ct
      go_enter Try.func22, Try.ntmps22
      go_wp2
      all_goals go_ret2
      all_goals exact ⟨rfl, rfl⟩
  · have cz2 : 4096 < z := by omega
    clear g
    rcases tt with ⟨c, c2⟩ | ct | ct
    · go_enter Try.func22, Try.ntmps22
      go_wp2
      all_goals go_ret2
      all_goals exact ⟨rfl, rfl⟩
    · subst ct
      go_enter Try.func22, Try.ntmps22
      go_wp2
      all_goals go_ret2
      all_goals exact ⟨rfl, rfl⟩
    · subst ct
      go_enter Try.func22, Try.ntmps22
      go_wp2
      all_goals go_ret2
      all_goals exact ⟨rfl, rfl⟩
/-- What Alloc makes of the document's own arena's state. -/
def RS.after (r : RS) (s : St) (t z : Int) : RS := if s.allocE t z = 0 then r.alloc s t z else r
theorem rep_after (h : Rep s r) (hbt : s.base ≤ s.top) (t z : Int) : Rep (s.alloc t z) (r.after s t z) := by
  unfold RS.after
  by_cases g : s.allocE t z = 0
  · rw [if_pos g]; exact rep_alloc h hbt g
  · rw [if_neg g, show s.alloc t z = s from by unfold St.alloc; rw [if_neg g]]; exact h
theorem ralloc_at (t z : Int) (w : World) (h : Both w p s rb r a cap V) :
    Calls Try.prog 22 #[.pointer (some ⟨rb, 0, none⟩), .int .i64 t, .int .i64 z] w fun e w' => e = .returned (.tuple #[.int .u64 (s.allocW t z), .int .i64 (s.allocE t z)]) ∧ ∃ a' cap' V', Rf w' rb (r.after s t z) a' cap' V' ∧ Only (Rown rb a) w w' ∧ Fresh w.heap.size r.L.length V (r.after s t z).L.length V' ∧ ∀ q, a' = some ⟨q, 0, none⟩ → a = some ⟨q, 0, none⟩ ∨ w.heap.size ≤ q := by
  by_cases g : s.allocE t z = 0
  · have hv : s.allocW t z = 2 * (s.top + 1) := by unfold St.allocW; rw [if_pos g]
    have hr : r.after s t z = r.alloc s t z := by unfold RS.after; rw [if_pos g]
    rw [hv, hr, g]
    obtain ⟨g0, _⟩ := allocE_zero g
    have tt : (0 ≤ t ∧ t ≤ 199) ∨ t = 200 ∨ t = 202 := by unfold St.mayLie at g0; simp at g0; omega
    rcases tt with ⟨c, c2⟩ | ct | ct
    · exact ralloc_low t z w h g c c2
    · exact ralloc_200 t z w h g (by omega) (by rw [ct]; rfl)
    · exact ralloc_202 t z w h g (by omega) (by rw [ct]; rfl) (by rw [ct]; rfl)
  · have hv : s.allocW t z = 0 := by unfold St.allocW; rw [if_neg g]
    have hr : r.after s t z = r := by unfold RS.after; rw [if_neg g]
    rw [hv, hr]
    cases g0 : St.mayLie t
    · have he : s.allocE t z = 1 := by unfold St.allocE; rw [if_pos g0]
      rw [he]
      refine (ralloc_arg t z w g0).mono ?_
      rintro e w' ⟨rfl, rfl⟩
      exact ⟨rfl, a, cap, V, h.rf, Only.refl _ _, Fresh.refl _ _ _, fun q hq => Or.inl hq⟩
    · by_cases gz : z < 0 ∨ 4096 < z
      · have he : s.allocE t z = 2 := by unfold St.allocE; rw [if_neg (by rw [g0]; simp), if_pos gz]
        rw [he]
        refine (ralloc_size t z w g0 gz).mono ?_
        rintro e w' ⟨rfl, rfl⟩
        exact ⟨rfl, a, cap, V, h.rf, Only.refl _ _, Fresh.refl _ _ _, fun q hq => Or.inl hq⟩
      · by_cases gf : (s.base : Int) + s.n < s.top + z + 1
        · have he : s.allocE t z = 10 := by unfold St.allocE; rw [if_neg (by rw [g0]; simp), if_neg gz, if_pos gf]
          rw [he]
          refine (ralloc_full t z w h g0 (by omega) (by omega) gf).mono ?_
          rintro e w' ⟨rfl, m, rfl⟩
          exact ⟨rfl, a, cap, V, h.rf.drewN m, (Only.refl _ _).drewN m, Fresh.refl _ _ _, fun q hq => Or.inl hq⟩
        · exact absurd (by unfold St.allocE; rw [if_neg (by rw [g0]; simp), if_neg gz, if_neg gf]) g
theorem ralloc_fresh (t z : Int) (w : World) (h : Both w p s rb r a cap V) :
    Calls Try.prog 22 #[.pointer (some ⟨rb, 0, none⟩), .int .i64 t, .int .i64 z] w fun e w' => e = .returned (.tuple #[.int .u64 (s.allocW t z), .int .i64 (s.allocE t z)]) ∧ ∃ a' cap' V', Rf w' rb (r.after s t z) a' cap' V' ∧ Only (Rown rb a) w w' ∧ Fresh w.heap.size r.L.length V (r.after s t z).L.length V' :=
  (ralloc_at t z w h).mono (fun e w' ⟨h1, a', cap', V', h2, h3, h4, _⟩ => ⟨h1, a', cap', V', h2, h3, h4⟩)
theorem ralloc_any (t z : Int) (w : World) (h : Both w p s rb r a cap V) :
    Calls Try.prog 22 #[.pointer (some ⟨rb, 0, none⟩), .int .i64 t, .int .i64 z] w fun e w' => e = .returned (.tuple #[.int .u64 (s.allocW t z), .int .i64 (s.allocE t z)]) ∧ ∃ a' cap' V', Rf w' rb (r.after s t z) a' cap' V' ∧ Only (Rown rb a) w w' :=
  (ralloc_fresh t z w h).mono (fun e w' ⟨h1, a', cap', V', h2, h3, _⟩ => ⟨h1, a', cap', V', h2, h3⟩)
end Go.Proofs.Ytcbgjkedmboifab

/-
  The two arenas, the program's and the document's own, in one memory and in one state: what a method of the one leaves of the other. No program is named here.
-/
namespace Go.Proofs.Ytcbgjkedmboifab
open Go.ChangeShapes Go.WideShapes Go.ChangeAt Go.RowKit Go.Deep
set_option linter.unusedVariables false

/-- The two arenas lie in one memory, in one state. -/
structure Two (w : World) (p : Pl) (s : St) (rb : Nat) (r : RS) (a : Option Addr) (cap : Nat) (V : Nat → Value) : Prop where
  ar : Ar w p s
  bo : Both w p s rb r a cap V
variable {w w' : World} {p : Pl} {s s' : St} {rb : Nat} {r r' : RS} {a a' : Option Addr} {cap cap' : Nat} {V V' : Nat → Value}
theorem Two.frame {S : Nat → Prop} (h : Two w p s rb r a cap V) (k : Only S w w') (hs : ∀ q, q < w.heap.size → ¬ S q) : Two w' p s rb r a cap V := by
  have k2 : Only (fun _ => False) w w' := k.mono (fun q hq c => hs q hq c)
  exact ⟨h.ar.frame k2 id id id id, ⟨h.bo.ar, h.bo.rf.frame k2 (fun _ _ => id), h.bo.rep, h.bo.below⟩⟩
theorem Two.alloc (h : Two w p s rb r a cap V) (o : Obj) : Two (w.alloc o) p s rb r a cap V := h.frame ((Only.refl (fun _ => False) w).alloc o) (fun _ _ => id)
theorem Two.drewN (h : Two w p s rb r a cap V) (n : Nat) : Two (w.drewN n) p s rb r a cap V := ⟨h.ar.drewN n, h.bo.drewN n⟩
/-- Behind a method of the program's arena: the document's own one is as it was. -/
theorem Two.left (h : Two w p s rb r a cap V) (k : Only p.own w w') : Both w' p s rb r a cap V := by
  obtain ⟨b1, b2, b3, b4⟩ := h.bo.below
  exact ⟨h.bo.ar, h.bo.rf.frame k (fun g hg hs => by unfold Pl.own at hs; omega), h.bo.rep, h.bo.below⟩
/-- Behind a method of the document's own arena: the program's is as it was. -/
theorem ar_right (h : Both w p s rb r a cap V) (ha : Ar w p s') (k : Only (Rown rb a) w w') : Ar w' p s' := by
  obtain ⟨b1, b2, b3, b4⟩ := h.below
  have hg : ∀ q, Rown rb a q → rb ≤ q := by
    intro q hq
    rcases hq with rfl | hq
    · exact Nat.le_refl _
    · obtain ⟨g, cur, e, hb, _⟩ := h.rf.hl.2.2.2 _ hq
      have : q = g := by simpa using e
      omega
  exact ha.frame k (fun c => by have := hg _ c; omega) (fun c => by have := hg _ c; omega) (fun c => by have := hg _ c; omega) (fun c => by have := hg _ c; omega)
theorem rown_old (h : Both w p s rb r a cap V) : ∀ q, Rown rb a q → rb ≤ q ∧ q < w.heap.size := by
  intro q hq
  rcases hq with rfl | hq
  · exact ⟨Nat.le_refl _, lt_of_some h.rf.hr⟩
  · obtain ⟨g, cur, e, hb, hg, _⟩ := h.rf.hl.2.2.2 _ hq
    have : q = g := by simpa using e
    exact ⟨by omega, by have := lt_of_some hg; omega⟩
theorem only_of_drew {S : Nat → Prop} (h : Only S w.drew w') : Only S w w' := ⟨h.os, h.tape, h.output, h.size, h.block⟩
theorem play_two {w2 w3 : World} {s2 : St} {r3 : RS} {a3 : Option Addr} {cap3 : Nat} {V3 : Nat → Value} (hb : Both w2 p s rb r a cap V) (ha : Ar w2 p s2) (rf3 : Rf w3 rb r3 a3 cap3 V3) (rep3 : Rep s2 r3) (o3 : Only (Rown rb a) w2 w3) : Two w3 p s2 rb r3 a3 cap3 V3 :=
  have ar := ar_right hb ha o3
  ⟨ar, ⟨⟨_, ar⟩, rf3, rep3, hb.below⟩⟩
theorem alloc_n (s : St) (t z : Int) : (s.alloc t z).n = s.n := by unfold St.alloc; split <;> rfl
theorem put_n (s : St) (x i v : Int) : (s.put x i v).n = s.n := by unfold St.put; split <;> rfl
theorem play_below {wr w2 w3 : World} {Bd : Nat} {o : Obj} (hb : Below Bd w wr) (h : Two wr p s rb r a cap V) (o2 : Only p.own (wr.alloc o) w2) (hb2 : Both w2 p s rb r a cap V) (o3 : Only (Rown rb a) w2 w3) (B1 : Bd ≤ p.a) (B2 : Bd ≤ p.h) (B3 : Bd ≤ p.c) (B4 : Bd ≤ p.b) (hBw : Bd ≤ w.heap.size) : Below Bd w w3 := by
  have z := hb.size
  have b1 := hb.alloc (by omega) o
  have b2 := b1.trans (o2.under (by rw [nblk_alloc]; omega) B2 B3 B4)
  have z2 := o2.size
  rw [nblk_alloc] at z2
  have := h.bo.below
  exact b2.trans (o3.below (by omega) (fun k hk hs => by have := (rown_old hb2 k hs).1; omega))
theorem two_new {w1 w2 : World} {n : Nat} {p : Pl} (ha : Ar w1 p (St.new n)) (hr : Rf w2 w1.heap.size ⟨n, 0, []⟩ none 0 (fun _ => .slice none 0 0)) (hb : Below w1.heap.size w1 w2) : Two w2 p (St.new n) w1.heap.size ⟨n, 0, []⟩ none 0 (fun _ => .slice none 0 0) := by
  have ha2 : Ar w2 p (St.new n) := ha.frame (S := fun _ => False) (Only.of_below hb) id id id id
  exact ⟨ha2, ⟨⟨_, ha2⟩, hr, rep_new n, lt_of_some ha.ha, lt_of_some ha.hh, ha.hc.lt, ha.hb.lt⟩⟩
end Go.Proofs.Ytcbgjkedmboifab

/-
  Layer 3's statements: what their helper lay makes of a list of blocks: two arenas in one state, which a plain function tells. Condition: the blocks lie in memory.
-/
namespace Go.Proofs.Ytcbgjkedmboifab
open Go.ChangeShapes Go.WideShapes Go.ChangeAt Go.RowKit Go.Deep
set_option linter.unusedVariables false
set_option maxHeartbeats 2000000

/-- A block as it came in: a tag, and a slice of words. -/
structure BI where
  tag : Int
  fa : Option Addr
  (fl fc : Nat)
  F : Nat → Int
def BlocksIn (w : World) (Bd : Nat) (al : Option Addr) (len : Nat) (I : Nat → BI) : Prop :=
  ∀ i, i < len → ∃ x : Addr, al = some x ∧ (x.add (i * 2)).block < Bd ∧ w.cell? (x.add (i * 2)) = some (.int .i64 (I i).tag) ∧ w.cell? ⟨(x.add (i * 2)).block, (x.add (i * 2)).off + 1, none⟩ = some (.slice (I i).fa (I i).fl (I i).fc) ∧
    WS w (I i).fa (I i).fl (I i).fc (I i).F ∧ (0 < (I i).fl → ∀ ad, (I i).fa = some ad → ad.block < Bd) ∧ (I i).fl ≤ maxLen
theorem ws_below {w w' : World} {Bd : Nat} {al : Option Addr} {m c : Nat} {X : Nat → Int} (h : WS w al m c X) (hb : 0 < m → ∀ ad, al = some ad → ad.block < Bd) (k : Below Bd w w') : WS w' al m c X := by
  refine ⟨h.nil, fun i hi => ?_, h.lo, h.hi⟩
  obtain ⟨ad, e, hc⟩ := h.cell i hi
  exact ⟨ad, e, (k.cell (by rw [add_block]; exact hb (by omega) ad e)).trans hc⟩
theorem BlocksIn.below {w w' : World} {Bd : Nat} {al : Option Addr} {len : Nat} {I : Nat → BI} (h : BlocksIn w Bd al len I) (k : Below Bd w w') : BlocksIn w' Bd al len I := by
  intro i hi
  obtain ⟨x, e, x0, y0, y1, y2, y3, y4⟩ := h i hi
  exact ⟨x, e, x0, (k.cell x0).trans y0, (k.cell (p := ⟨(x.add (i * 2)).block, (x.add (i * 2)).off + 1, none⟩) x0).trans y1, ws_below y2 y3 k, y3, y4⟩
theorem BlocksIn.mono {w : World} {Bd Bd' : Nat} {al : Option Addr} {len : Nat} {I : Nat → BI} (h : BlocksIn w Bd al len I) (k : Bd ≤ Bd') : BlocksIn w Bd' al len I := by
  intro i hi
  obtain ⟨x, e, x0, y0, y1, y2, y3, y4⟩ := h i hi
  exact ⟨x, e, by omega, y0, y1, y2, fun hp ad had => by have := y3 hp ad had; omega, y4⟩
/-- The state behind k blocks that were asked for; the word of block k, 0 if there was no room. -/
def layA (n : Nat) (I : Nat → BI) : Nat → St
  | 0 => St.new n
  | k + 1 => (layA n I k).alloc (I k).tag (min (I k).fl 60 : Nat)
def layW (n : Nat) (I : Nat → BI) (k : Nat) : Int := (layA n I k).allocW (I k).tag (min (I k).fl 60 : Nat)
/-- The state behind k fields more of block i. -/
def layC (n m : Nat) (I : Nat → BI) (s : St) (i : Nat) : Nat → St
  | 0 => s
  | k + 1 => (layC n m I s i k).put (layW n I i) k (wordV ((I i).F k) m (layW n I))
def layN (n : Nat) (I : Nat → BI) (i : Nat) : Nat := if layW n I i = 0 then 0 else min (I i).fl 60
def layB (n m : Nat) (I : Nat → BI) : Nat → St
  | 0 => layA n I m
  | i + 1 => layC n m I (layB n m I i) i (layN n I i)
theorem allocW_rng {w : World} {p : Pl} {s : St} (h : Ar w p s) (t z : Int) : 0 ≤ s.allocW t z ∧ s.allocW t z ≤ 18446744073709551615 := by
  have := h.t2; have := h.n2; have := h.b1
  unfold St.allocW; split <;> omega
variable {w : World} {p : Pl} {s : St} {rb : Nat} {r : RS} {a : Option Addr} {cap : Nat} {V : Nat → Value}
theorem own_left {wr w4 : World} {gB k : Nat} {v : Value} {xs : List Value} (h : Two wr p s rb r a cap V) (ho : wr.ownsRow gB 30 1 v k xs) (o4 : Only p.own wr w4) (hg : rb < gB) : w4.ownsRow gB 30 1 v k xs := by
  obtain ⟨b1, b2, b3, b4⟩ := h.bo.below
  refine ⟨ho.1, ?_⟩
  rcases ho.2 with h2 | ⟨g, c, cur, hv, hge, hh, rest⟩
  · exact .inl h2
  · exact .inr ⟨g, c, cur, hv, hge, (o4.block g (lt_of_some hh) (by unfold Pl.own; omega)).trans hh, rest⟩
theorem own_right {w4 w5 : World} {gB k : Nat} {v : Value} {xs : List Value} (h : Both w4 p s rb r a cap V) (ho : w4.ownsRow gB 30 1 v k xs) (o5 : Only (Rown rb a) w4 w5) : w5.ownsRow gB 30 1 v k xs := by
  refine ⟨ho.1, ?_⟩
  rcases ho.2 with h2 | ⟨g, c, cur, hv, hge, hh, rest⟩
  · exact .inl h2
  · refine .inr ⟨g, c, cur, hv, hge, (o5.block g (lt_of_some hh) ?_).trans hh, rest⟩
    rintro (rfl | hs)
    · have := h.rf.hr
      rw [hh] at this
      simp at this
    · obtain ⟨g', cur', e, _, hg', _⟩ := h.rf.hl.2.2.2 _ hs
      have : g = g' := by simpa using e
      subst this
      rw [hh] at hg'
      simp at hg'
theorem own_size {w5 : World} {gB k : Nat} {g cp : Nat} {xs : List Value} (ho : w5.ownsRow gB 30 1 (.slice (some ⟨g, 0, none⟩) k cp) k xs) : gB ≤ w5.heap.size := by
  rcases ho.2 with ⟨h2, _⟩ | ⟨g', c, cur, hv, hge, hh, rest⟩
  · cases h2
  · have := lt_of_some hh; omega
theorem lay_below {w4 w5 : World} {Bd : Nat} (hb : Below Bd w w4) (h : Both w4 p s rb r a cap V) (o5 : Only (Rown rb a) w4 w5) (hrb : Bd ≤ rb) : Below Bd w w5 := by
  have := lt_of_some h.rf.hr
  exact hb.trans (o5.below (by omega) (fun q hq hs => by have := (rown_old h q hs).1; omega))
/-- No block's row of fields is block g. -/
def Off (m : Nat) (V : Nat → Value) (g : Nat) : Prop := ∀ i, i < m → ∀ ad n c, V i = .slice (some ad) n c → ad.block ≠ g
theorem Off.fresh {m m' g B : Nat} {V V' : Nat → Value} (h : Off m V g) (f : Fresh B m V m' V') (hg : g < B) : Off m' V' g := by
  intro i hi ad n c e
  rcases f i hi with ⟨h1, h2⟩ | h1
  · exact h i h1 ad n c (by rw [← h2]; exact e)
  · have := h1 ad n c e; omega
theorem off_new {g : Nat} (h : Rf w rb r a cap V) (hg : w.heap.size ≤ g) : Off r.L.length V g := by
  intro i hi ad n c e
  obtain ⟨ga, _, _, _, _, h5⟩ := h.row (by omega)
  obtain ⟨_, _, _, a', cap', e2, _, h6⟩ := h5 i _ (List.getElem?_eq_getElem hi)
  rw [e] at e2
  simp only [Value.slice.injEq] at e2
  obtain ⟨g', e3, _, h7⟩ := h6 ad e2.1.symm
  have := h7.lt
  rw [e3]
  show g' ≠ g
  omega
theorem own_blk {w : World} {gB g k cp : Nat} {xs : List Value} (ho : w.ownsRow gB 30 1 (.slice (some ⟨g, 0, none⟩) k cp) k xs) : ∃ cur, w.heap[g]? = some (.cells cur 30 (0, 0)) := own_row ho g rfl
theorem two_only {w5 w6 : World} {g : Nat} {cur : Array Value} (h : Two w5 p s rb r a cap V) (hc : w5.heap[g]? = some (.cells cur 30 (0, 0))) (hg : rb < g) (hoff : Off r.L.length V g) (k : Only (fun q => q = g) w5 w6) : Two w6 p s rb r a cap V := by
  obtain ⟨b1, b2, b3, b4⟩ := h.bo.below
  refine ⟨h.ar.frame k (by omega) (by omega) (by omega) (by omega), ⟨h.bo.ar, ⟨(k.block _ (lt_of_some h.bo.rf.hr) (by omega)).trans h.bo.rf.hr, h.bo.rf.hl.1, h.bo.rf.hl.2.1, h.bo.rf.hl.2.2.1, fun ad had => ?_⟩, h.bo.rep, h.bo.below⟩⟩
  obtain ⟨ga, cur', e, hb, hga, hcs, hcell⟩ := h.bo.rf.hl.2.2.2 ad had
  have hne : ga ≠ g := by
    rintro rfl
    rw [hc] at hga
    simp at hga
  refine ⟨ga, cur', e, hb, (k.block _ (lt_of_some hga) hne).trans hga, hcs, fun i b hib => ?_⟩
  obtain ⟨c1, c2, c3, a', cap', e2, hn, hf⟩ := hcell i b hib
  refine ⟨c1, c2, c3, a', cap', e2, hn, fun ad' had' => ?_⟩
  obtain ⟨g', e3, hb', ho⟩ := hf ad' had'
  have hi := (List.getElem?_eq_some_iff.1 hib).1
  have := hoff i hi ad' _ _ (by rw [e2, had'])
  rw [e3] at this
  exact ⟨g', e3, hb', ho.frame k this⟩
theorem only_grown {w5 w6 : World} {g : Nat} {o : Obj} (gr : (w5.alloc o).grownBy w6 (some g)) : Only (fun q => q = g) w5 w6 :=
  ⟨gr.os, gr.tape, gr.output, Nat.le_trans (by rw [nblk_alloc]; omega) gr.size, fun q hq hs => (gr.block q (by rw [nblk_alloc]; omega) (by simpa using hs)).trans (blk_alloc_lt _ _ _ hq)⟩
/-- Behind an append to the row of words: both arenas are as they were; no block's fields lie in the new row. -/
theorem two_grown {w5 w6 : World} {gB g g6 k cp : Nat} {xs : List Value} {o : Obj} (h : Two w5 p s rb r a cap V) (ho : w5.ownsRow gB 30 1 (.slice (some ⟨g, 0, none⟩) k cp) k xs) (hg : rb < gB) (hoff : Off r.L.length V g) (gr : (w5.alloc o).grownBy w6 (some g)) (hat : some g = some g6 ∨ g6 = (w5.alloc o).heap.size) : Two w6 p s rb r a cap V ∧ Off r.L.length V g6 := by
  obtain ⟨cur, hc⟩ := own_blk ho
  have hge := own_ge ho g rfl
  refine ⟨two_only h hc (by omega) hoff (only_grown gr), ?_⟩
  rcases hat with e | e
  · cases e; exact hoff
  · rw [nblk_alloc] at e
    exact off_new h.bo.rf (by omega)
theorem wpList_append_lie {w : World} {ops : Array Oper} {rest : List Oper} {o : Oper} {a : Act} {Q : Exit → Act → World → Prop} (hgd : o.guard = none) (s x : Operand)
    (ho : o.op = .call { callee := .builtin .append, args := #[s, x], argTypes := #[37, 37] }) (B : Nat) (v : Value) (n : Nat) (xs : List Value) (hs : a.eval s = v) (hown : w.ownsRow B 30 1 v n xs)
    (ad : Addr) (c : Nat) (u : Int) (hx : a.eval x = .slice (some ad) 1 c) (hu : w.cell? (ad.add 0) = some (.int .u64 u)) (hn : n ≤ 1000000) (hB : B ≤ w.heap.size)
    (h : ∀ g cap w', w'.ownsRow B 30 1 (.slice (some ⟨g, 0, none⟩) (n + 1) cap) (n + 1) (xs ++ [.int .u64 u]) → w.grownBy w' v.ownBlock → (v.ownBlock = some g ∨ g = w.heap.size) → wpList Try.prog ops Q rest (a.put o.dst (.slice (some ⟨g, 0, none⟩) (n + 1) cap)) w') : wpList Try.prog ops Q (o :: rest) a w := by
  obtain ⟨i0, hi, hz0, hz1, hz2⟩ := info_parts Try.info30
  refine wpList_append_lies w hgd s x 37 ho B 30 i0 (.int .u64 0) 1 8 Try.underlying37 hi hz0 hz1 hz2 rfl (by decide) v n xs hs hown ad 1 c [.int .u64 u] hx rfl ?_ ?_ (by omega) (by unfold maxLen; omega) (by omega) hB _ rfl ?_
  · intro j y hy
    match j, hy with
    | 0, hy => simp at hy; subst hy; exact hu
  · intro y hy; simp at hy; subst hy; rfl
  · intro g cap w' h1 h2 h3 _
    exact h g cap w' h1 h2 h3
theorem own_keepL {wr w4 : World} {g k gB : Nat} {X : Nat → Int} (h : Two wr p s rb r a cap V) (ho : Own wr g k X) (hg : rb < gB) (hgg : gB ≤ g) (o4 : Only p.own wr w4) : Own w4 g k X := by
  obtain ⟨b1, b2, b3, b4⟩ := h.bo.below
  exact ho.frame o4 (by unfold Pl.own; omega)
theorem own_keepR {w4 w5 : World} {g k : Nat} {X : Nat → Int} (h : Both w4 p s rb r a cap V) (ho : Own w4 g k X) (o5 : Only (Rown rb a) w4 w5) : Own w5 g k X := by
  refine ho.frame o5 ?_
  obtain ⟨cur, hc, _⟩ := ho
  rintro (rfl | hs)
  · have := h.rf.hr
    rw [hc] at this
    simp at this
  · obtain ⟨g', cur', e, _, hg', _⟩ := h.rf.hl.2.2.2 _ hs
    have : g = g' := by simpa using e
    subst this
    rw [hc] at hg'
    simp at hg'
theorem layN_zero {n : Nat} {I : Nat → BI} {i : Nat} (h : layW n I i = 0) : layN n I i = 0 := by unfold layN; rw [if_pos h]
theorem layN_pos {n : Nat} {I : Nat → BI} {i : Nat} (h : layW n I i ≠ 0) : layN n I i = min (I i).fl 60 := by unfold layN; rw [if_neg h]
theorem lay_lt {wr w4 : World} {S : Nat → Prop} {gB g k cp : Nat} {xs : List Value} (ho : wr.ownsRow gB 30 1 (.slice (some ⟨g, 0, none⟩) k cp) k xs) (o4 : Only S wr w4) : g < w4.heap.size := by
  obtain ⟨cur, hc⟩ := own_blk ho
  have := lt_of_some hc
  exact Nat.lt_of_lt_of_le this o4.size
end Go.Proofs.Ytcbgjkedmboifab

/-
  The document's own arena in memory: what may be written beside it. No program is named here but by its types' numbers.
-/
namespace Go.Proofs.Ytcbgjkedmboifab
open Go.ChangeShapes Go.WideShapes Go.ChangeAt Go.RowKit Go.Deep
set_option linter.unusedVariables false
set_option maxHeartbeats 1000000

variable {kb rb : Nat} {w w' : World} {r : RS}
theorem rf_frame {S : Nat → Prop} {a : Option Addr} {cap : Nat} {V : Nat → Value} (h : Rf w rb r a cap V) (k : Only S w w') (h1 : ∀ q, Rown rb a q → ¬ S q) (h2 : ∀ i, i < r.L.length → ∀ q n c, V i = .slice (some ⟨q, 0, none⟩) n c → ¬ S q) : Rf w' rb r a cap V := by
  refine ⟨(k.block _ (lt_of_some h.hr) (h1 rb (Or.inl rfl))).trans h.hr, h.hl.1, h.hl.2.1, h.hl.2.2.1, fun ad had => ?_⟩
  obtain ⟨g, cur, e, hb, hg, hc, hcell⟩ := h.hl.2.2.2 ad had
  refine ⟨g, cur, e, hb, (k.block _ (lt_of_some hg) (h1 g (Or.inr (by rw [had, e])))).trans hg, hc, fun i b hib => ?_⟩
  obtain ⟨c1, c2, c3, a', cap', e2, hn, hf⟩ := hcell i b hib
  have hi := (List.getElem?_eq_some_iff.1 hib).1
  refine ⟨c1, c2, c3, a', cap', e2, hn, fun ad' had' => ?_⟩
  obtain ⟨g', e3, hb', ho⟩ := hf ad' had'
  exact ⟨g', e3, hb', ho.frame k (h2 i hi g' _ _ (by rw [e2, had', e3]))⟩
theorem rf_lt {a : Option Addr} {cap : Nat} {V : Nat → Value} (h : Rf w rb r a cap V) : (∀ q, Rown rb a q → q < w.heap.size) ∧ ∀ i, i < r.L.length → ∀ q n c, V i = .slice (some ⟨q, 0, none⟩) n c → q < w.heap.size := by
  refine ⟨fun q hq => ?_, fun i hi q n c e => ?_⟩
  · rcases hq with e | e
    · rw [e]; exact lt_of_some h.hr
    · obtain ⟨g, cur, e2, hb, hg, _⟩ := h.hl.2.2.2 _ e
      cases e2
      exact lt_of_some hg
  · obtain ⟨g, e1, _, _, _, hcell⟩ := h.row (by omega)
    obtain ⟨_, _, _, a', cap', e2, hn, hf⟩ := hcell i _ (List.getElem?_eq_getElem hi)
    rw [e] at e2
    simp only [Value.slice.injEq] at e2
    obtain ⟨g', e3, _, ho⟩ := hf ⟨q, 0, none⟩ e2.1.symm
    cases e3
    exact ho.lt
theorem Fresh.trans {B B' m : Nat} {V V' V'' : Nat → Value} (h : Fresh B m V m V') (h' : Fresh B' m V' m V'') (hb : B ≤ B') : Fresh B m V m V'' := fun i hi => by
  rcases h' i hi with ⟨h1, e⟩ | h1
  · rcases h i hi with ⟨h2, e2⟩ | h2
    · exact Or.inl ⟨hi, e.trans e2⟩
    · exact Or.inr (fun ad n c he => h2 ad n c (by rw [← e]; exact he))
  · exact Or.inr (fun ad n c he => Nat.le_trans hb (h1 ad n c he))
end Go.Proofs.Ytcbgjkedmboifab

/-
  Layer 4: ranges, and what the types of blocks tell. No program is named here but by its types' numbers.
-/
namespace Go.Proofs.Ytcbgjkedmboifab
open Go.ChangeShapes Go.WideShapes Go.ChangeAt Go.RowKit Go.Deep
set_option linter.unusedVariables false
set_option maxHeartbeats 1000000

def R64 (x : Int) : Prop := 0 ≤ x ∧ x ≤ 18446744073709551615
def RI (x : Int) : Prop := -9223372036854775808 ≤ x ∧ x ≤ 9223372036854775807
def RX (X : Nat → Int) : Prop := ∀ i, i < 8 → R64 (X i)
theorem row_keep {w w' : World} {B : Nat} {e : TypeId} {sz : Nat} {v : Value} {n : Nat} {xs : List Value} (h : w.ownsRow B e sz v n xs) (hk : ∀ g, v.ownBlock = some g → w'.heap[g]? = w.heap[g]?) : w'.ownsRow B e sz v n xs := by
  refine ⟨h.1, ?_⟩
  rcases h.2 with h2 | ⟨g, c, cur, hv, hge, hh, rest⟩
  · exact .inl h2
  · exact .inr ⟨g, c, cur, hv, hge, (hk g (by rw [hv]; rfl)).trans hh, rest⟩
theorem row_blk {w : World} {B g n c : Nat} {e : TypeId} {sz : Nat} {xs : List Value} (h : w.ownsRow B e sz (.slice (some ⟨g, 0, none⟩) n c) n xs) : ∃ cur, w.heap[g]? = some (.cells cur e (0, 0)) ∧ B ≤ g := by
  rcases h.2 with ⟨e', _⟩ | ⟨g', cap, cur, e', hb, hg, _⟩
  · cases e'
  · simp only [Value.slice.injEq, Option.some.injEq, Addr.mk.injEq, and_true, true_and] at e'
    obtain ⟨rfl, rfl⟩ := e'
    exact ⟨cur, hg, hb⟩
theorem ty_two {w : World} {g g' : Nat} {cur cur' : Array Value} {t t' : TypeId} (h : w.heap[g]? = some (.cells cur t (0, 0))) (h' : w.heap[g']? = some (.cells cur' t' (0, 0))) (ht : t ≠ t') : g ≠ g' := by
  rintro rfl
  rw [h] at h'
  simp at h'
  exact ht h'.2
theorem Own.blk {w : World} {g m : Nat} {X : Nat → Int} (h : Own w g m X) : ∃ cur, w.heap[g]? = some (.cells cur 30 (0, 0)) := by obtain ⟨cur, hc, _⟩ := h; exact ⟨cur, hc⟩
end Go.Proofs.Ytcbgjkedmboifab
