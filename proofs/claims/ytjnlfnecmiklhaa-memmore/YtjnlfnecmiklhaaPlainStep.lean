/-
  What Alloc, Set and Flip make of the two arenas' one state: they stay in one state. Plain; no program.
-/
import Derived.Test.YtjnlfnecmiklhaaPlainRep
namespace Go.Proofs.Ytjnlfnecmiklhaa
open Go.RowKit Go.Deep
set_option linter.unusedVariables false

theorem rep_new (n : Nat) : Rep (St.new n) ⟨n, 0, []⟩ :=
  { n := rfl, wh := Nat.zero_le _, base := rfl, top := rfl, ad := by intro i b h; simp at h, head := by intro i b h; simp at h, fld := by intro i b h; simp at h, tag := by intro i b h; simp at h, may := by intro i b h; simp at h,
    hh := by intro j; constructor
             · intro h; exact absurd h (by show ¬ (false = true); simp)
             · rintro ⟨i, b, h, _⟩; simp at h }
def RS.flip (r : RS) : RS := ⟨r.n, 1 - r.which, []⟩
theorem rep_flip {s : St} {r : RS} (h : Rep s r) : Rep s.flip r.flip := by
  have hw := h.wh
  have hb := h.base
  have hn := h.n
  refine { n := h.n, wh := by show 1 - r.which ≤ 1; omega, base := ?_, top := rfl, ad := by intro i b h; simp [RS.flip] at h, head := by intro i b h; simp [RS.flip] at h, fld := by intro i b h; simp [RS.flip] at h, tag := by intro i b h; simp [RS.flip] at h, may := by intro i b h; simp [RS.flip] at h, hh := ?_ }
  · show s.n - s.base = r.n * (1 - r.which)
    have : r.which = 0 ∨ r.which = 1 := by omega
    rcases this with e | e <;> rw [e] at hb ⊢ <;> omega
  · intro j
    constructor
    · intro g
      have g' : (if j < s.top - s.base then false else s.H j) = true := g
      split at g'
      · cases g'
      · obtain ⟨i, b, hb, e⟩ := (h.hh j).1 g'
        have := h.inside hb
        omega
    · rintro ⟨i, b, hb, _⟩
      simp [RS.flip] at hb
def RS.alloc (s : St) (r : RS) (t z : Int) : RS := ⟨r.n, r.which, r.L ++ [⟨s.top + 1, t, List.replicate z.toNat 1⟩]⟩
theorem snoc_some {α : Type} {l : List α} {x b : α} {i : Nat} (h : (l ++ [x])[i]? = some b) : (l[i]? = some b ∧ i < l.length) ∨ (i = l.length ∧ b = x) := by
  by_cases hi : i < l.length
  · rw [List.getElem?_append_left hi] at h; exact Or.inl ⟨h, hi⟩
  · rw [List.getElem?_append_right (by omega)] at h
    have : i - l.length < 1 := by
      have := (List.getElem?_eq_some_iff.1 h).1
      simpa using this
    have e : i = l.length := by omega
    subst e
    simp at h
    exact Or.inr ⟨rfl, h.symm⟩
theorem rep_alloc {s : St} {r : RS} {t z : Int} (h : Rep s r) (hbt : s.base ≤ s.top) (g : s.allocE t z = 0) : Rep (s.alloc t z) (r.alloc s t z) := by
  obtain ⟨_, z0, z1, g4, t0, t1⟩ := allocE_zero g
  rw [alloc_st g]
  have htop := h.top
  have hmay : ∀ (i : Nat) (b : Blk), (r.alloc s t z).L[i]? = some b → St.mayLie b.tag = true := by
    intro i b hb
    rcases snoc_some hb with ⟨hb', hi⟩ | ⟨rfl, rfl⟩
    · exact h.may i b hb'
    · show St.mayLie t = true
      unfold St.allocE at g
      by_cases e : St.mayLie t = false
      · rw [if_pos e] at g; omega
      · simpa using e
  refine { n := h.n, wh := h.wh, base := h.base, top := ?_, ad := ?_, head := ?_, fld := ?_, tag := ?_, may := hmay, hh := ?_ }
  · show s.top + z.toNat + 1 = s.base + lenB (r.L ++ [⟨s.top + 1, t, List.replicate z.toNat 1⟩])
    rw [lenB_append]
    simp [lenB]
    omega
  · intro i b hb
    rcases snoc_some hb with ⟨hb', hi⟩ | ⟨rfl, rfl⟩
    · show b.ad = s.base + lenB ((r.L ++ [_]).take i) + 1
      rw [List.take_append_of_le_length (by omega)]
      exact h.ad i b hb'
    · show s.top + 1 = s.base + lenB ((r.L ++ [_]).take r.L.length) + 1
      rw [List.take_append_of_le_length (by omega), List.take_length]
      omega
  · intro i b hb
    show (if b.ad - 1 = s.top then headW t z else if s.top < b.ad - 1 ∧ b.ad - 1 ≤ s.top + z.toNat then 1 else s.C (b.ad - 1)) = _
    rcases snoc_some hb with ⟨hb', hi⟩ | ⟨rfl, rfl⟩
    · have := h.inside hb'
      rw [if_neg (by omega), if_neg (by omega)]
      exact h.head i b hb'
    · rw [if_pos (by show s.top + 1 - 1 = s.top; omega)]
      show headW t z = headW t ((List.replicate z.toNat (1 : Int)).length : Nat)
      rw [List.length_replicate, show ((z.toNat : Nat) : Int) = z from by omega]
  · intro i b hb j x hx
    show (if b.ad + j = s.top then headW t z else if s.top < b.ad + j ∧ b.ad + j ≤ s.top + z.toNat then 1 else s.C (b.ad + j)) = _
    rcases snoc_some hb with ⟨hb', hi⟩ | ⟨rfl, rfl⟩
    · have := h.inside hb'
      have hj := (List.getElem?_eq_some_iff.1 hx).1
      rw [if_neg (by omega), if_neg (by omega)]
      exact h.fld i b hb' j x hx
    · have hj := (List.getElem?_eq_some_iff.1 hx).1
      have hj' : j < z.toNat := by simpa using hj
      have hx' : x = 1 := by
        have := (List.getElem?_eq_some_iff.1 hx).2
        simpa using this.symm
      rw [if_neg (by show ¬ (s.top + 1 + j = s.top); omega), if_pos (by show s.top < s.top + 1 + j ∧ s.top + 1 + j ≤ _; omega), hx']
  · intro i b hb
    rcases snoc_some hb with ⟨hb', hi⟩ | ⟨rfl, rfl⟩
    · exact h.tag i b hb'
    · refine ⟨t0, t1, ?_⟩
      show (List.replicate z.toNat (1 : Int)).length ≤ 4096
      rw [List.length_replicate]; omega
  · intro j
    show (if j = s.top - s.base then true else s.H j) = true ↔ ∃ (i : Nat) (b : Blk), (r.L ++ [⟨s.top + 1, t, List.replicate z.toNat 1⟩])[i]? = some b ∧ b.ad = s.base + 1 + j
    constructor
    · intro gj
      by_cases e : j = s.top - s.base
      · refine ⟨r.L.length, ⟨s.top + 1, t, List.replicate z.toNat 1⟩, by simp, ?_⟩
        show s.top + 1 = _
        omega
      · rw [if_neg e] at gj
        obtain ⟨i, b, hb, e2⟩ := (h.hh j).1 gj
        have hi := (List.getElem?_eq_some_iff.1 hb).1
        exact ⟨i, b, by rw [List.getElem?_append_left hi]; exact hb, e2⟩
    · rintro ⟨i, b, hb, e⟩
      rcases snoc_some hb with ⟨hb', hi⟩ | ⟨rfl, rfl⟩
      · by_cases e' : j = s.top - s.base
        · rw [if_pos e']
        · rw [if_neg e']; exact (h.hh j).2 ⟨i, b, hb', e⟩
      · rw [if_pos]
        have e2 : s.top + 1 = s.base + 1 + j := e
        omega
def RS.put (r : RS) (k : Nat) (b : Blk) (i : Nat) (v : Int) : RS := ⟨r.n, r.which, r.L.set k ⟨b.ad, b.tag, b.F.set i v⟩⟩
theorem lenB_set (l : List Blk) (k : Nat) (b c : Blk) (h : l[k]? = some b) (e : c.F.length = b.F.length) : ∀ i, lenB ((l.set k c).take i) = lenB (l.take i) := by
  induction l generalizing k with
  | nil => intro i; simp
  | cons x l ih =>
    intro i
    cases k with
    | zero =>
      simp at h
      subst h
      cases i with
      | zero => simp
      | succ i => simp [lenB, e]
    | succ k =>
      simp at h
      cases i with
      | zero => simp
      | succ i => simp [lenB, ih k h i]
theorem set_some {r : RS} {k i m : Nat} {b c : Blk} {v : Int} (hk : r.L[k]? = some b) (h : (r.put k b m v).L[i]? = some c) : (i = k ∧ c = ⟨b.ad, b.tag, b.F.set m v⟩) ∨ (i ≠ k ∧ r.L[i]? = some c) := by
  have hl := (List.getElem?_eq_some_iff.1 hk).1
  unfold RS.put at h
  simp only at h
  by_cases e : i = k
  · subst e
    rw [List.getElem?_set_self hl] at h
    exact Or.inl ⟨rfl, by simpa using h.symm⟩
  · rw [List.getElem?_set_ne (fun c => e c.symm)] at h
    exact Or.inr ⟨e, h⟩
theorem rep_put {s : St} {r : RS} {x v : Int} {i k : Nat} {b : Blk} (h : Rep s r) (hk : r.L[k]? = some b) (hf : (s.find x).1 = b.ad) (hi : i < b.F.length) : s.fieldE x i = 0 ∧ Rep (s.put x i v) (r.put k b i v) := by
  have hin := h.inside hk
  have hE : s.fieldE x i = 0 := by
    unfold St.fieldE
    rw [hf, if_neg (by omega), (h.tagAt hk).2, if_neg (by omega)]
  refine ⟨hE, ?_⟩
  have hp : s.put x i v = St.mk s.n s.base s.top (fun j => if j = b.ad + i then v else s.C j) s.H := by
    unfold St.put
    rw [if_pos hE, hf, show ((b.ad : Int) + (i : Int)).toNat = b.ad + i from by omega]
  rw [hp]
  have hL : ∀ m, lenB ((r.put k b i v).L.take m) = lenB (r.L.take m) := lenB_set r.L k b _ hk (by simp)
  have hmay : ∀ (j : Nat) (c : Blk), (r.put k b i v).L[j]? = some c → St.mayLie c.tag = true := by
    intro j c hc
    rcases set_some hk hc with ⟨rfl, rfl⟩ | ⟨_, hc'⟩
    · exact h.may j b hk
    · exact h.may j c hc'
  refine { n := h.n, wh := h.wh, base := h.base, top := ?_, ad := ?_, head := ?_, fld := ?_, tag := ?_, may := hmay, hh := ?_ }
  · show s.top = s.base + lenB (r.put k b i v).L
    have := hL (r.put k b i v).L.length
    rw [List.take_length] at this
    have hl : (r.put k b i v).L.length = r.L.length := by simp [RS.put]
    rw [hl, List.take_length] at this
    rw [this]; exact h.top
  · intro j c hc
    rw [hL]
    rcases set_some hk hc with ⟨rfl, rfl⟩ | ⟨_, hc'⟩
    · exact h.ad j b hk
    · exact h.ad j c hc'
  · intro j c hc
    show (if c.ad - 1 = b.ad + i then v else s.C (c.ad - 1)) = _
    rcases set_some hk hc with ⟨rfl, rfl⟩ | ⟨ne, hc'⟩
    · rw [if_neg (by show ¬ (b.ad - 1 = b.ad + i); omega)]
      show s.C (b.ad - 1) = headW b.tag ((b.F.set i v).length : Nat)
      rw [List.length_set]
      exact h.head j b hk
    · have := h.inside hc'
      rw [if_neg]
      · exact h.head j c hc'
      · rcases Nat.lt_or_gt_of_ne ne with l | l
        · have := h.order hc' hk l; omega
        · have := h.order hk hc' l; omega
  · intro j c hc m x' hx
    show (if c.ad + m = b.ad + i then v else s.C (c.ad + m)) = _
    rcases set_some hk hc with ⟨rfl, rfl⟩ | ⟨ne, hc'⟩
    · have hx' : (b.F.set i v)[m]? = some x' := hx
      by_cases e : m = i
      · subst e
        rw [List.getElem?_set_self hi] at hx'
        rw [if_pos rfl]
        simpa using hx'
      · rw [List.getElem?_set_ne (fun c => e c.symm)] at hx'
        rw [if_neg (by show ¬ (b.ad + m = b.ad + i); omega)]
        exact h.fld j b hk m x' hx'
    · have hm := (List.getElem?_eq_some_iff.1 hx).1
      rw [if_neg]
      · exact h.fld j c hc' m x' hx
      · rcases Nat.lt_or_gt_of_ne ne with l | l
        · have := h.order hc' hk l; omega
        · have := h.order hk hc' l; omega
  · intro j c hc
    rcases set_some hk hc with ⟨rfl, rfl⟩ | ⟨ne, hc'⟩
    · have := h.tag j b hk
      refine ⟨this.1, this.2.1, ?_⟩
      show (b.F.set i v).length ≤ 4096
      rw [List.length_set]; exact this.2.2
    · exact h.tag j c hc'
  · intro j
    show s.H j = true ↔ _
    rw [h.hh j]
    constructor
    · rintro ⟨m, c, hc, e⟩
      by_cases em : m = k
      · subst em
        rw [hk] at hc
        have hbc : b = c := by simpa using hc
        subst hbc
        refine ⟨m, ⟨b.ad, b.tag, b.F.set i v⟩, ?_, e⟩
        unfold RS.put
        exact List.getElem?_set_self (List.getElem?_eq_some_iff.1 hk).1
      · exact ⟨m, c, by unfold RS.put; rw [List.getElem?_set_ne (fun c => em c.symm)]; exact hc, e⟩
    · rintro ⟨m, c, hc, e⟩
      rcases set_some hk hc with ⟨rfl, rfl⟩ | ⟨ne, hc'⟩
      · exact ⟨m, b, hk, e⟩
      · exact ⟨m, c, hc', e⟩
end Go.Proofs.Ytjnlfnecmiklhaa
