/-
  Several texts in one; each tells at its head what it proves, and on what condition. The last one: whatever is handed to OrderParts, it returns true. No condition.
-/
import Derived.Test.YtcbgjkedmboifabL6Awake
import Derived.Deep.RegionHeld3
import Derived.Test.YtcbgjkedmboifabRows
import Derived.WalkKit
import Derived.ProofKit
import Derived.OpenShut
import Derived.ShutString
import Derived.ChangeOld
import Derived.Below

/-
  Layer 6: where a statement is: its Values' own copies, and the layer, behind some lays. Condition: the Values lie in memory.
-/
namespace Go.Proofs.Ytcbgjkedmboifab
open Go.ChangeShapes Go.WideShapes Go.ChangeAt Go.RowKit Go.Deep
set_option linter.unusedVariables false
set_option maxHeartbeats 1000000

variable {w w' w0 w1 w2 : World} {lb : Nat} {p : Pl} {rb : Nat} {s : St} {r : RS} {had : List Int} {left : Int} {O : Nat → Prop} {j : Nat}
theorem VOk.below (k : Below w.heap.size w w') : ∀ (d : Nat) {cs : List Value}, VOk w d cs → VOk w' d cs
  | 0, _, _ => trivial
  | d + 1, cs, h => by
    obtain ⟨k', n, s, al, len, cap, h1, h2, h3, h4, h5, h6⟩ := h
    refine ⟨k', n, s, al, len, cap, h1, h2, h3, h4, h5, fun i hi => ?_⟩
    obtain ⟨a, c0, c1, c2, c3, q1, q2, q3, q4, q5, q6⟩ := h6 i hi
    have hc : ∀ {x : Addr} {v : Value}, w.cell? x = some v → w'.cell? x = some v := fun {x v} hx => (k.cell (p := x) (cell_lt hx)).trans hx
    exact ⟨a, c0, c1, c2, c3, q1, hc q2, hc q3, hc q4, hc q5, VOk.below k d q6⟩
/-- The layer lies there, made since w0, behind j lays. -/
structure LawIn (w0 w1 : World) (lb : Nat) (p : Pl) (rb : Nat) (s : St) (r : RS) (j : Nat) : Prop where
  ex : ∃ had left O, LaidIn w1 lb p rb s r had left O ∧ (∀ q, O q → w0.heap.size ≤ q) ∧ left ≤ 200 ∧ -7800 - (j : Int) ≤ phi left ∧ had.length + left.toNat ≤ 200
  below : Below w0.heap.size w0 w1
  p40 : P40 r
theorem LawIn.under (h : LawIn w0 w1 lb p rb s r j) (k : Below w1.heap.size w1 w2) : LawIn w0 w2 lb p rb s r j := by
  obtain ⟨had, left, O, h1, h2⟩ := h.ex
  exact ⟨⟨had, left, O, h1.under k, h2⟩, h.below.trans (k.mono h.below.size), h.p40⟩
theorem LawIn.ar (h : LawIn w0 w1 lb p rb s r j) : Ar w1 p s := by
  obtain ⟨had, left, O, h1, h2⟩ := h.ex
  exact (laid_rep h1).1
theorem LawIn.rep (h : LawIn w0 w1 lb p rb s r j) : Rep s r := by
  obtain ⟨had, left, O, h1, h2⟩ := h.ex
  exact (laid_rep h1).2
theorem LawIn.both (h : LawIn w0 w1 lb p rb s r j) : ∃ a cap V, Both w1 p s rb r a cap V := by
  obtain ⟨had, left, O, ⟨a, cap, V, hv, _, h2, _⟩, _⟩ := h.ex
  exact ⟨a, cap, V, h2.bo⟩
theorem LawIn.c0 (h : LawIn w0 w1 lb p rb s r j) : w1.cell? ⟨lb, 0, none⟩ = some (.pointer (some ⟨p.a, 0, none⟩)) := by
  obtain ⟨had, left, O, h1, h2⟩ := h.ex
  exact h1.cells.1
theorem LawIn.c1 (h : LawIn w0 w1 lb p rb s r j) : w1.cell? ⟨lb, 1, none⟩ = some (.pointer (some ⟨rb, 0, none⟩)) := by
  obtain ⟨had, left, O, h1, h2⟩ := h.ex
  exact h1.cells.2.1
theorem begin_law (w0 w1 : World) (hb : Below w0.heap.size w0 w1) : Calls Try.prog 7 #[] w1 fun e w2 => ∃ lb p rb, e = .returned (.pointer (some ⟨lb, 0, none⟩)) ∧ LawIn w0 w2 lb p rb (St.new 4000) ⟨4000, 0, []⟩ 0 := by
  refine (begin_any w1).mono ?_
  rintro e w2 ⟨lb, p, rb, O, rfl, h1, h2, h3⟩
  exact ⟨lb, p, rb, rfl, ⟨[], 200, O, h1, fun q hq => Nat.le_trans hb.size (h2 q hq), by omega, by decide, by decide⟩, hb.trans (h3.mono hb.size), fun b hb => by cases hb⟩
theorem lay_law {c0 c1 c2 c3 : Value} (w1 : World) (h : LawIn w0 w1 lb p rb s r j) (hv : VOk w0 201 [c0, c1, c2, c3]) (hj : j ≤ 100) :
    Calls Try.prog 8 #[.pointer (some ⟨lb, 0, none⟩), .agg #[c0, c1, c2, c3]] w1 fun e w2 => ∃ x s' r', e = .returned (.int .u64 x) ∧ R64 x ∧ LawIn w0 w2 lb p rb s' r' (j + 1) := by
  obtain ⟨had, left, O, h1, h2, h3, h4, h5⟩ := h.ex
  have ha : Apart w0 (fun q => q < w0.heap.size) w1 O := fun q hq => ⟨h.below.block q hq, fun c => by have := h2 q c; omega, Nat.lt_of_lt_of_le hq h.below.size⟩
  refine (lay_any 200 (by omega) h1 (by omega) (by omega) (by omega) h.p40 (vq_of 201 hv) ha).mono ?_
  rintro e w2 ⟨x, s', r', had', left', O', q1, q2, q3, q4, q5, q6, q7, q8⟩
  exact ⟨x, s', r', q1, q2, ⟨had', left', O', q3, q4.ge h.below.size h2, by omega, by omega, by omega⟩, h.below.trans (q4.below h.below.size h2), q5⟩
/-- A Value's own copy. -/
def BoxAt (w : World) (q : Nat) (k n : Int) (b : ByteArray) (al : Option Addr) (len cap : Nat) : Prop := w.heap[q]? = some (.cells #[.int .i64 k, .int .i64 n, .string b, .slice al len cap] 24 (0, 0))
theorem BoxAt.cells {q : Nat} {k n : Int} {b : ByteArray} {al : Option Addr} {len cap : Nat} (h : BoxAt w0 q k n b al len cap) (hb : Below w0.heap.size w0 w1) : w1.cell? ⟨q, 0, none⟩ = some (.int .i64 k) ∧ w1.cell? ⟨q, 1, none⟩ = some (.int .i64 n) ∧ w1.cell? ⟨q, 2, none⟩ = some (.string b) ∧ w1.cell? ⟨q, 3, none⟩ = some (.slice al len cap) := by
  have h1 := (hb.block q (lt_of_some h)).trans h
  simp [World.cell?, h1]
theorem box_one (w : World) (k n : Int) (b : ByteArray) (al : Option Addr) (len cap : Nat) : BoxAt (w.alloc (.cells #[.int .i64 k, .int .i64 n, .string b, .slice al len cap] 24)) w.heap.size k n b al len cap := blk_alloc_new _ _
theorem BoxAt.alloc {q : Nat} {k n : Int} {b : ByteArray} {al : Option Addr} {len cap : Nat} (h : BoxAt w q k n b al len cap) (o : Obj) : BoxAt (w.alloc o) q k n b al len cap := (blk_alloc_lt _ o _ (lt_of_some h)).trans h
theorem below_alloc (w : World) (o : Obj) : Below w.heap.size w (w.alloc o) := (Below.refl _ _).alloc (Nat.le_refl _) o
/-- Who is less is told by -1, 0 or 1. -/
theorem goC_three (nd : Int → Nd) (room : Int) : ∀ (k : Nat) (ws : List (Int × Int)), (goC nd room k ws).1 = -1 ∨ (goC nd room k ws).1 = 0 ∨ (goC nd room k ws).1 = 1
  | 0, [] => Or.inr (Or.inl rfl)
  | _ + 1, [] => Or.inr (Or.inl rfl)
  | 0, _ :: _ => Or.inr (Or.inl rfl)
  | k + 1, (x, y) :: ws => by
    rw [goC]
    split
    · exact Or.inr (Or.inl rfl)
    · split
      · have : ∀ x y, (pairOut nd x y).2.1 = -1 ∨ (pairOut nd x y).2.1 = 0 ∨ (pairOut nd x y).2.1 = 1 := fun x y => by
          unfold pairOut
          split
          · exact Or.inr (Or.inl rfl)
          · split
            · exact Or.inr (Or.inl rfl)
            · split
              · exact Or.inr (Or.inl rfl)
              · exact sgnL_three _ _
        exact this x y
      · split
        · exact Or.inr (Or.inl rfl)
        · exact goC_three nd room k _
theorem cmpC_three (nd : Int → Nd) (x y room steps : Int) : (cmpC nd x y room steps).1 = -1 ∨ (cmpC nd x y room steps).1 = 0 ∨ (cmpC nd x y room steps).1 = 1 := by
  unfold cmpC
  split
  · exact Or.inr (Or.inl rfl)
  · exact goC_three nd room _ _
/-- What was compared is plain. -/
theorem cmpC_plain {nd : Int → Nd} {x y room steps : Int} (hr : ¬ room < 2) (hs : 0 < steps) (h : (cmpC nd x y room steps).2.2 = 0) : (nd x).wrong = 0 ∧ (nd y).wrong = 0 := by
  unfold cmpC at h
  rw [if_neg hr] at h
  obtain ⟨k, hk⟩ : ∃ k, steps.toNat = k + 1 := ⟨steps.toNat - 1, by omega⟩
  rw [hk, goC] at h
  by_cases c : (pairOut nd x y).1 ≠ 0
  · rw [if_pos c] at h; exact absurd h c
  · exact pair_ok (Classical.byContradiction c)
end Go.Proofs.Ytcbgjkedmboifab

/-
  Layer 6: two rows of words beside the layer, and what OrderParts needs of them; plain: the first parts that differ decide. Condition: the layer and the rows lie in memory.
-/
namespace Go.Proofs.Ytcbgjkedmboifab
open Go.ChangeShapes Go.WideShapes Go.ChangeAt Go.RowKit Go.Deep
set_option linter.unusedVariables false
set_option maxHeartbeats 1000000

variable {w w' w0 w1 w2 w3 : World} {lb : Nat} {p : Pl} {rb : Nat} {s : St} {r : RS} {j : Nat} {O O' : Nat → Prop} {B : Nat}
/-- A row of Values, to a depth. -/
def VSOk (w : World) (d : Nat) (al : Option Addr) (len : Nat) : Prop := len ≤ maxLen ∧ ∀ i, i < len → ∃ (a : Addr) (c0 c1 c2 c3 : Value), al = some a ∧ w.cell? (a.add (i * 4)) = some c0 ∧ w.cell? ⟨(a.add (i * 4)).block, (a.add (i * 4)).off + 1, none⟩ = some c1 ∧ w.cell? ⟨(a.add (i * 4)).block, (a.add (i * 4)).off + 2, none⟩ = some c2 ∧ w.cell? ⟨(a.add (i * 4)).block, (a.add (i * 4)).off + 3, none⟩ = some c3 ∧ VOk w d [c0, c1, c2, c3]
theorem values_open {H : Type} {enc : TypeId × Value → H} {base : Nat} {spare : Nat → Bool} {held : Bool} (d : Nat) {fuel : Nat} {al : Option Addr} {len cap : Nat} {x : DataW H × List MemPlace} (h : DataW.trod enc Try.prog w base spare held fuel 22 [.slice al len cap] = some x) : VSOk w d al len := by
  rcases open_slice Try.underlying22 h with ⟨hcs, _⟩ | ⟨a, l, c, m, n, D, Pl, hcs, _, hl, hm, hmm, _, hx⟩
  · simp only [List.cons.injEq, Value.slice.injEq, and_true] at hcs
    obtain ⟨rfl, rfl, rfl⟩ := hcs
    exact ⟨Nat.zero_le _, fun i hi => absurd hi (Nat.not_lt_zero _)⟩
  · simp only [List.cons.injEq, Value.slice.injEq, and_true] at hcs
    obtain ⟨rfl, rfl, rfl⟩ := hcs
    have hlm : len ≤ m := by rw [hmm]; split <;> omega
    refine ⟨by omega, fun i hi => ?_⟩
    obtain ⟨cs', h1, h2⟩ := hx i (by omega)
    rw [cellsV6] at h1
    obtain ⟨_, hlen', hcell⟩ := World.cells?_some h1
    match cs', hlen' with
    | [d0, d1, d2, d3], _ =>
      have k0 := hcell 0 (by omega)
      have k1 := hcell 1 (by omega)
      have k2 := hcell 2 (by omega)
      have k3 := hcell 3 (by omega)
      rw [add_pos6] at k1 k2 k3
      exact ⟨a, d0, d1, d2, d3, rfl, k0, k1, k2, k3, value_open d h2⟩
/-- The layer lies there, behind j lays; O: all blocks that are its own. -/
structure PIn (w0 w1 : World) (lb : Nat) (p : Pl) (rb : Nat) (s : St) (r : RS) (j : Nat) (O : Nat → Prop) : Prop where
  laid : ∃ had left, LaidIn w1 lb p rb s r had left O ∧ left ≤ 200 ∧ -7800 - (j : Int) ≤ phi left ∧ had.length + left.toNat ≤ 200 + j
  ge : ∀ q, O q → w0.heap.size ≤ q
  below : Below w0.heap.size w0 w1
  p40 : P40 r
/-- A row of words of one's own. -/
structure RowIn (w : World) (O : Nat → Prop) (B : Nat) (v : Value) (F : List Int) : Prop where
  own : w.ownsRow 0 30 1 v F.length (F.map u64v)
  off : ∀ q, v.ownBlock = some q → ¬ O q ∧ B ≤ q
  rng : ∀ x, x ∈ F → R64 x
def RowsApart (v u : Value) : Prop := ∀ q, v.ownBlock = some q → u.ownBlock ≠ some q
theorem RowIn.grows {v : Value} {F : List Int} (h : RowIn w O B v F) (g : Grows O O' w w') : RowIn w' O' B v F := ⟨own_frame h.own g.only (fun q e => (h.off q e).1), lay_off h.own h.off g, h.rng⟩
theorem RowIn.under {v : Value} {F : List Int} (h : RowIn w O B v F) (k : Below w.heap.size w w') : RowIn w' O B v F := ⟨own_under h.own k, h.off, h.rng⟩
theorem PIn.under (h : PIn w0 w1 lb p rb s r j O) (k : Below w1.heap.size w1 w2) : PIn w0 w2 lb p rb s r j O := by
  obtain ⟨had, left, h1, h2⟩ := h.laid
  exact ⟨⟨had, left, h1.under k, h2⟩, h.ge, h.below.trans (k.mono h.below.size), h.p40⟩
theorem PIn.ar (h : PIn w0 w1 lb p rb s r j O) : Ar w1 p s := by
  obtain ⟨had, left, h1, h2⟩ := h.laid
  exact (laid_rep h1).1
theorem PIn.rep (h : PIn w0 w1 lb p rb s r j O) : Rep s r := by
  obtain ⟨had, left, h1, h2⟩ := h.laid
  exact (laid_rep h1).2
theorem PIn.c0 (h : PIn w0 w1 lb p rb s r j O) : w1.cell? ⟨lb, 0, none⟩ = some (.pointer (some ⟨p.a, 0, none⟩)) := by
  obtain ⟨had, left, h1, h2⟩ := h.laid
  exact h1.cells.1
theorem PIn.lt (h : PIn w0 w1 lb p rb s r j O) : ∀ q, O q → q < w1.heap.size := by
  obtain ⟨had, left, h1, h2⟩ := h.laid
  exact laid_lt h1
theorem begin_part (w0 w1 : World) (hb : Below w0.heap.size w0 w1) : Calls Try.prog 7 #[] w1 fun e w2 => ∃ lb p rb O, e = .returned (.pointer (some ⟨lb, 0, none⟩)) ∧ PIn w0 w2 lb p rb (St.new 4000) ⟨4000, 0, []⟩ 0 O := by
  refine (begin_any w1).mono ?_
  rintro e w2 ⟨lb, p, rb, O, rfl, h1, h2, h3⟩
  exact ⟨lb, p, rb, O, rfl, ⟨[], 200, h1, by omega, by decide, by decide⟩, fun q hq => Nat.le_trans hb.size (h2 q hq), hb.trans (h3.mono hb.size), fun b hb => by cases hb⟩
theorem lay_part {c0 c1 c2 c3 : Value} (w1 : World) (h : PIn w0 w1 lb p rb s r j O) (hv : VOk w0 201 [c0, c1, c2, c3]) (hj : j ≤ 100) :
    Calls Try.prog 8 #[.pointer (some ⟨lb, 0, none⟩), .agg #[c0, c1, c2, c3]] w1 fun e w2 => ∃ x s' r' O', e = .returned (.int .u64 x) ∧ R64 x ∧ PIn w0 w2 lb p rb s' r' (j + 1) O' ∧ Grows O O' w1 w2 := by
  obtain ⟨had, left, h1, h3, h4, h5⟩ := h.laid
  have ha : Apart w0 (fun q => q < w0.heap.size) w1 O := fun q hq => ⟨h.below.block q hq, fun c => by have := h.ge q c; omega, Nat.lt_of_lt_of_le hq h.below.size⟩
  refine (lay_any 200 (by omega) h1 (by omega) (by omega) (by omega) h.p40 (vq_of 201 hv) ha).mono ?_
  rintro e w2 ⟨x, s', r', had', left', O', q1, q2, q3, q4, q5, q6, q7, q8⟩
  exact ⟨x, s', r', O', q1, q2, ⟨⟨had', left', q3, by omega, by omega, by omega⟩, q4.ge h.below.size h.ge, h.below.trans (q4.below h.below.size h.ge), q5⟩, q4⟩
/-- A word more in a row. -/
theorem row_grown {g cq : Nat} {F G : List Int} {x : Int} {v u : Value} {o : Obj} (h : PIn w0 w2 lb p rb s r j O) (hv : RowIn w2 O w0.heap.size v F) (hu : RowIn w2 O w0.heap.size u G) (ha : RowsApart v u) (hx : R64 x) (gr : (w2.alloc o).grownBy w3 v.ownBlock) (hat : v.ownBlock = some g ∨ g = (w2.alloc o).heap.size) (hlt : g < w3.heap.size) (ho3 : w3.ownsRow 0 30 1 (.slice (some ⟨g, 0, none⟩) (F.length + 1) cq) (F.length + 1) (F.map u64v ++ [.int .u64 x])) :
    PIn w0 w3 lb p rb s r j O ∧ RowIn w3 O w0.heap.size (.slice (some ⟨g, 0, none⟩) (F.length + 1) cq) (F ++ [x]) ∧ RowIn w3 O w0.heap.size u G ∧ RowsApart (.slice (some ⟨g, 0, none⟩) (F.length + 1) cq) u := by
  have hb := below_alloc w2 o
  have k3 : Only (fun q => v.ownBlock = some q) (w2.alloc o) w3 := ⟨gr.os, gr.tape, gr.output, gr.size, fun i hi hs => gr.block i hi (fun e => hs e.symm)⟩
  have k2 : Only (fun q => v.ownBlock = some q) w2 w3 := (Only.of_below hb).trans k3
  obtain ⟨had, left, h1, h2⟩ := h.laid
  have hgo : ¬ O g ∧ w0.heap.size ≤ g := by
    rcases hat with c | c
    · exact hv.off g c
    · rw [nblk_alloc] at c
      have h5 := h.below.size
      exact ⟨fun c2 => by have := laid_lt h1 g c2; omega, by omega⟩
  refine ⟨⟨⟨had, left, (h1.under hb).frame k3 (fun q hq e => (hv.off q e).1 hq), h2⟩, h.ge, h.below.trans (k2.below h.below.size (fun q hq e => by have := (hv.off q e).2; omega)), h.p40⟩, ⟨?_, fun q e => ?_, fun y hy => ?_⟩, ⟨own_frame hu.own k2 (fun q e c => ha q c e), hu.off, hu.rng⟩, fun q e c => ?_⟩
  · rw [List.length_append, List.map_append]; exact ho3
  · have : g = q := by simpa [Value.ownBlock] using e
    rw [← this]; exact hgo
  · rcases List.mem_append.1 hy with c | c
    · exact hv.rng y c
    · rw [List.mem_singleton.1 c]; exact hx
  · have e2 : g = q := by simpa [Value.ownBlock] using e
    subst e2
    rcases hat with c2 | c2
    · exact ha g c2 c
    · rw [nblk_alloc] at c2
      have := (hu.own.lt g c).2
      omega
/-- What block of a row tells and makes. -/
def BlockP (w0 w1 : World) (lb : Nat) (p : Pl) (rb : Nat) (s : St) (r : RS) (j : Nat) (O : Nat → Prop) (F : List Int) (e : Ending) (w2 : World) : Prop :=
  ∃ x s' r' O', e = .returned (.int .u64 x) ∧ R64 x ∧ PIn w0 w2 lb p rb s' r' (j + 1) O' ∧ Grows O O' w1 w2 ∧ ((x = 1 ∧ r' = r) ∨ (x = 2 * ((s.top : Int) + 1) ∧ r' = r.more s 3 F))
theorem block_part {ao : Option Addr} {F : List Int} {n c : Nat} (w1 : World) (hj : j ≤ 1000) (h : PIn w0 w1 lb p rb s r j O) (hv : RowIn w1 O w0.heap.size (.slice ao n c) F) (hn : F.length = n) (hF : F.length ≤ 20) :
    Calls Try.prog 10 #[.pointer (some ⟨lb, 0, none⟩), .int .i64 3, .slice ao n c] w1 fun e w2 => BlockP w0 w1 lb p rb s r j O F e w2 := by
  subst hn
  obtain ⟨had, left, h1, h3, h4, h5⟩ := h.laid
  have htop := laid_top h1
  refine (block_any 3 w1 h1 (own_src (lv := .slice ao F.length c) hv.own rfl (fun q e => (hv.off q e).1) hv.rng) (by omega) (by omega)).mono ?_
  rintro e w2 (⟨q1, q2, O', q3, q4⟩ | ⟨q1, q2, s', O', q3, q4⟩)
  · exact ⟨1, s, r, O', q2, ⟨by decide, by decide⟩, ⟨⟨had, left, q3, h3, by omega, by omega⟩, q4.ge h.below.size h.ge, h.below.trans (q4.below h.below.size h.ge), h.p40⟩, q4, Or.inl ⟨rfl, rfl⟩⟩
  · refine ⟨_, s', _, O', q2, ⟨by omega, by omega⟩, ⟨⟨_, left, q3, h3, by omega, by rw [List.length_append]; simp only [List.length_singleton]; omega⟩, q4.ge h.below.size h.ge, h.below.trans (q4.below h.below.size h.ge), fun b hb ht => ?_⟩, q4, Or.inr ⟨rfl, rfl⟩⟩
    unfold RS.more at hb
    rcases List.mem_append.1 hb with c | c
    · exact h.p40 b c ht
    · rw [List.mem_singleton.1 c]; show F.length ≤ 40; omega
/-- No word has more than 40 parts. -/
theorem parts40 (hr : Rep s r) (h : P40 r) (x : Int) : (ndW s r x).parts.length ≤ 40 := by
  rcases nd_cases hr x with ⟨_, e⟩ | ⟨_, _, e⟩ | ⟨_, k, b, hk, hf, _, _, e⟩
  · rw [e]; exact Nat.zero_le _
  · rw [e]; exact Nat.zero_le _
  · rw [e]
    unfold ndB
    split
    · exact Nat.zero_le _
    · split
      · exact Nat.zero_le _
      · split
        · cases readT b.F <;> exact Nat.zero_le _
        · rename_i t
          exact h b (List.mem_of_getElem? hk) t
/-- What a word is that leads to a block of tag 3. -/
theorem nd_three (h : Rep s r) {k : Nat} {b : Blk} (hk : r.L[k]? = some b) (hb : b.tag = 3) (hx : (b.ad : Int) ≤ 65537) : ndW s r (2 * (b.ad : Int)) = .blk 3 b.F := by
  have hin := h.inside hk
  have ha : (b.ad : Int) = addrW (2 * (b.ad : Int)) := by unfold addrW; rw [if_neg (by omega)]; omega
  have hf := h.find_blk' hk ha
  have hl := leadI_some h hk (x := 2 * (b.ad : Int)) (by rw [hf])
  have hbk : blkAt r k = b := by unfold blkAt; rw [List.getD_eq_getElem?_getD, hk]; rfl
  unfold ndW
  rw [if_neg (by unfold isIntW; simp), hl]
  simp only [hbk]
  unfold ndB
  rw [hf, hb, if_neg (by decide), if_neg (Int.lt_irrefl 0), if_neg (by decide)]
/-- The first parts that differ decide. -/
theorem parts_cmp {nd : Int → Nd} {a b : Int} {F G : List Int} (hB : ∀ x, (nd x).parts.length ≤ 40) (ha : nd a = .blk 3 F) (hb : nd b = .blk 3 G) (hne : a ≠ b) (hl : F.length = G.length) (h20 : F.length ≤ 20) (h13 : (cmpC nd a b 1048576 10000).2.2 ≠ 13) :
    ((cmpC nd a b 1048576 10000).1, (cmpC nd a b 1048576 10000).2.2) = partsC nd 1048576 10000 (F.zip G) := by
  have hz : (F.zip G).length ≤ 20 := by rw [List.length_zip]; omega
  have hp := (po_blk hne ha hb).2.2 (by rw [hl]; exact sgn_self _)
  have e : cmpC nd a b 1048576 10000 = ((goC nd 1048576 9999 (F.zip G)).1, (goC nd 1048576 9999 (F.zip G)).2.1 + 1, (goC nd 1048576 9999 (F.zip G)).2.2) := by
    unfold cmpC
    rw [if_neg (by decide)]
    show goC nd 1048576 (9999 + 1) [(a, b)] = _
    rw [goC_next hp (fun _ => by simp only [List.length_nil]; omega), List.append_nil]
  rw [e] at h13 ⊢
  exact parts_row nd 40 hB 1048576 10000 (F.zip G) 9999 (by omega) (by omega) h13
end Go.Proofs.Ytcbgjkedmboifab

/-
  OrderParts: of two blocks of one tag and size the first parts that differ decide. Condition: the Values lie in memory.
-/
namespace Go.Proofs.Ytcbgjkedmboifab
open Go.ChangeShapes Go.WideShapes Go.ChangeAt Go.RowKit Go.Deep
set_option linter.unusedVariables false
set_option maxHeartbeats 1000000

variable {w w' w0 w1 w2 w3 : World} {lb : Nat} {p : Pl} {rb : Nat} {s : St} {r : RS} {j : Nat} {O O' : Nat → Prop} {B : Nat}
/-- Where the first loop is. -/
def PartsTill (w0 : World) (lb : Nat) (p : Pl) (rb : Nat) (n : Nat) (xv yv iv : Value) (wr : World) : Prop :=
  ∃ (i : Nat) (F G : List Int) (s : St) (r : RS) (O : Nat → Prop), i ≤ n ∧ iv = .int .i64 i ∧ F.length = i ∧ G.length = i ∧ PIn w0 wr lb p rb s r (2 * i) O ∧ RowIn wr O w0.heap.size xv F ∧ RowIn wr O w0.heap.size yv G ∧ RowsApart xv yv
theorem row_empty (w : World) (O : Nat → Prop) (hO : ∀ q, O q → q < w.heap.size) (hB : B ≤ w.heap.size) : RowIn (w.alloc (.cells #[] 30)) O B (.slice (some ⟨w.heap.size, 0, none⟩) 0 0) [] :=
  ⟨⟨rfl, Or.inr ⟨w.heap.size, 0, #[], rfl, Nat.zero_le _, blk_alloc_new _ _, Nat.le_refl _, Nat.zero_le _, rfl, rfl⟩⟩, fun q e => by
    have e2 : w.heap.size = q := by simpa [Value.ownBlock] using e
    subst e2
    exact ⟨fun c => Nat.lt_irrefl _ (hO _ c), hB⟩, fun x hx => by cases hx⟩
theorem RowsApart.symm {v u : Value} (h : RowsApart v u) : RowsApart u v := fun q e c => h q c e
theorem own_at {v : Value} {F : List Int} {i : Nat} (h : F.length = i) (ho : w.ownsRow 0 30 1 v F.length (F.map u64v)) : w.ownsRow 0 30 1 v i (F.map u64v) := by rw [← h]; exact ho
theorem row_one {g cq i : Nat} {F G : List Int} {x : Int} {v u : Value} {o : Obj} (hi : F.length = i) (h : PIn w0 w2 lb p rb s r j O) (hv : RowIn w2 O w0.heap.size v F) (hu : RowIn w2 O w0.heap.size u G) (ha : RowsApart v u) (hx : R64 x) (gr : (w2.alloc o).grownBy w3 v.ownBlock) (hat : v.ownBlock = some g ∨ g = (w2.alloc o).heap.size) (hlt : g < w3.heap.size) (ho3 : w3.ownsRow 0 30 1 (.slice (some ⟨g, 0, none⟩) (i + 1) cq) (i + 1) (F.map u64v ++ [.int .u64 x])) :
    PIn w0 w3 lb p rb s r j O ∧ RowIn w3 O w0.heap.size (.slice (some ⟨g, 0, none⟩) (i + 1) cq) (F ++ [x]) ∧ RowIn w3 O w0.heap.size u G ∧ RowsApart (.slice (some ⟨g, 0, none⟩) (i + 1) cq) u := by
  subst hi
  exact row_grown h hv hu ha hx gr hat hlt ho3
/-- What the two blocks are. -/
theorem parts_state {w5 w6 : World} {s5 s6 : St} {r5 r6 : RS} {j5 j6 : Nat} {O5 O6 : Nat → Prop} {F G : List Int} {a b : Int} {n : Nat} (h : PIn w0 w lb p rb s r j O) (h5 : PIn w0 w5 lb p rb s5 r5 j5 O5) (h6 : PIn w0 w6 lb p rb s6 r6 j6 O6) (c5 : (a = 1 ∧ r5 = r) ∨ (a = 2 * ((s.top : Int) + 1) ∧ r5 = r.more s 3 F)) (c6 : (b = 1 ∧ r6 = r5) ∨ (b = 2 * ((s5.top : Int) + 1) ∧ r6 = r5.more s5 3 G)) (ha : a ≠ 1) (hb : b ≠ 1) (hF : F.length = n) (hG : G.length = n) :
    ndW s6 r6 a = .blk 3 F ∧ ndW s6 r6 b = .blk 3 G ∧ a ≠ b := by
  rcases c5 with ⟨c, _⟩ | ⟨rfl, rfl⟩
  · exact absurd c ha
  rcases c6 with ⟨c, _⟩ | ⟨rfl, rfl⟩
  · exact absurd c hb
  have k1 : ((r.more s 3 F).more s5 3 G).L[r.L.length]? = some ⟨s.top + 1, 3, F⟩ := by unfold RS.more; simp
  have k2 : ((r.more s 3 F).more s5 3 G).L[r.L.length + 1]? = some ⟨s5.top + 1, 3, G⟩ := by unfold RS.more; simp
  have t1 : (s.top : Int) ≤ 65536 := by obtain ⟨_, _, q, _⟩ := h.laid; exact laid_top q
  have t2 : (s5.top : Int) ≤ 65536 := by obtain ⟨_, _, q, _⟩ := h5.laid; exact laid_top q
  have n1 := nd_three h6.rep k1 rfl (by show ((s.top + 1 : Nat) : Int) ≤ _; omega)
  have n2 := nd_three h6.rep k2 rfl (by show ((s5.top + 1 : Nat) : Int) ≤ _; omega)
  have e1 : 2 * (((⟨s.top + 1, 3, F⟩ : Blk).ad : Nat) : Int) = 2 * ((s.top : Int) + 1) := by show 2 * ((s.top + 1 : Nat) : Int) = _; omega
  have e2 : 2 * (((⟨s5.top + 1, 3, G⟩ : Blk).ad : Nat) : Int) = 2 * ((s5.top : Int) + 1) := by show 2 * ((s5.top + 1 : Nat) : Int) = _; omega
  rw [e1] at n1
  rw [e2] at n2
  refine ⟨n1, n2, fun e => ?_⟩
  have := h6.rep.inj k1 k2 (by show s.top + 1 = s5.top + 1; omega)
  omega
/-- Where the second loop is. -/
def Parts2 (w0 : World) (lb : Nat) (p : Pl) (rb : Nat) (s : St) (r : RS) (O : Nat → Prop) (j : Nat) (xv yv : Value) (F G : List Int) (n : Nat) (wv fv iv : Value) (wr : World) : Prop :=
  ∃ (i : Nat) (W f : Int), i ≤ n ∧ iv = .int .i64 i ∧ wv = .int .i64 W ∧ fv = .int .i64 f ∧ (if W = 0 ∧ f = 0 then partsC (ndW s r) 1048576 10000 (F.zip G) = partsC (ndW s r) 1048576 10000 ((F.zip G).drop i) else partsC (ndW s r) 1048576 10000 (F.zip G) = (W, f)) ∧ PIn w0 wr lb p rb s r j O ∧ RowIn wr O w0.heap.size xv F ∧ RowIn wr O w0.heap.size yv G
theorem row_at {ao : Option Addr} {n c i : Nat} {F : List Int} (h : RowIn w O B (.slice ao n c) F) (hl : F.length = n) (hi : i < n) : ∃ g, ao = some ⟨g, 0, none⟩ ∧ w.cell? ⟨g, i, none⟩ = some (.int .u64 (F.getD i 0)) ∧ 0 ≤ F.getD i 0 ∧ F.getD i 0 ≤ 18446744073709551615 := by
  subst hl
  obtain ⟨g, c', e, _, hlt⟩ := h.own.form (by omega)
  simp only [Value.slice.injEq] at e
  obtain ⟨rfl, _, rfl⟩ := e
  have hr := h.rng (F.getD i 0) (by rw [List.getD_eq_getElem?_getD, List.getElem?_eq_getElem hi]; exact List.getElem_mem _)
  exact ⟨g, rfl, by rw [h.own.cellAt i (by omega), List.getElem?_map, List.getElem?_eq_getElem hi, List.getD_eq_getElem?_getD, List.getElem?_eq_getElem hi]; rfl, hr.1, hr.2⟩
/-- A Value of a row that came in. -/
theorem value_at {al : Option Addr} {len i : Nat} (h : VSOk w0 201 al len) (hi : i < len) (hb : Below w0.heap.size w0 w1) : ∃ (a : Addr) (c0 c1 c2 c3 : Value), al = some a ∧ w1.cell? (a.add (i * 4)) = some c0 ∧ w1.cell? ⟨(a.add (i * 4)).block, (a.add (i * 4)).off + 1, none⟩ = some c1 ∧ w1.cell? ⟨(a.add (i * 4)).block, (a.add (i * 4)).off + 2, none⟩ = some c2 ∧ w1.cell? ⟨(a.add (i * 4)).block, (a.add (i * 4)).off + 3, none⟩ = some c3 ∧ VOk w0 201 [c0, c1, c2, c3] := by
  obtain ⟨a, c0, c1, c2, c3, q1, q2, q3, q4, q5, q6⟩ := h.2 i hi
  have hc : ∀ {x : Addr} {v : Value}, w0.cell? x = some v → w1.cell? x = some v := fun {x v} hx => (hb.cell (p := x) (cell_lt hx)).trans hx
  exact ⟨a, c0, c1, c2, c3, q1, hc q2, hc q3, hc q4, hc q5, q6⟩
set_option maxRecDepth 100000 in
set_option maxHeartbeats 20000000 in
theorem parts_any {al : Option Addr} {len cap : Nat} {al' : Option Addr} {len' cap' : Nat} (w0 : World) (hv : VSOk w0 201 al len) (hv' : VSOk w0 201 al' len') :
    Calls Try.prog 4 #[.slice al len cap, .slice al' len' cap'] w0 fun e w' => e = .returned (.bool true) ∧ Below w0.heap.size w0 w' := by
  obtain ⟨n, hn⟩ : ∃ n, n = min (min len len') 20 := ⟨_, rfl⟩
  have hl1 : (len : Int) ≤ 9223372036854775807 := by have := hv.1; unfold maxLen at this; omega
  have hl2 : (len' : Int) ≤ 9223372036854775807 := by have := hv'.1; unfold maxLen at this; omega
  have HV := hidden hv
  have HV' := hidden hv'
  have HN := hidden hn
  have hn20 : n ≤ 20 := by rw [hn]; exact Nat.min_le_right _ _
  clear hv hv'
  have hmin : ∀ w', Sem.run Try.prog (Builtin.min_ #[3, 3, 3] 3 #[.int .i64 (len : Int), .int .i64 (len' : Int), .int .i64 20]) w' = .ok (.int .i64 (n : Int)) w' := fun w' => by
    have e : (if (20 : Int) < (if (len' : Int) < (len : Int) then (len' : Int) else (len : Int)) then (20 : Int) else (if (len' : Int) < (len : Int) then (len' : Int) else (len : Int))) = (n : Int) := by
      rw [hn]
      split <;> split at * <;> omega
    rw [← e]
    rfl
  clear hn
  go_enter Try.func4, Try.ntmps4
  go_upto_region 3 with (go_at_call 6; refine (awake_any _).mono ?_; rintro e w1 ⟨rfl, hb1⟩; have B1 := hidden hb1; clear hb1)
  go_upto_region 4 with fail
  clear hmin hl1 hl2
  go_upto_region 5 with (go_at_call 7; refine (begin_part w0 _ B1.out).mono ?_; rintro e w2 ⟨lb, p, rb, O2, rfl, h2⟩; have P2 := hidden h2; clear h2)
  have Z1 := hidden (row_empty (B := w0.heap.size) w2 O2 P2.out.lt P2.out.below.size)
  have Z2 := hidden (row_empty (B := w0.heap.size) (w2.alloc (.cells #[] 30)) O2 (fun q hq => by rw [nblk_alloc]; have := P2.out.lt q hq; omega) (by rw [nblk_alloc]; have := P2.out.below.size; omega))
  have Z3 := hidden (Z1.out.under (below_alloc _ (.cells #[] 30)))
  have P3 := hidden ((P2.out.under (below_alloc _ (.cells #[] 30))).under (below_alloc _ (.cells #[] 30)))
  clear Z1 P2 B1
  go_wp2_with fail
  go_loopw [7, 8, 9] (fun xv yv iv wr => PartsTill w0 lb p rb n xv yv iv wr) (fun _ _ iv _ => n - (intOf iv).toNat)
  case atStart =>
    refine ⟨0, [], [], _, _, O2, Nat.zero_le _, rfl, rfl, rfl, P3.out, Z3.out, ?_, ?_⟩
    · have := Z2.out
      rw [nblk_alloc] at this
      exact this
    · intro q e c
      simp [Value.ownBlock] at e c
      omega
  case round =>
    clear P3 Z2 Z3
    obtain ⟨i, F, G, s, r, O, hi, rfl, hF, hG, hP, hX, hY, hA⟩ := hrel
    obtain ⟨ao, ca, rfl, _, _⟩ := own_sl hX.own
    obtain ⟨bo, cb, rfl, _, _⟩ := own_sl hY.own
    rw [hF] at hX hA ⊢
    rw [hG] at hY hA ⊢
    have HF := hidden hF
    have HG := hidden hG
    have HP := hidden hP
    have HX := hidden hX
    have HY := hidden hY
    have HA := hidden hA
    clear hF hG hP hX hY hA
    by_cases hlt : i < n
    · have z1 : (i : Int) < (n : Int) := by omega
      have i1 : i < len := by have := HN.out; omega
      have i2 : i < len' := by have := HN.out; omega
      have j1 : (i : Int) < (len : Int) := by omega
      have j2 : (i : Int) < (len' : Int) := by omega
      obtain ⟨ad, v0, v1, v2, v3, rfl, k0, k1, k2, k3, hc⟩ := value_at HV.out i1 HP.out.below
      have HC := hidden hc
      clear hc
      go_upto_region 11 with (first
        | (at_builtin; refine appendW _ rfl (.tmp 33) (.tmp 40) rfl (.slice ao i ca) i _ rfl (X5.out.alloc _) ⟨w5.heap.size, 0, none⟩ 1 x rfl (by simp [Addr.add]) (by omega) ?_; intro g cq w6 ho6 gr6 hat6 hlt6; have M6 := hidden (row_one HF.out P5.out RX5.out RY5.out HA.out HXR.out gr6 hat6 hlt6 ho6); clear ho6 gr6 hat6 hlt6)
        | (go_at_call 8; refine (lay_part _ HP.out HC.out (by omega)).mono ?_; rintro e w5 ⟨x, s5, r5, O5, rfl, hx5, p5, g5⟩; have P5 := hidden p5; have RX5 := hidden (HX.out.grows g5); have RY5 := hidden (HY.out.grows g5); have X5 := hidden (own_at HF.out RX5.out.own); have HXR := hidden hx5; clear p5 g5 hx5))
      clear k0 k1 k2 k3
      obtain ⟨p6, x6, y6, a6⟩ := M6.out
      have P6 := hidden p6
      have X6 := hidden x6
      have Y6 := hidden y6
      have A6 := hidden a6
      clear M6 p6 x6 y6 a6
      obtain ⟨ad', u0, u1, u2, u3, rfl, m0, m1, m2, m3, hc'⟩ := value_at HV'.out i2 P6.out.below
      have HC' := hidden hc'
      clear hc'
      go_wp2_with (first
        | (at_builtin; refine appendW _ rfl (.tmp 42) (.tmp 49) rfl (.slice bo i cb) i _ rfl (Y7.out.alloc _) ⟨w7.heap.size, 0, none⟩ 1 y rfl (by simp [Addr.add]) (by omega) ?_; intro g' cq' w8 ho8 gr8 hat8 hlt8; have M8 := hidden (row_one HG.out P7.out RY7.out RX7.out A6.out.symm HYR.out gr8 hat8 hlt8 ho8); clear ho8 gr8 hat8 hlt8)
        | (go_at_call 8; refine (lay_part _ P6.out HC'.out (by omega)).mono ?_; rintro e w7 ⟨y, s7, r7, O7, rfl, hy7, p7, g7⟩; have P7 := hidden p7; have RX7 := hidden (X6.out.grows g7); have RY7 := hidden (Y6.out.grows g7); have Y7 := hidden (own_at HG.out RY7.out.own); have HYR := hidden hy7; clear p7 g7 hy7))
      all_goals go_roundw
      case rel =>
        obtain ⟨p8, y8, x8, a8⟩ := M8.out
        exact ⟨i + 1, F ++ [x], G ++ [y], s7, r7, O7, by omega, by go_num, by rw [List.length_append, HF.out]; rfl, by rw [List.length_append, HG.out]; rfl, p8, x8, y8, a8.symm⟩
      case measure => simp [intOf]; omega
    · have ei : i = n := by omega
      subst ei
      have z1 : ¬ (i : Int) < (i : Int) := by omega
      go_upto_region 14 with (first
        | (go_at_call 10; refine (block_part _ (by omega) P5.out RY5.out HG.out (by rw [HG.out]; omega)).mono ?_; rintro e w6 ⟨b, s6, r6, O6, rfl, hb6, p6, g6, hr6⟩; have P6 := hidden p6; have HB6 := hidden hb6; have RX6 := hidden (RX5.out.grows g6); have RY6 := hidden (RY5.out.grows g6); have HR6 := hidden hr6; clear p6 g6 hr6 hb6)
        | (go_at_call 10; refine (block_part _ (by omega) HP.out HX.out HF.out (by rw [HF.out]; omega)).mono ?_; rintro e w5 ⟨a, s5, r5, O5, rfl, hb5, p5, g5, hr5⟩; have P5 := hidden p5; have HA5 := hidden hb5; have RX5 := hidden (HX.out.grows g5); have RY5 := hidden (HY.out.grows g5); have HR5 := hidden hr5; clear p5 g5 hr5 hb5))
      by_cases a1 : a = 1
      · have b1 : (a == 1) = true := by rw [a1]; rfl
        clear a1
        go_wp2_with fail
        all_goals go_ret
        all_goals exact ⟨rfl, P6.out.below⟩
      · by_cases b1 : b = 1
        · have b2 : (a == 1) = false := beq_eq_false_iff_ne.2 a1
          have b3 : (b == 1) = true := by rw [b1]; rfl
          clear a1 b1
          go_wp2_with fail
          all_goals go_ret
          all_goals exact ⟨rfl, P6.out.below⟩
        · have b2 : (a == 1) = false := beq_eq_false_iff_ne.2 a1
          have b3 : (b == 1) = false := beq_eq_false_iff_ne.2 b1
          have HST := hidden (parts_state HP.out P5.out P6.out HR5.out HR6.out a1 b1 HF.out HG.out)
          obtain ⟨u0, u1⟩ := HA5.out
          obtain ⟨t0, t1⟩ := HB6.out
          have HB40 : Hid (∀ x, (ndW s6 r6 x).parts.length ≤ 40) := fun x => parts40 P6.out.rep P6.out.p40 x
          obtain ⟨⟨C, S, E⟩, hC⟩ : ∃ t, cmpC (ndW s6 r6) a b 1048576 10000 = t := ⟨_, rfl⟩
          have HPC : Hid (E ≠ 13 → (C, E) = partsC (ndW s6 r6) 1048576 10000 (F.zip G)) := fun hE => by
            have := parts_cmp HB40.out HST.out.1 HST.out.2.1 HST.out.2.2 (by rw [HF.out, HG.out]) (by rw [HF.out]; exact hn20) (by rw [hC]; exact hE)
            rw [hC] at this
            exact this
          have HC := hidden hC
          have R6 := hidden P6.out.rep
          have A6 := hidden P6.out.ar
          have c0 := P6.out.c0
          clear hC a1 b1 HA5 HB6 HR5 HR6 HST HP HX HY P5 RX5 RY5
          go_upto_region 17 with (go_at_call 9; refine (compare_is a b 1048576 10000 _ A6.out R6.out u0 u1 t0 t1 (by omega) HC.out).mono ?_; rintro e w7 ⟨rfl, hb7⟩; have B7 := hidden hb7; clear hb7)
          have P7 := hidden (P6.out.under B7.out)
          have X7 := hidden (RX6.out.under B7.out)
          have Y7 := hidden (RY6.out.under B7.out)
          clear c0 B7 P6 RX6 RY6 A6 HC
          go_wp2_with fail
          go_loopw [15, 16, 17] (fun wv fv iv wr => Parts2 w0 lb p rb s6 r6 O6 (2 * i + 1 + 1) (.slice ao i ca) (.slice bo i cb) F G i wv fv iv wr) (fun _ _ iv _ => i - (intOf iv).toNat)
          case atStart => exact ⟨0, 0, 0, Nat.zero_le _, rfl, rfl, rfl, by rw [if_pos ⟨rfl, rfl⟩]; rfl, P7.out, X7.out, Y7.out⟩
          case round =>
            clear P7 X7 Y7
            obtain ⟨l, W, f, hl, rfl, rfl, rfl, hI, hP, hX, hY⟩ := hrel
            have HI := hidden hI
            have HP := hidden hP
            have HX := hidden hX
            have HY := hidden hY
            clear hI hP hX hY
            by_cases hgo : l < i ∧ W = 0 ∧ f = 0
            · obtain ⟨hlt, rfl, rfl⟩ := hgo
              have z2 : (l : Int) < (i : Int) := by omega
              obtain ⟨gx, rfl, kx, xr0, xr1⟩ := row_at HX.out HF.out hlt
              obtain ⟨gy, rfl, ky, yr0, yr1⟩ := row_at HY.out HG.out hlt
              have hzip := zip_at (F := F) (G := G) (k := l) (by rw [HF.out, HG.out]) (by rw [HF.out]; exact hlt)
              obtain ⟨X, hXX⟩ : ∃ X, F.getD l 0 = X := ⟨_, rfl⟩
              obtain ⟨Y, hYY⟩ : ∃ Y, G.getD l 0 = Y := ⟨_, rfl⟩
              rw [hXX] at kx xr0 xr1 hzip
              rw [hYY] at ky yr0 yr1 hzip
              obtain ⟨⟨C2, S2, E2⟩, hC2⟩ : ∃ t, cmpC (ndW s6 r6) X Y 1048576 10000 = t := ⟨_, rfl⟩
              have HC2 := hidden hC2
              have HI2 : Hid (if C2 = 0 ∧ E2 = 0 then partsC (ndW s6 r6) 1048576 10000 (F.zip G) = partsC (ndW s6 r6) 1048576 10000 ((F.zip G).drop (l + 1)) else partsC (ndW s6 r6) 1048576 10000 (F.zip G) = (C2, E2)) := by
                have h9 := HI.out
                rw [if_pos ⟨rfl, rfl⟩, hzip] at h9
                have e9 : goC (ndW s6 r6) 1048576 10000 [(X, Y)] = (C2, S2, E2) := by rw [← hC2]; unfold cmpC; rw [if_neg (by decide)]; rfl
                show if C2 = 0 ∧ E2 = 0 then _ else _
                rw [partsC, e9] at h9
                by_cases hc : C2 = 0 ∧ E2 = 0
                · rw [if_pos hc] at h9 ⊢; exact h9
                · rw [if_neg hc] at h9 ⊢; exact h9
              have c0 := HP.out.c0
              have A7 : Hid (Ar wr.drew p s6) := HP.out.ar.drewN 1
              have D7 : Hid (Below wr.heap.size wr wr.drew) := below_drews wr 1
              have HKP : Hid (∀ wz, Below wr.heap.size wr wz → wz.cell? ⟨lb, 0, none⟩ = some (.pointer (some ⟨p.a, 0, none⟩)) ∧ wz.cell? ⟨gx, l, none⟩ = some (.int .u64 X) ∧ wz.cell? ⟨gy, l, none⟩ = some (.int .u64 Y)) := fun wz bz => ⟨(bz.cell (p := ⟨lb, 0, none⟩) (cell_lt c0)).trans c0, (bz.cell (p := ⟨gx, l, none⟩) (cell_lt kx)).trans kx, (bz.cell (p := ⟨gy, l, none⟩) (cell_lt ky)).trans ky⟩
              clear hzip hXX hYY hC2 HI
              go_upto_region 22 with fail
              go_region_held3 (fun w' => w'.cell? ⟨lb, 0, none⟩ = some (.pointer (some ⟨p.a, 0, none⟩)) ∧ w'.cell? ⟨gx, l, none⟩ = some (.int .u64 X) ∧ w'.cell? ⟨gy, l, none⟩ = some (.int .u64 Y)) (go_keep) (first
                | (go_at_call 9; refine (compare_is X Y 1048576 10000 _ A7.out R6.out xr0 xr1 yr0 yr1 (by omega) HC2.out).mono ?_; rintro e w8 ⟨rfl, hb⟩; have B8 : Hid (Below wr.heap.size wr w8) := D7.out.trans (hb.mono D7.out.size); obtain ⟨f1, f2, f3⟩ := HKP.out _ B8.out; clear hb))
              go_wp2_with fail
              all_goals go_roundw
              case rel => exact ⟨l + 1, C2, E2, by omega, by go_num, rfl, rfl, HI2.out, HP.out.under B8.out, HX.out.under B8.out, HY.out.under B8.out⟩
              case measure => simp [intOf]; omega
            · have HFIN : Hid (partsC (ndW s6 r6) 1048576 10000 (F.zip G) = (W, f)) := by
                show _ = _
                have h9 := HI.out
                by_cases hc : W = 0 ∧ f = 0
                · rw [if_pos hc] at h9
                  have : i ≤ l := Classical.byContradiction (fun c => hgo ⟨by omega, hc⟩)
                  rw [h9, List.drop_of_length_le (by rw [List.length_zip, HF.out, HG.out]; omega), hc.1, hc.2]; rfl
                · rw [if_neg hc] at h9; exact h9
              have HEQ : Hid (E ≠ 13 → C = W ∧ E = f) := fun hE => by
                have := HPC.out hE
                rw [HFIN.out] at this
                simpa using this
              have BF := hidden HP.out.below
              clear HI HP HX HY HFIN HPC
              by_cases c1 : (l : Int) < (i : Int)
              · by_cases c2 : W = 0
                · have c3 : (f == 0) = false := beq_eq_false_iff_ne.2 (fun c => hgo ⟨by omega, c2, c⟩)
                  subst c2
                  clear hgo
                  go_upto_region 23 with fail
                  by_cases hE : E = 13
                  · have e1 : (E == 13) = true := by rw [hE]; rfl
                    clear HEQ hE
                    go_wp2_with fail
                    all_goals go_ret
                    all_goals exact ⟨rfl, BF.out⟩
                  · have e1 : (E == 13) = false := beq_eq_false_iff_ne.2 hE
                    obtain ⟨q1, q2⟩ := HEQ.out hE
                    clear HEQ
                    subst q1 q2
                    go_wp2_with fail
                    all_goals go_ret
                    all_goals exact ⟨by simp, BF.out⟩
                · have c3 : (W == 0) = false := beq_eq_false_iff_ne.2 c2
                  clear hgo c2
                  go_upto_region 23 with fail
                  by_cases hE : E = 13
                  · have e1 : (E == 13) = true := by rw [hE]; rfl
                    clear HEQ hE
                    go_wp2_with fail
                    all_goals go_ret
                    all_goals exact ⟨rfl, BF.out⟩
                  · have e1 : (E == 13) = false := beq_eq_false_iff_ne.2 hE
                    obtain ⟨q1, q2⟩ := HEQ.out hE
                    clear HEQ
                    subst q1 q2
                    go_wp2_with fail
                    all_goals go_ret
                    all_goals exact ⟨by simp, BF.out⟩
              · clear hgo
                go_upto_region 23 with fail
                by_cases hE : E = 13
                · have e1 : (E == 13) = true := by rw [hE]; rfl
                  clear HEQ hE
                  go_wp2_with fail
                  all_goals go_ret
                  all_goals exact ⟨rfl, BF.out⟩
                · have e1 : (E == 13) = false := beq_eq_false_iff_ne.2 hE
                  obtain ⟨q1, q2⟩ := HEQ.out hE
                  clear HEQ
                  subst q1 q2
                  go_wp2_with fail
                  all_goals go_ret
                  all_goals exact ⟨by simp, BF.out⟩
end Go.Proofs.Ytcbgjkedmboifab

/-
  Proved: whatever two rows of Values are handed to OrderParts, it returns true. No condition.
-/
namespace Go.Proofs.Ytcbgjkedmboifab.orderParts
open Go.ChangeShapes Go.WideShapes Go.ChangeAt Go.RowKit
open Go.ChangeMaps (open_string shut_string)
set_option linter.unusedVariables false

theorem own : ownKnob Try.prog.godebug = none := by kernel_rfl
theorem laidOut : laidOutB Try.prog = true := by kernel_rfl

theorem walk (a0 : Option Addr) (len0 cap0 : Nat) (a1 : Option Addr) (len1 cap1 : Nat) (w : World) (vk0 : VSOk w 201 a0 len0) (vk1 : VSOk w 201 a1 len1) :
    Calls Try.prog 4 #[.slice a0 len0 cap0, .slice a1 len1 cap1] w fun e w' => e = .returned (.bool true) ∧ Below w.heap.size w w' := by
  exact parts_any w vk0 vk1

set_option maxRecDepth 100000 in
theorem lifted (os : Os) (started : os.Started) (H : Type) (enc : TypeId × Value → H) :
    ReturnsInHanded {} Try.checked os 4 .any (Rows.orderPartsSpec.pre6 enc Try.prog Try.f4 Rows.orderPartsRow.domain false) (Rows.orderPartsSpec.post enc Try.prog Try.f4 false true false false) := by
  refine returnsInHanded_of_change (C := Try.checked) own started (by kernel_rfl) Try.func4
    (ChangeSpec.witness6 (enc := enc) (C := Try.checked) false ⟨#[], #[.slice none 0 0, .slice none 0 0], []⟩ 8 (by kernel_rfl) (by kernel_rfl) (by kernel_rfl) (by kernel_rfl)) ?_
  intro W base args ds gs before hval0 hW hcnd _
  have hval : ∀ (j : Nat) t v, Try.f4.params[j]? = some t → args[j]? = some v → Value.okWide Try.prog W .any base t v := hval0
  have hW' := hW
  obtain ⟨p, q, hA0, hV, rfl, hfz, hnd⟩ := hW
  have hA : DataW.TrodAll enc Try.prog W 0 (fun _ => true) true Try.f4.params.toList args.toList ds p := hA0
  rw [Try.params4] at hA hval
  obtain ⟨v0, vs0, d0, ds0, p0, q0, hargs, rfl, rfl, h0, r0⟩ := trodAll_cons hA
  obtain ⟨v1, vs1, d1, ds1, p1, q1, rfl, rfl, rfl, h1, r1⟩ := trodAll_cons r0
  obtain ⟨rfl, rfl, rfl⟩ := trodAll_nil r1
  obtain rfl : args = #[v0, v1] := by cases args; simp_all
  obtain ⟨rfl, rfl⟩ := trodVars_none hV
  obtain ⟨a0, len0, cap0, rfl⟩ := okWide_slice Try.underlying22 (hval 0 22 v0 rfl rfl)
  have k0 := h0
  have lt0 : ∀ x ∈ p0, x.block < W.heap.size := by obtain ⟨m, hm⟩ := k0; exact DataW.trod_lt m _ _ _ hm
  have vk0 : VSOk W 201 a0 len0 := by obtain ⟨fuel, hf⟩ := h0; exact values_open 201 hf
  obtain ⟨a1, len1, cap1, rfl⟩ := okWide_slice Try.underlying22 (hval 1 22 v1 rfl rfl)
  have k1 := h1
  have lt1 : ∀ x ∈ p1, x.block < W.heap.size := by obtain ⟨m, hm⟩ := k1; exact DataW.trod_lt m _ _ _ hm
  have vk1 : VSOk W 201 a1 len1 := by obtain ⟨fuel, hf⟩ := h1; exact values_open 201 hf
  clear hA0 hval0
  refine (walk a0 len0 cap0 a1 len1 cap1 W vk0 vk1).mono fun e W' ⟨he, bel⟩ => ?_
  subst he
  exact ⟨_, rfl, _, _, _, [], _, [], hW', trodAll_mk1 (shut_bool Try.underlying4 _), (trodAll_cons_mk (Below.trod laidOut (by kernel_rfl) (of_decide_eq_true (by kernel_rfl)) k0 bel lt0) (trodAll_cons_mk (Below.trod laidOut (by kernel_rfl) (of_decide_eq_true (by kernel_rfl)) k1 bel lt1) trodAll_mk0)), rfl, bel.frame _, fun h => by cases h⟩

theorem over : Rows.orderPartsRow.holds Try.pinned (OpenSpec.ofChange Rows.orderPartsSpec) :=
  OpenClaim.holds_of_wide 4 Try.f4 rfl rfl rfl rfl rfl rfl rfl ⟨rfl, rfl, rfl, rfl, rfl⟩ rfl rfl rfl rfl rfl (by kernel_rfl) Try.func4 (by kernel_rfl)
    (of_decide_eq_true (by kernel_rfl)) (by unfold Func.isWrapper; first | (rw [if_pos (by decide +kernel)]; kernel_rfl) | (rw [if_neg (by decide +kernel)]; exact ⟨rfl, rfl⟩))
    (fun os started H enc _ => lifted os started H enc)
theorem proved : Rows.OrderPartsSaid := over
end Go.Proofs.Ytcbgjkedmboifab.orderParts

namespace Go.Proofs.Ytcbgjkedmboifab
/-- The statement. -/
theorem orderParts_holds : Rows.OrderPartsSaid := orderParts.proved
#print axioms orderParts_holds
end Go.Proofs.Ytcbgjkedmboifab
