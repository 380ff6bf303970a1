/-
  How an arena of the program lies in memory: four blocks (the arena, its halves, their cells, which cells begin blocks), and what a call may change of them; what each function tells, by plain arithmetic over that state. No program is named here but by its types' numbers.
-/
import Derived.Test.YtkgocnmeedkieaaPlain
import Derived.Deep.OwnRows
import Derived.Deep.Draws
namespace Go.Proofs.Ytkgocnmeedkieaa
open Go.RowKit Go.Deep
set_option linter.unusedVariables false

/-- All blocks that were there but those of S are as they were. -/
structure Only (S : Nat → Prop) (w w' : World) : Prop where
  os : w'.os = w.os
  tape : w'.tape = w.tape
  output : w'.output = w.output
  size : w.heap.size ≤ w'.heap.size
  block : ∀ k, k < w.heap.size → ¬ S k → w'.heap[k]? = w.heap[k]?

namespace Only
variable {S T : Nat → Prop} {w w' w'' : World}
theorem refl (S : Nat → Prop) (w : World) : Only S w w := ⟨rfl, rfl, rfl, Nat.le_refl _, fun _ _ _ => rfl⟩
theorem trans (h : Only S w w') (k : Only S w' w'') : Only S w w'' :=
  ⟨k.os.trans h.os, k.tape.trans h.tape, k.output.trans h.output, Nat.le_trans h.size k.size, fun i hi hs => (k.block i (Nat.lt_of_lt_of_le hi h.size) hs).trans (h.block i hi hs)⟩
theorem mono (h : Only S w w') (hT : ∀ k, k < w.heap.size → S k → T k) : Only T w w' := ⟨h.os, h.tape, h.output, h.size, fun i hi hs => h.block i hi (fun c => hs (hT i hi c))⟩
theorem drew (h : Only S w w') : Only S w w'.drew := ⟨h.os, h.tape, h.output, h.size, h.block⟩
theorem drewN (h : Only S w w') (n : Nat) : Only S w (w'.drewN n) := ⟨h.os, h.tape, h.output, h.size, h.block⟩
theorem alloc (h : Only S w w') (o : Obj) : Only S w (w'.alloc o) :=
  h.trans ⟨rfl, rfl, rfl, by rw [nblk_alloc]; omega, fun k hk _ => blk_alloc_lt _ _ _ hk⟩
theorem setCell (h : Only S w w') {a : Addr} (ha : w.heap.size ≤ a.block ∨ S a.block) (v : Value) : Only S w (w'.setCell a v) :=
  ⟨h.os, h.tape, h.output, by rw [nblk_setCell]; exact h.size, fun k hk hs => by rw [blk_setCell_other _ _ _ _ (by rintro rfl; rcases ha with ha | ha; omega; exact hs ha)]; exact h.block k hk hs⟩
theorem below (h : Only S w w') {B : Nat} (hB : B ≤ w.heap.size) (hS : ∀ k, k < B → ¬ S k) : Below B w w' := ⟨h.os, h.tape, h.output, h.size, fun k hk => h.block k (by omega) (hS k hk)⟩
theorem of_below (h : Below w.heap.size w w') : Only S w w' := ⟨h.os, h.tape, h.output, h.size, fun k hk _ => h.block k hk⟩
theorem row {b : Nat} {t : TypeId} {n : Nat} {f : Nat → Value} (h : Only S w w') (hr : w.rowIs b t n f) (hs : ¬ S b) : w'.rowIs b t n f := hr.of_block (h.block b hr.lt hs)
end Only

/-- Where an arena's four blocks lie. -/
structure Pl where
  (a h c b : Nat)
/-- An arena's state: cells of a half, the current half's first cell, the cell behind the last block, what the cells hold, where (counted from the base) blocks begin. -/
structure St where
  (n base top : Nat)
  C : Nat → Int
  H : Nat → Bool

/-- The blocks that a method may write. -/
def Pl.own (p : Pl) (k : Nat) : Prop := k = p.h ∨ k = p.c ∨ k = p.b

/-- The arena lies in memory. -/
structure Ar (w : World) (p : Pl) (s : St) : Prop where
  ha : w.heap[p.a]? = some (.cells #[.pointer (some ⟨p.h, 0, none⟩), .slice (some ⟨p.b, 0, none⟩) s.n s.n] 92 (0, 0))
  hh : w.heap[p.h]? = some (.cells #[.slice (some ⟨p.c, 0, none⟩) (2 * s.n) (2 * s.n), .int .i64 s.n, .int .i64 s.base, .int .i64 s.top] 94 (0, 0))
  hc : w.rowIs p.c 49 (2 * s.n) (fun i => .int .u64 (s.C i))
  hb : w.rowIs p.b 4 s.n (fun i => .bool (s.H i))
  n1 : 2 ≤ s.n
  n2 : s.n ≤ 32768
  b1 : s.base = 0 ∨ s.base = s.n
  t1 : s.base ≤ s.top
  t2 : s.top ≤ s.base + s.n
  lo : ∀ i, 0 ≤ s.C i
  hi : ∀ i, s.C i ≤ 18446744073709551615

theorem lt_of_some {w : World} {b : Nat} {o : Obj} (h : w.heap[b]? = some o) : b < w.heap.size := (Array.getElem?_eq_some_iff.1 h).1

namespace Ar
variable {w w' : World} {p : Pl} {s : St}
theorem frame (h : Ar w p s) {S : Nat → Prop} (k : Only S w w') (ha : ¬ S p.a) (hh : ¬ S p.h) (hc : ¬ S p.c) (hb : ¬ S p.b) : Ar w' p s :=
  { h with ha := (k.block _ (lt_of_some h.ha) ha).trans h.ha, hh := (k.block _ (lt_of_some h.hh) hh).trans h.hh, hc := k.row h.hc hc, hb := k.row h.hb hb }
theorem drewN (h : Ar w p s) (n : Nat) : Ar (w.drewN n) p s := { h with ha := h.ha, hh := h.hh, hc := h.hc, hb := h.hb }
theorem alloc (h : Ar w p s) (o : Obj) : Ar (w.alloc o) p s := h.frame ((Only.refl (fun _ => False) w).alloc o) id id id id
theorem nh (h : Ar w p s) : p.a ≠ p.h ∧ p.a ≠ p.c ∧ p.a ≠ p.b ∧ p.h ≠ p.c ∧ p.h ≠ p.b ∧ p.c ≠ p.b := by
  obtain ⟨c1, e1, _, _⟩ := h.hc
  obtain ⟨c2, e2, _, _⟩ := h.hb
  have e3 := h.ha
  have e4 := h.hh
  refine ⟨?_, ?_, ?_, ?_, ?_, ?_⟩ <;> intro e <;> simp_all
theorem cells (h : Ar w p s) : w.cell? ⟨p.a, 0, none⟩ = some (.pointer (some ⟨p.h, 0, none⟩)) ∧ w.cell? ⟨p.a, 1, none⟩ = some (.slice (some ⟨p.b, 0, none⟩) s.n s.n) ∧
    w.cell? ⟨p.h, 0, none⟩ = some (.slice (some ⟨p.c, 0, none⟩) (2 * s.n) (2 * s.n)) ∧ w.cell? ⟨p.h, 1, none⟩ = some (.int .i64 s.n) ∧ w.cell? ⟨p.h, 2, none⟩ = some (.int .i64 s.base) ∧ w.cell? ⟨p.h, 3, none⟩ = some (.int .i64 s.top) ∧
    (∀ o, w.frozen? ⟨p.h, o, none⟩ = false) := by
  simp [World.cell?, World.frozen?, h.ha, h.hh]
theorem cellC (h : Ar w p s) (i : Nat) (hi : i < 2 * s.n) : w.cell? ⟨p.c, i, none⟩ = some (.int .u64 (s.C i)) := h.hc.cell hi
theorem cellB (h : Ar w p s) (i : Nat) (hi : i < s.n) : w.cell? ⟨p.b, i, none⟩ = some (.bool (s.H i)) := h.hb.cell hi
end Ar

namespace St
/-- Is a cell one that is in use? -/
def inUse (s : St) (c : Int) : Bool := decide ((s.base : Int) ≤ c) && decide (c < (s.top : Int))
/-- Is an address a block's? -/
def isBlk (s : St) (a : Int) : Bool := s.inUse (a - 1) && s.H (a.toNat - 1 - s.base)
def tagAt (s : St) (a : Int) : Int := tagW (s.C (a.toNat - 1))
def sizeAt (s : St) (a : Int) : Int := sizeW (s.C (a.toNat - 1))
def isInr (s : St) (a d : Int) : Bool := s.isBlk a && (s.tagAt a == 200) && decide (d < s.sizeAt a)
/-- The address of the block that a word leads to, and the distance. -/
def find (s : St) (x : Int) : Int × Int :=
  if s.isBlk (addrW x) = true then (addrW x, 0)
  else if s.inUse (addrW x - 1) = false then (0, 0)
  else if s.tagAt (addrW x) = 201 ∧ s.isInr (addrW x - s.sizeAt (addrW x)) (s.sizeAt (addrW x)) = true then (addrW x - s.sizeAt (addrW x), s.sizeAt (addrW x))
  else (0, 0)
def tag (s : St) (x : Int) : Int := if (s.find x).1 = 0 then -1 else s.tagAt (s.find x).1
def size (s : St) (x : Int) : Int := if (s.find x).1 = 0 then -1 else s.sizeAt (s.find x).1
/-- What is wrong with a field. -/
def fieldE (s : St) (x i : Int) : Int := if (s.find x).1 = 0 then 6 else if i < 0 ∨ s.sizeAt (s.find x).1 ≤ i then 2 else 0
def get (s : St) (x i : Int) : Int := if s.fieldE x i = 0 then s.C ((s.find x).1 + i).toNat else 0
def put (s : St) (x i v : Int) : St := if s.fieldE x i = 0 then { s with C := fun j => if j = ((s.find x).1 + i).toNat then v else s.C j } else s
/-- May a block have that tag? -/
def mayLie (t : Int) : Bool := (decide (0 ≤ t) && decide (t ≤ 199)) || t == 200 || t == 202
def allocE (s : St) (t z : Int) : Int := if mayLie t = false then 1 else if z < 0 ∨ 4096 < z then 2 else if (s.base : Int) + s.n < s.top + z + 1 then 10 else 0
def allocW (s : St) (t z : Int) : Int := if s.allocE t z = 0 then 2 * (s.top + 1) else 0
def alloc (s : St) (t z : Int) : St := if s.allocE t z = 0 then
  { s with top := s.top + z.toNat + 1, C := fun i => if i = s.top then headW t z else if s.top < i ∧ i ≤ s.top + z.toNat then 1 else s.C i, H := fun i => if i = s.top - s.base then true else s.H i } else s
def flip (s : St) : St := { s with base := s.n - s.base, top := s.n - s.base, H := fun i => if i < s.top - s.base then false else s.H i }
end St
end Go.Proofs.Ytkgocnmeedkieaa
