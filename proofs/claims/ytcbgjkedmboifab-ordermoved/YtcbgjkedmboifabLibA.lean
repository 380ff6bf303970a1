/-
  Several small texts in one; each tells at its head what it proves, and on what condition.
-/
import Derived.WalkKit
import Derived.Laws.BitsAllLaws
import Derived.Deep.OwnRows
import Derived.Deep.Draws
import Derived.Test.YtcbgjkedmboifabRows
import Derived.ProofKit
import Derived.OpenShut
import Derived.Deep.QuietTactic
import Derived.BigQuiet
import Derived.Deep.RegionWith
import Derived.BigRegion

/-
  Plain arithmetic of words, without any program: numbers of 63 bits as words of 64 bits, addresses, headers; what cutting to 63 bits does. No condition but those written in each statement.
-/
namespace Go.Proofs.Ytcbgjkedmboifab
open Go.RowKit

/-- The word of a number, cut. -/
def intW (n : Int) : Int := (2 * n + 1) % 18446744073709551616
/-- The number of a word. -/
def numW (x : Int) : Int := if x < 9223372036854775808 then x / 2 else x / 2 - 9223372036854775808
/-- A number cut to 63 bits. -/
def cutN (n : Int) : Int := (n + 4611686018427387904) % 9223372036854775808 - 4611686018427387904
/-- Is a word a number's? -/
def isIntW (x : Int) : Bool := x % 2 == 1
/-- The word of an address. -/
def ptrW (a : Int) : Int := if a < 0 ∨ 2147483647 < a then 0 else 2 * a
/-- The address of a word. -/
def addrW (x : Int) : Int := if x % 2 = 1 ∨ 4294967294 < x then 0 else x / 2
/-- The word of a header. -/
def headW (t s : Int) : Int := if t < 0 ∨ 255 < t ∨ s < 0 ∨ 2147483647 < s then 0 else intW (256 * s + t)
/-- Is a word a header's? -/
def isHeadW (x : Int) : Bool := x % 2 == 1 && decide (0 ≤ numW x) && decide (numW x ≤ 549755813887)
/-- The tag of a header's word. -/
def tagW (x : Int) : Int := if isHeadW x = true then numW x % 256 else 0
/-- The size of a header's word. -/
def sizeW (x : Int) : Int := if isHeadW x = true then numW x / 256 else 0

theorem ret_int {k : IntKind} {a b : Int} (h : a = b) : Ending.returned (.int k a) = .returned (.int k b) := by rw [h]
theorem ret_bool {a b : Bool} (h : a = b) : Ending.returned (.bool a) = .returned (.bool b) := by rw [h]

theorem intW_lo (n : Int) : 0 ≤ intW n := by unfold intW; omega
theorem intW_hi (n : Int) : intW n ≤ 18446744073709551615 := by unfold intW; omega
theorem numW_lo (x : Int) (h : 0 ≤ x) : -4611686018427387904 ≤ numW x := by unfold numW; split <;> omega
theorem numW_hi (x : Int) (h : x ≤ 18446744073709551615) : numW x ≤ 4611686018427387903 := by unfold numW; split <;> omega
theorem cutN_lo (n : Int) : -4611686018427387904 ≤ cutN n := by unfold cutN; omega
theorem cutN_hi (n : Int) : cutN n ≤ 4611686018427387903 := by unfold cutN; omega
theorem intW_cut (n : Int) : intW (cutN n) = intW n := by unfold intW cutN; omega
theorem num_int (n : Int) : numW (intW n) = cutN n := by unfold numW intW cutN; split <;> omega
theorem cut_same (n : Int) (h : -4611686018427387904 ≤ n) (h' : n ≤ 4611686018427387903) : cutN n = n := by unfold cutN; omega
theorem int_num (x : Int) (h : 0 ≤ x) (h' : x ≤ 18446744073709551615) (ho : x % 2 = 1) : intW (numW x) = x := by unfold intW numW; split <;> omega
theorem isInt_int (n : Int) : isIntW (intW n) = true := by unfold isIntW intW; rw [beq_iff_eq]; omega
theorem int_eq (a b : Int) (h : (a - b) % 9223372036854775808 = 0) : intW a = intW b := by unfold intW; omega
theorem cut_eq (a b : Int) (h : (a - b) % 9223372036854775808 = 0) : cutN a = cutN b := by unfold cutN; omega
theorem cut_dvd (n : Int) : ∃ k, cutN n = n + k * 9223372036854775808 := ⟨-((n + 4611686018427387904) / 9223372036854775808), by unfold cutN; omega⟩

theorem or_one (x : Int) (h : 0 ≤ x) (h' : x ≤ 18446744073709551615) (he : x % 2 = 0) : bits .or .u64 x 1 = x + 1 := by
  rw [u64_or x 1 h (by omega) (by omega) (by omega)]
  have e : (x.toNat ||| (1 : Int).toNat) = x.toNat + 1 := nat_join 1 x.toNat 1 (by omega) (by omega)
  rw [e]; omega
theorem and_one (x : Int) (h : 0 ≤ x) (h' : x ≤ 18446744073709551615) : bits .and .u64 x 1 = x % 2 := by
  rw [u64_and x 1 h (by omega) (by omega) (by omega)]
  have e : (x.toNat &&& (1 : Int).toNat) = x.toNat % 2 := nat_mask1 x.toNat
  rw [e]; omega
theorem int_walk (n : Int) : bits BinOp.or IntKind.u64 (IntKind.u64.wrap (IntKind.u64.wrap n * 2)) 1 = intW n := by
  rw [IntKind.wrap_u64, IntKind.wrap_u64, or_one _ (by omega) (by omega) (by omega)]
  unfold intW; omega
theorem wrap64_def (n : Int) : wrap64 n = (n + 9223372036854775808) % 18446744073709551616 - 9223372036854775808 := by
  unfold wrap64; omega
theorem num_walk (x : Int) (h : 0 ≤ x) (h' : x ≤ 18446744073709551615) : wrap64 x / 2 = numW x := by
  rw [wrap64_def]; unfold numW; split <;> omega
theorem wrap_i64 (n : Int) : IntKind.i64.wrap n = wrap64 n := by
  rw [wrap64_def]; simp [IntKind.wrap, IntKind.bits, IntKind.signed]; omega
theorem and_i64 (a b : Int) : bits .and .i64 a b = wrap64 (((a % 18446744073709551616).toNat &&& (b % 18446744073709551616).toNat : Nat) : Int) := by
  show IntKind.i64.wrap ((BitVec.ofInt 64 a &&& BitVec.ofInt 64 b).toNat : Int) = _
  rw [BitVec.toNat_and, BitVec.toNat_ofInt, BitVec.toNat_ofInt, wrap_i64]
  rfl
theorem or_i64 (a b : Int) : bits .or .i64 a b = wrap64 (((a % 18446744073709551616).toNat ||| (b % 18446744073709551616).toNat : Nat) : Int) := by
  show IntKind.i64.wrap ((BitVec.ofInt 64 a ||| BitVec.ofInt 64 b).toNat : Int) = _
  rw [BitVec.toNat_or, BitVec.toNat_ofInt, BitVec.toNat_ofInt, wrap_i64]
  rfl
theorem xor_i64 (a b : Int) : bits .xor .i64 a b = wrap64 (((a % 18446744073709551616).toNat ^^^ (b % 18446744073709551616).toNat : Nat) : Int) := by
  show IntKind.i64.wrap ((BitVec.ofInt 64 a ^^^ BitVec.ofInt 64 b).toNat : Int) = _
  rw [BitVec.toNat_xor, BitVec.toNat_ofInt, BitVec.toNat_ofInt, wrap_i64]
  rfl
theorem and_255 (n : Int) (h : 0 ≤ n) (h' : n ≤ 4611686018427387903) : bits .and .i64 n 255 = n % 256 := by
  rw [and_i64]
  have e1 : (n % 18446744073709551616).toNat = n.toNat := by omega
  have e2 : ((255 : Int) % 18446744073709551616).toNat = 255 := by omega
  rw [e1, e2, nat_mask8, wrap64_def]; omega
end Go.Proofs.Ytcbgjkedmboifab

/-
  How an arena of the program lies in memory: four blocks (the arena, its halves, their cells, which cells begin blocks), and what a call may change of them; what each function tells, by plain arithmetic over that state. No program is named here but by its types' numbers.
-/
namespace Go.Proofs.Ytcbgjkedmboifab
open Go.RowKit Go.Deep
set_option linter.unusedVariables false

/-- All blocks that were there but those of S are as they were. -/
structure Only (S : Nat → Prop) (w w' : World) : Prop where
  os : w'.os = w.os
  tape : w'.tape = w.tape
  output : w'.output = w.output
  size : w.heap.size ≤ w'.heap.size
  block : ∀ k, k < w.heap.size → ¬ S k → w'.heap[k]? = w.heap[k]?

namespace Only
variable {S T : Nat → Prop} {w w' w'' : World}
theorem refl (S : Nat → Prop) (w : World) : Only S w w := ⟨rfl, rfl, rfl, Nat.le_refl _, fun _ _ _ => rfl⟩
theorem trans (h : Only S w w') (k : Only S w' w'') : Only S w w'' :=
  ⟨k.os.trans h.os, k.tape.trans h.tape, k.output.trans h.output, Nat.le_trans h.size k.size, fun i hi hs => (k.block i (Nat.lt_of_lt_of_le hi h.size) hs).trans (h.block i hi hs)⟩
theorem mono (h : Only S w w') (hT : ∀ k, k < w.heap.size → S k → T k) : Only T w w' := ⟨h.os, h.tape, h.output, h.size, fun i hi hs => h.block i hi (fun c => hs (hT i hi c))⟩
theorem drew (h : Only S w w') : Only S w w'.drew := ⟨h.os, h.tape, h.output, h.size, h.block⟩
theorem drewN (h : Only S w w') (n : Nat) : Only S w (w'.drewN n) := ⟨h.os, h.tape, h.output, h.size, h.block⟩
theorem alloc (h : Only S w w') (o : Obj) : Only S w (w'.alloc o) :=
  h.trans ⟨rfl, rfl, rfl, by rw [nblk_alloc]; omega, fun k hk _ => blk_alloc_lt _ _ _ hk⟩
theorem setCell (h : Only S w w') {a : Addr} (ha : w.heap.size ≤ a.block ∨ S a.block) (v : Value) : Only S w (w'.setCell a v) :=
  ⟨h.os, h.tape, h.output, by rw [nblk_setCell]; exact h.size, fun k hk hs => by rw [blk_setCell_other _ _ _ _ (by rintro rfl; rcases ha with ha | ha; omega; exact hs ha)]; exact h.block k hk hs⟩
theorem below (h : Only S w w') {B : Nat} (hB : B ≤ w.heap.size) (hS : ∀ k, k < B → ¬ S k) : Below B w w' := ⟨h.os, h.tape, h.output, h.size, fun k hk => h.block k (by omega) (hS k hk)⟩
theorem of_below (h : Below w.heap.size w w') : Only S w w' := ⟨h.os, h.tape, h.output, h.size, fun k hk _ => h.block k hk⟩
theorem row {b : Nat} {t : TypeId} {n : Nat} {f : Nat → Value} (h : Only S w w') (hr : w.rowIs b t n f) (hs : ¬ S b) : w'.rowIs b t n f := hr.of_block (h.block b hr.lt hs)
end Only

/-- Where an arena's four blocks lie. -/
structure Pl where
  (a h c b : Nat)
/-- An arena's state: cells of a half, the current half's first cell, the cell behind the last block, what the cells hold, where (counted from the base) blocks begin. -/
structure St where
  (n base top : Nat)
  C : Nat → Int
  H : Nat → Bool

/-- The blocks that a method may write. -/
def Pl.own (p : Pl) (k : Nat) : Prop := k = p.h ∨ k = p.c ∨ k = p.b

/-- The arena lies in memory. -/
structure Ar (w : World) (p : Pl) (s : St) : Prop where
  ha : w.heap[p.a]? = some (.cells #[.pointer (some ⟨p.h, 0, none⟩), .slice (some ⟨p.b, 0, none⟩) s.n s.n] 81 (0, 0))
  hh : w.heap[p.h]? = some (.cells #[.slice (some ⟨p.c, 0, none⟩) (2 * s.n) (2 * s.n), .int .i64 s.n, .int .i64 s.base, .int .i64 s.top] 99 (0, 0))
  hc : w.rowIs p.c 30 (2 * s.n) (fun i => .int .u64 (s.C i))
  hb : w.rowIs p.b 4 s.n (fun i => .bool (s.H i))
  n1 : 2 ≤ s.n
  n2 : s.n ≤ 32768
  b1 : s.base = 0 ∨ s.base = s.n
  t1 : s.base ≤ s.top
  t2 : s.top ≤ s.base + s.n
  lo : ∀ i, 0 ≤ s.C i
  hi : ∀ i, s.C i ≤ 18446744073709551615

theorem lt_of_some {w : World} {b : Nat} {o : Obj} (h : w.heap[b]? = some o) : b < w.heap.size := (Array.getElem?_eq_some_iff.1 h).1

namespace Ar
variable {w w' : World} {p : Pl} {s : St}
theorem frame (h : Ar w p s) {S : Nat → Prop} (k : Only S w w') (ha : ¬ S p.a) (hh : ¬ S p.h) (hc : ¬ S p.c) (hb : ¬ S p.b) : Ar w' p s :=
  { h with ha := (k.block _ (lt_of_some h.ha) ha).trans h.ha, hh := (k.block _ (lt_of_some h.hh) hh).trans h.hh, hc := k.row h.hc hc, hb := k.row h.hb hb }
theorem drewN (h : Ar w p s) (n : Nat) : Ar (w.drewN n) p s := { h with ha := h.ha, hh := h.hh, hc := h.hc, hb := h.hb }
theorem alloc (h : Ar w p s) (o : Obj) : Ar (w.alloc o) p s := h.frame ((Only.refl (fun _ => False) w).alloc o) id id id id
theorem nh (h : Ar w p s) : p.a ≠ p.h ∧ p.a ≠ p.c ∧ p.a ≠ p.b ∧ p.h ≠ p.c ∧ p.h ≠ p.b ∧ p.c ≠ p.b := by
  obtain ⟨c1, e1, _, _⟩ := h.hc
  obtain ⟨c2, e2, _, _⟩ := h.hb
  have e3 := h.ha
  have e4 := h.hh
  refine ⟨?_, ?_, ?_, ?_, ?_, ?_⟩ <;> intro e <;> simp_all
theorem cells (h : Ar w p s) : w.cell? ⟨p.a, 0, none⟩ = some (.pointer (some ⟨p.h, 0, none⟩)) ∧ w.cell? ⟨p.a, 1, none⟩ = some (.slice (some ⟨p.b, 0, none⟩) s.n s.n) ∧
    w.cell? ⟨p.h, 0, none⟩ = some (.slice (some ⟨p.c, 0, none⟩) (2 * s.n) (2 * s.n)) ∧ w.cell? ⟨p.h, 1, none⟩ = some (.int .i64 s.n) ∧ w.cell? ⟨p.h, 2, none⟩ = some (.int .i64 s.base) ∧ w.cell? ⟨p.h, 3, none⟩ = some (.int .i64 s.top) ∧
    (∀ o, w.frozen? ⟨p.h, o, none⟩ = false) := by
  simp [World.cell?, World.frozen?, h.ha, h.hh]
theorem cellC (h : Ar w p s) (i : Nat) (hi : i < 2 * s.n) : w.cell? ⟨p.c, i, none⟩ = some (.int .u64 (s.C i)) := h.hc.cell hi
theorem cellB (h : Ar w p s) (i : Nat) (hi : i < s.n) : w.cell? ⟨p.b, i, none⟩ = some (.bool (s.H i)) := h.hb.cell hi
end Ar

namespace St
/-- Is a cell one that is in use? -/
def inUse (s : St) (c : Int) : Bool := decide ((s.base : Int) ≤ c) && decide (c < (s.top : Int))
/-- Is an address a block's? -/
def isBlk (s : St) (a : Int) : Bool := s.inUse (a - 1) && s.H (a.toNat - 1 - s.base)
def tagAt (s : St) (a : Int) : Int := tagW (s.C (a.toNat - 1))
def sizeAt (s : St) (a : Int) : Int := sizeW (s.C (a.toNat - 1))
def isInr (s : St) (a d : Int) : Bool := s.isBlk a && (s.tagAt a == 200) && decide (d < s.sizeAt a)
/-- The address of the block that a word leads to, and the distance. -/
def find (s : St) (x : Int) : Int × Int :=
  if s.isBlk (addrW x) = true then (addrW x, 0)
  else if s.inUse (addrW x - 1) = false then (0, 0)
  else if s.tagAt (addrW x) = 201 ∧ s.isInr (addrW x - s.sizeAt (addrW x)) (s.sizeAt (addrW x)) = true then (addrW x - s.sizeAt (addrW x), s.sizeAt (addrW x))
  else (0, 0)
def tag (s : St) (x : Int) : Int := if (s.find x).1 = 0 then -1 else s.tagAt (s.find x).1
def size (s : St) (x : Int) : Int := if (s.find x).1 = 0 then -1 else s.sizeAt (s.find x).1
/-- What is wrong with a field. -/
def fieldE (s : St) (x i : Int) : Int := if (s.find x).1 = 0 then 6 else if i < 0 ∨ s.sizeAt (s.find x).1 ≤ i then 2 else 0
def get (s : St) (x i : Int) : Int := if s.fieldE x i = 0 then s.C ((s.find x).1 + i).toNat else 0
def put (s : St) (x i v : Int) : St := if s.fieldE x i = 0 then { s with C := fun j => if j = ((s.find x).1 + i).toNat then v else s.C j } else s
/-- May a block have that tag? -/
def mayLie (t : Int) : Bool := (decide (0 ≤ t) && decide (t ≤ 199)) || t == 200 || t == 202
def allocE (s : St) (t z : Int) : Int := if mayLie t = false then 1 else if z < 0 ∨ 4096 < z then 2 else if (s.base : Int) + s.n < s.top + z + 1 then 10 else 0
def allocW (s : St) (t z : Int) : Int := if s.allocE t z = 0 then 2 * (s.top + 1) else 0
def alloc (s : St) (t z : Int) : St := if s.allocE t z = 0 then
  { s with top := s.top + z.toNat + 1, C := fun i => if i = s.top then headW t z else if s.top < i ∧ i ≤ s.top + z.toNat then 1 else s.C i, H := fun i => if i = s.top - s.base then true else s.H i } else s
def flip (s : St) : St := { s with base := s.n - s.base, top := s.n - s.base, H := fun i => if i < s.top - s.base then false else s.H i }
end St
end Go.Proofs.Ytcbgjkedmboifab

/-
  What the functions of package word for numbers, addresses and headers return, and the document's own ones, each by its plain arithmetic; nothing in memory changes. Conditions: each argument fits its kind.
-/
namespace Go.Proofs.Ytcbgjkedmboifab
open Go.ChangeShapes Go.WideShapes Go.ChangeAt Go.RowKit
set_option linter.unusedVariables false
set_option maxHeartbeats 400000

theorem int_any (n : Int) (w : World) (h : -9223372036854775808 ≤ n) (h' : n ≤ 9223372036854775807) :
    Calls Try.prog 25 #[.int .i64 n] w fun e w' => e = .returned (.int .u64 (intW n)) ∧ w' = w := by
  go_enter Try.func25, Try.ntmps25
  go_wp2
  go_ret
  exact ⟨ret_int (int_walk n), rfl⟩
theorem int_free (n : Int) (w : World) :
    Calls Try.prog 25 #[.int .i64 n] w fun e w' => e = .returned (.int .u64 (intW n)) ∧ w' = w := by
  go_enter Try.func25, Try.ntmps25
  go_wp2
  go_ret
  exact ⟨ret_int (int_walk n), rfl⟩
theorem num_any (x : Int) (w : World) (h : 0 ≤ x) (h' : x ≤ 18446744073709551615) :
    Calls Try.prog 63 #[.int .u64 x] w fun e w' => e = .returned (.int .i64 (numW x)) ∧ w' = w := by
  go_enter Try.func63, Try.ntmps63
  go_wp2
  go_ret
  exact ⟨ret_int (num_walk x h h'), rfl⟩
theorem isInt_any (x : Int) (w : World) (h : 0 ≤ x) (h' : x ≤ 18446744073709551615) :
    Calls Try.prog 38 #[.int .u64 x] w fun e w' => e = .returned (.bool (isIntW x)) ∧ w' = w := by
  go_enter Try.func38, Try.ntmps38
  go_wp2
  go_ret
  exact ⟨ret_bool (by rw [and_one x h h']; rfl), rfl⟩
end Go.Proofs.Ytcbgjkedmboifab

/-
  What package word's functions for addresses and headers return, each by its plain arithmetic; nothing in memory changes. Conditions: each argument fits its kind.
-/
namespace Go.Proofs.Ytcbgjkedmboifab
open Go.ChangeShapes Go.WideShapes Go.ChangeAt Go.RowKit
set_option linter.unusedVariables false
set_option maxHeartbeats 400000

theorem ptr_any (a : Int) (w : World) (h : -9223372036854775808 ≤ a) (h' : a ≤ 9223372036854775807) :
    Calls Try.prog 52 #[.int .i64 a] w fun e w' => e = .returned (.int .u64 (ptrW a)) ∧ w' = w := by
  by_cases c1 : a < 0
  · go_enter Try.func52, Try.ntmps52
    go_wp2
    all_goals go_ret
    all_goals exact ⟨ret_int (by unfold ptrW; split <;> omega), rfl⟩
  · by_cases c2 : 2147483647 < a
    all_goals
      go_enter Try.func52, Try.ntmps52
      go_wp2
      all_goals go_ret
      all_goals exact ⟨ret_int (by unfold ptrW; split <;> omega), rfl⟩
theorem addr_any (x : Int) (w : World) (h : 0 ≤ x) (h' : x ≤ 18446744073709551615) :
    Calls Try.prog 87 #[.int .u64 x] w fun e w' => e = .returned (.int .i64 (addrW x)) ∧ w' = w := by
  by_cases c1 : x % 2 = 1
  · have g : isIntW x = true := by unfold isIntW; rw [beq_iff_eq]; omega
    have HC : Hid (x % 2 = 1) := c1
    clear c1
    go_enter Try.func87, Try.ntmps87
    go_wp2_with (go_at_call 38; refine (isInt_any _ _ (by omega) (by omega)).mono ?_; rintro e w' ⟨rfl, rfl⟩)
    all_goals go_ret
    all_goals exact ⟨ret_int (by have c1 := HC.out; unfold addrW; split <;> omega), rfl⟩
  · have g : isIntW x = false := by unfold isIntW; rw [beq_eq_false_iff_ne]; omega
    have HC : Hid (¬ x % 2 = 1) := c1
    clear c1
    by_cases c2 : 4294967294 < x
    all_goals
      go_enter Try.func87, Try.ntmps87
      go_wp2_with (go_at_call 38; refine (isInt_any _ _ (by omega) (by omega)).mono ?_; rintro e w' ⟨rfl, rfl⟩)
      all_goals go_ret
      all_goals exact ⟨ret_int (by have c1 := HC.out; unfold addrW; split <;> omega), rfl⟩
theorem head_any (t s : Int) (w : World) (h : -9223372036854775808 ≤ t) (h' : t ≤ 9223372036854775807) (g : -9223372036854775808 ≤ s) (g' : s ≤ 9223372036854775807) :
    Calls Try.prog 50 #[.int .i64 t, .int .i64 s] w fun e w' => e = .returned (.int .u64 (headW t s)) ∧ w' = w := by
  by_cases c : t < 0 ∨ 255 < t ∨ s < 0 ∨ 2147483647 < s
  · have hv : headW t s = 0 := by unfold headW; rw [if_pos c]
    rw [hv]
    clear hv
    by_cases c1 : t < 0
    · clear c
      go_enter Try.func50, Try.ntmps50
      go_wp2_with fail
      all_goals go_ret
      all_goals exact ⟨rfl, rfl⟩
    · by_cases c2 : 255 < t
      · clear c
        go_enter Try.func50, Try.ntmps50
        go_wp2_with fail
        all_goals go_ret
        all_goals exact ⟨rfl, rfl⟩
      · by_cases c3 : s < 0
        · clear c
          go_enter Try.func50, Try.ntmps50
          go_wp2_with fail
          all_goals go_ret
          all_goals exact ⟨rfl, rfl⟩
        · have c4 : 2147483647 < s := by omega
          clear c
          go_enter Try.func50, Try.ntmps50
          go_wp2_with fail
          all_goals go_ret
          all_goals exact ⟨rfl, rfl⟩
  · have hv : headW t s = intW (256 * s + t) := by unfold headW; rw [if_neg c]
    rw [hv]
    clear hv
    have c1 : 0 ≤ t := by omega
    have c2 : t ≤ 255 := by omega
    have c3 : 0 ≤ s := by omega
    have c4 : s ≤ 2147483647 := by omega
    clear c
    go_enter Try.func50, Try.ntmps50
    go_wp2_with (go_at_call 25; refine (int_any _ _ (by omega) (by omega)).mono ?_; rintro e w' ⟨rfl, rfl⟩)
    all_goals go_ret
    all_goals exact ⟨ret_int (by first | (congr 1; done) | (congr 1; omega)), rfl⟩
theorem isHead_any (x : Int) (w : World) (h : 0 ≤ x) (h' : x ≤ 18446744073709551615) :
    Calls Try.prog 97 #[.int .u64 x] w fun e w' => e = .returned (.bool (isHeadW x)) ∧ w' = w := by
  have lo := numW_lo x h
  have hi := numW_hi x h'
  cases g : isIntW x
  · have HV : Hid (isHeadW x = false) := by unfold isHeadW; unfold isIntW at g; rw [g]; rfl
    go_enter Try.func97, Try.ntmps97
    go_wp2_with (first | (go_at_call 63; refine (num_any _ _ (by omega) (by omega)).mono ?_; rintro e w' ⟨rfl, rfl⟩) | (go_at_call 38; refine (isInt_any _ _ (by omega) (by omega)).mono ?_; rintro e w' ⟨rfl, rfl⟩))
    all_goals go_ret
    all_goals exact ⟨ret_bool (by rw [HV.out]), rfl⟩
  · have HV : Hid (isHeadW x = (decide (0 ≤ numW x) && decide (numW x ≤ 549755813887))) := by unfold isHeadW; unfold isIntW at g; rw [g]; rfl
    by_cases c1 : 0 ≤ numW x
    · go_enter Try.func97, Try.ntmps97
      go_wp2_with (first | (go_at_call 63; refine (num_any _ _ (by omega) (by omega)).mono ?_; rintro e w' ⟨rfl, rfl⟩) | (go_at_call 38; refine (isInt_any _ _ (by omega) (by omega)).mono ?_; rintro e w' ⟨rfl, rfl⟩))
      all_goals go_ret
      all_goals exact ⟨ret_bool (by rw [HV.out]; simp [c1]), rfl⟩
    · go_enter Try.func97, Try.ntmps97
      go_wp2_with (first | (go_at_call 63; refine (num_any _ _ (by omega) (by omega)).mono ?_; rintro e w' ⟨rfl, rfl⟩) | (go_at_call 38; refine (isInt_any _ _ (by omega) (by omega)).mono ?_; rintro e w' ⟨rfl, rfl⟩))
      all_goals go_ret
      all_goals exact ⟨ret_bool (by rw [HV.out, decide_eq_false (by omega : ¬ 0 ≤ numW x)]; rfl), rfl⟩
theorem tag_any (x : Int) (w : World) (h : 0 ≤ x) (h' : x ≤ 18446744073709551615) :
    Calls Try.prog 92 #[.int .u64 x] w fun e w' => e = .returned (.int .i64 (tagW x)) ∧ w' = w := by
  have lo := numW_lo x h
  have hi := numW_hi x h'
  cases g : isHeadW x
  · have HV : Hid (tagW x = 0) := by unfold tagW; rw [g]; rfl
    go_enter Try.func92, Try.ntmps92
    go_wp2_with (first | (go_at_call 63; refine (num_any _ _ (by omega) (by omega)).mono ?_; rintro e w' ⟨rfl, rfl⟩) | (go_at_call 97; refine (isHead_any _ _ (by omega) (by omega)).mono ?_; rintro e w' ⟨rfl, rfl⟩))
    all_goals go_ret
    all_goals exact ⟨ret_int HV.out.symm, rfl⟩
  · have HV : Hid (tagW x = numW x % 256) := by unfold tagW; rw [g]; rfl
    have c1 : 0 ≤ numW x := by unfold isHeadW at g; simp at g; omega
    have c2 : numW x ≤ 549755813887 := by unfold isHeadW at g; simp at g; omega
    go_enter Try.func92, Try.ntmps92
    go_wp2_with (first | (go_at_call 63; refine (num_any _ _ (by omega) (by omega)).mono ?_; rintro e w' ⟨rfl, rfl⟩) | (go_at_call 97; refine (isHead_any _ _ (by omega) (by omega)).mono ?_; rintro e w' ⟨rfl, rfl⟩))
    all_goals go_ret
    all_goals exact ⟨ret_int (by rw [and_255 _ c1 hi]; exact HV.out.symm), rfl⟩
theorem size_any (x : Int) (w : World) (h : 0 ≤ x) (h' : x ≤ 18446744073709551615) :
    Calls Try.prog 91 #[.int .u64 x] w fun e w' => e = .returned (.int .i64 (sizeW x)) ∧ w' = w := by
  have lo := numW_lo x h
  have hi := numW_hi x h'
  cases g : isHeadW x
  · have HV : Hid (sizeW x = 0) := by unfold sizeW; rw [g]; rfl
    go_enter Try.func91, Try.ntmps91
    go_wp2_with (first | (go_at_call 63; refine (num_any _ _ (by omega) (by omega)).mono ?_; rintro e w' ⟨rfl, rfl⟩) | (go_at_call 97; refine (isHead_any _ _ (by omega) (by omega)).mono ?_; rintro e w' ⟨rfl, rfl⟩))
    all_goals go_ret
    all_goals exact ⟨ret_int HV.out.symm, rfl⟩
  · have HV : Hid (sizeW x = numW x / 256) := by unfold sizeW; rw [g]; rfl
    have c1 : 0 ≤ numW x := by unfold isHeadW at g; simp at g; omega
    have c2 : numW x ≤ 549755813887 := by unfold isHeadW at g; simp at g; omega
    go_enter Try.func91, Try.ntmps91
    go_wp2_with (first | (go_at_call 63; refine (num_any _ _ (by omega) (by omega)).mono ?_; rintro e w' ⟨rfl, rfl⟩) | (go_at_call 97; refine (isHead_any _ _ (by omega) (by omega)).mono ?_; rintro e w' ⟨rfl, rfl⟩))
    all_goals go_ret
    all_goals exact ⟨ret_int HV.out.symm, rfl⟩
end Go.Proofs.Ytcbgjkedmboifab

/-
  What the arena's functions that only read tell, by plain arithmetic over the arena's state; the world is as it was but for draws of an order. Condition: the arena lies in memory (Ar).
-/
namespace Go.Proofs.Ytcbgjkedmboifab
open Go.ChangeShapes Go.WideShapes Go.ChangeAt Go.RowKit Go.Deep
set_option linter.unusedVariables false
set_option maxHeartbeats 400000

theorem orNone_any {p : Pl} {s : St} (w : World) (h : Ar w p s) :
    Calls Try.prog 48 #[.pointer (some ⟨p.a, 0, none⟩)] w fun e w' => e = .returned (.pointer (some ⟨p.a, 0, none⟩)) ∧ w' = w := by
  obtain ⟨c0, c1, c2, c3, c4, c5, c6⟩ := h.cells
  go_enter Try.func48, Try.ntmps48
  go_wp2
  all_goals go_ret
  all_goals exact ⟨rfl, rfl⟩
theorem half_any {p : Pl} {s : St} (w : World) (h : Ar w p s) :
    Calls Try.prog 67 #[.pointer (some ⟨p.a, 0, none⟩)] w fun e w' => e = .returned (.int .i64 s.n) ∧ w' = w := by
  obtain ⟨c0, c1, c2, c3, c4, c5, c6⟩ := h.cells
  go_enter Try.func67, Try.ntmps67
  go_wp2_with (go_at_call 48; refine (orNone_any _ h).mono ?_; rintro e w' ⟨rfl, rfl⟩)
  all_goals go_ret
  all_goals exact ⟨rfl, rfl⟩
theorem base_any {p : Pl} {s : St} (w : World) (h : Ar w p s) :
    Calls Try.prog 68 #[.pointer (some ⟨p.a, 0, none⟩)] w fun e w' => e = .returned (.int .i64 s.base) ∧ w' = w := by
  obtain ⟨c0, c1, c2, c3, c4, c5, c6⟩ := h.cells
  go_enter Try.func68, Try.ntmps68
  go_wp2_with (go_at_call 48; refine (orNone_any _ h).mono ?_; rintro e w' ⟨rfl, rfl⟩)
  all_goals go_ret
  all_goals exact ⟨rfl, rfl⟩
theorem inUse_any {p : Pl} {s : St} (c : Int) (w : World) (h : Ar w p s) :
    Calls Try.prog 90 #[.pointer (some ⟨p.h, 0, none⟩), .int .i64 c] w fun e w' => e = .returned (.bool (s.inUse c)) ∧ w' = w := by
  obtain ⟨c0, c1, c2, c3, c4, c5, c6⟩ := h.cells
  unfold St.inUse
  by_cases g1 : (s.base : Int) ≤ c
  · by_cases g2 : c < (s.top : Int)
    all_goals
      go_enter Try.func90, Try.ntmps90
      go_wp2
      all_goals go_ret
      all_goals exact ⟨ret_bool (by simp [g1, g2]), rfl⟩
  · go_enter Try.func90, Try.ntmps90
    go_wp2
    all_goals go_ret
    all_goals exact ⟨ret_bool (by simp; omega), rfl⟩
theorem tagAt_any {p : Pl} {s : St} (a : Int) (w : World) (h : Ar w p s) (h0 : 1 ≤ a) (h1 : a ≤ 2 * s.n) :
    Calls Try.prog 78 #[.pointer (some ⟨p.a, 0, none⟩), .int .i64 a] w fun e w' => e = .returned (.int .i64 (s.tagAt a)) ∧ w' = w := by
  obtain ⟨c0, c1, c2, c3, c4, c5, c6⟩ := h.cells
  have n2 := h.n2
  have cc := h.cellC (a.toNat - 1) (by omega)
  have lo := h.lo (a.toNat - 1)
  have hi := h.hi (a.toNat - 1)
  unfold St.tagAt
  go_enter Try.func78, Try.ntmps78
  go_wp2_with (go_at_call 92; refine (tag_any _ _ (by omega) (by omega)).mono ?_; rintro e w' ⟨rfl, rfl⟩)
  all_goals go_ret
  all_goals exact ⟨rfl, rfl⟩
theorem sizeAt_any {p : Pl} {s : St} (a : Int) (w : World) (h : Ar w p s) (h0 : 1 ≤ a) (h1 : a ≤ 2 * s.n) :
    Calls Try.prog 80 #[.pointer (some ⟨p.a, 0, none⟩), .int .i64 a] w fun e w' => e = .returned (.int .i64 (s.sizeAt a)) ∧ w' = w := by
  obtain ⟨c0, c1, c2, c3, c4, c5, c6⟩ := h.cells
  have n2 := h.n2
  have cc := h.cellC (a.toNat - 1) (by omega)
  have lo := h.lo (a.toNat - 1)
  have hi := h.hi (a.toNat - 1)
  unfold St.sizeAt
  go_enter Try.func80, Try.ntmps80
  go_wp2_with (go_at_call 91; refine (size_any _ _ (by omega) (by omega)).mono ?_; rintro e w' ⟨rfl, rfl⟩)
  all_goals go_ret
  all_goals exact ⟨rfl, rfl⟩
theorem inUse_at {p : Pl} {s : St} (c : Int) (b : Bool) (w : World) (h : Ar w p s) (g : s.inUse c = b) :
    Calls Try.prog 90 #[.pointer (some ⟨p.h, 0, none⟩), .int .i64 c] w fun e w' => e = .returned (.bool b) ∧ w' = w := by
  subst g; exact inUse_any c w h
theorem wrapId (x : Int) (h : -9223372036854775808 ≤ x) (h' : x ≤ 9223372036854775807) : IntKind.i64.wrap x = x := by
  rw [wrap_i64, wrap64_def]; omega
theorem isBlock_any {p : Pl} {s : St} (a : Int) (w : World) (h : Ar w p s) (h0 : -4294967296 ≤ a) (h1 : a ≤ 4294967296) :
    Calls Try.prog 89 #[.pointer (some ⟨p.a, 0, none⟩), .int .i64 a] w fun e w' => e = .returned (.bool (s.isBlk a)) ∧ ∃ m, w' = w.drewN m := by
  obtain ⟨c0, c1, c2, c3, c4, c5, c6⟩ := h.cells
  have n2 := h.n2
  have b1 := h.b1
  have t2 := h.t2
  have e1 := wrapId (a - 1) (by omega) (by omega)
  have e2 := wrapId (a - 1 - s.base) (by omega) (by omega)
  cases g : s.inUse (a - 1)
  · have HV : Hid (s.isBlk a = false) := by show s.isBlk a = false; unfold St.isBlk; rw [g]; rfl
    go_enter Try.func89, Try.ntmps89
    go_wp2
    go_quiet ((go_at_call 90; exact Calls.quiet_of_same (inUse_at _ false _ (h.drewN _) g)))
    go_wp2
    go_ret
    exact ⟨ret_bool HV.out.symm, _, rfl⟩
  · have HV : Hid (s.isBlk a = s.H (a.toNat - 1 - s.base)) := by show s.isBlk a = _; unfold St.isBlk; rw [g]; rfl
    have g' := g
    unfold St.inUse at g'
    simp at g'
    have g1 : 0 ≤ a - 1 - s.base := by omega
    have g2 : a - 1 - s.base < s.n := by omega
    have cc := h.cellB (a.toNat - 1 - s.base) (by omega)
    clear g'
    go_enter Try.func89, Try.ntmps89
    go_wp2
    go_quiet ((go_at_call 90; exact Calls.quiet_of_same (inUse_at _ true _ (h.drewN _) g)))
    go_wp2
    go_ret
    exact ⟨ret_bool HV.out.symm, _, rfl⟩
theorem isBlock_at {p : Pl} {s : St} (a : Int) (b : Bool) (w : World) (h : Ar w p s) (h0 : -4294967296 ≤ a) (h1 : a ≤ 4294967296) (g : s.isBlk a = b) :
    Calls Try.prog 89 #[.pointer (some ⟨p.a, 0, none⟩), .int .i64 a] w fun e w' => e = .returned (.bool b) ∧ ∃ m, w' = w.drewN m := by
  subst g; exact isBlock_any a w h h0 h1
end Go.Proofs.Ytcbgjkedmboifab

/-
  What find, Leads, Tag, Size, field and Get tell, by plain arithmetic over the arena's state; the world is as it was but for draws of an order. Condition: the arena lies in memory (Ar), a word's argument is one.
-/
namespace Go.Proofs.Ytcbgjkedmboifab
open Go.ChangeShapes Go.WideShapes Go.ChangeAt Go.RowKit Go.Deep
set_option linter.unusedVariables false
set_option maxHeartbeats 400000

theorem blk_rng {w : World} {p : Pl} {s : St} (h : Ar w p s) {a : Int} (g : s.isBlk a = true) : 1 ≤ a ∧ a ≤ 2 * s.n := by
  have := h.b1; have := h.t1; have := h.t2
  unfold St.isBlk St.inUse at g
  simp at g
  omega
theorem use_rng {w : World} {p : Pl} {s : St} (h : Ar w p s) {a : Int} (g : s.inUse a = true) : 0 ≤ a ∧ a < 2 * s.n := by
  have := h.b1; have := h.t1; have := h.t2
  unfold St.inUse at g
  simp at g
  omega
theorem addrW_lo (x : Int) (h : 0 ≤ x) : 0 ≤ addrW x := by unfold addrW; split <;> omega
theorem addrW_hi (x : Int) : addrW x ≤ 2147483647 := by unfold addrW; split <;> omega
theorem sizeW_lo (x : Int) : 0 ≤ sizeW x := by
  unfold sizeW; split
  · rename_i h; unfold isHeadW at h; simp at h; omega
  · omega
theorem sizeW_hi (x : Int) : sizeW x ≤ 2147483647 := by
  unfold sizeW; split
  · rename_i h; unfold isHeadW at h; simp at h; omega
  · omega
theorem isInner_any {p : Pl} {s : St} (a d : Int) (w : World) (h : Ar w p s) (h0 : -4294967296 ≤ a) (h1 : a ≤ 4294967296) :
    Calls Try.prog 93 #[.pointer (some ⟨p.a, 0, none⟩), .int .i64 a, .int .i64 d] w fun e w' => e = .returned (.bool (s.isInr a d)) ∧ ∃ m, w' = w.drewN m := by
  cases g : s.isBlk a
  · have HV : Hid (s.isInr a d = false) := by show _ = _; unfold St.isInr; rw [g]; rfl
    go_enter Try.func93, Try.ntmps93
    go_wp2_with (go_at_call 89; refine (isBlock_at a false _ h h0 h1 g).mono ?_; rintro e w' ⟨rfl, m, rfl⟩)
    go_ret
    exact ⟨ret_bool HV.out.symm, _, rfl⟩
  · obtain ⟨r1, r2⟩ := blk_rng h g
    by_cases g2 : s.tagAt a = 200
    · have HV : Hid (s.isInr a d = decide (d < s.sizeAt a)) := by show _ = _; unfold St.isInr; rw [g, g2]; simp
      have G2 : (s.tagAt a == 200) = true := by rw [beq_iff_eq]; exact g2
      clear g2
      go_enter Try.func93, Try.ntmps93
      go_wp2_with (first | (go_at_call 89; refine (isBlock_at a true _ h h0 h1 g).mono ?_; rintro e w' ⟨rfl, m, rfl⟩) | (go_at_call 78; refine (tagAt_any a _ (h.drewN _) r1 r2).mono ?_; rintro e w' ⟨rfl, rfl⟩) | (go_at_call 80; refine (sizeAt_any a _ (h.drewN _) r1 r2).mono ?_; rintro e w' ⟨rfl, rfl⟩))
      all_goals go_ret
      all_goals exact ⟨ret_bool HV.out.symm, _, rfl⟩
    · have HV : Hid (s.isInr a d = false) := by show _ = _; unfold St.isInr; rw [g, beq_eq_false_iff_ne.2 g2]; simp
      have G2 : (s.tagAt a == 200) = false := beq_eq_false_iff_ne.2 g2
      clear g2
      go_enter Try.func93, Try.ntmps93
      go_wp2_with (first | (go_at_call 89; refine (isBlock_at a true _ h h0 h1 g).mono ?_; rintro e w' ⟨rfl, m, rfl⟩) | (go_at_call 78; refine (tagAt_any a _ (h.drewN _) r1 r2).mono ?_; rintro e w' ⟨rfl, rfl⟩))
      all_goals go_ret
      all_goals exact ⟨ret_bool HV.out.symm, _, rfl⟩
theorem isInner_at {p : Pl} {s : St} (a d : Int) (b : Bool) (w : World) (h : Ar w p s) (h0 : -4294967296 ≤ a) (h1 : a ≤ 4294967296) (g : s.isInr a d = b) :
    Calls Try.prog 93 #[.pointer (some ⟨p.a, 0, none⟩), .int .i64 a, .int .i64 d] w fun e w' => e = .returned (.bool b) ∧ ∃ m, w' = w.drewN m := by
  subst g; exact isInner_any a d w h h0 h1
theorem ret_pair {k l : IntKind} {a b c d : Int} {q : Int × Int} (h : q = (c, d)) (h1 : a = c) (h2 : b = d) : Ending.returned (.tuple #[.int k a, .int l b]) = .returned (.tuple #[.int k q.1, .int l q.2]) := by rw [h, h1, h2]
theorem find_any {p : Pl} {s : St} (x : Int) (w : World) (h : Ar w p s) (h0 : 0 ≤ x) (h1 : x ≤ 18446744073709551615) :
    Calls Try.prog 77 #[.pointer (some ⟨p.a, 0, none⟩), .int .u64 x] w fun e w' => e = .returned (.tuple #[.int .i64 (s.find x).1, .int .i64 (s.find x).2]) ∧ ∃ m, w' = w.drewN m := by
  obtain ⟨c0, c1, c2, c3, c4, c5, c6⟩ := h.cells
  have n2 := h.n2
  have a0 := addrW_lo x h0
  have a1 := addrW_hi x
  cases g : s.isBlk (addrW x)
  · cases g2 : s.inUse (addrW x - 1)
    · have HV : Hid (s.find x = (0, 0)) := by show _ = _; unfold St.find; rw [if_neg (by rw [g]; simp), if_pos g2]
      go_enter Try.func77, Try.ntmps77
      go_wp2_with (first | (go_at_call 87; refine (addr_any x _ h0 h1).mono ?_; rintro e w' ⟨rfl, rfl⟩) | (go_at_call 89; refine (isBlock_at _ false _ h (by omega) (by omega) g).mono ?_; rintro e w' ⟨rfl, m, rfl⟩) | (go_at_call 90; refine (inUse_at _ false _ (h.drewN _) g2).mono ?_; rintro e w' ⟨rfl, rfl⟩))
      all_goals go_ret2
      all_goals exact ⟨ret_pair HV.out rfl rfl, _, rfl⟩
    · obtain ⟨u1, u2⟩ := use_rng h g2
      have cc := h.cellC ((addrW x).toNat - 1) (by omega)
      have lo := h.lo ((addrW x).toNat - 1)
      have hi := h.hi ((addrW x).toNat - 1)
      have s0 := sizeW_lo (s.C ((addrW x).toNat - 1))
      have s1 := sizeW_hi (s.C ((addrW x).toNat - 1))
      by_cases g3 : s.tagAt (addrW x) = 201
      · have G3 : (tagW (s.C ((addrW x).toNat - 1)) == 201) = true := by rw [beq_iff_eq]; exact g3
        have G3' : (tagW (s.C ((addrW x).toNat - 1)) != 201) = false := by rw [bne, G3]; rfl
        cases g4 : s.isInr (addrW x - sizeW (s.C ((addrW x).toNat - 1))) (sizeW (s.C ((addrW x).toNat - 1)))
        · have HV : Hid (s.find x = (0, 0)) := by show _ = _; unfold St.find; rw [if_neg (by rw [g]; simp), if_neg (by rw [g2]; simp), if_neg (by rintro ⟨_, e⟩; unfold St.sizeAt at e; rw [g4] at e; cases e)]
          clear g3
          go_enter Try.func77, Try.ntmps77
          go_wp2_with (first | (go_at_call 87; refine (addr_any x _ h0 h1).mono ?_; rintro e w' ⟨rfl, rfl⟩) | (go_at_call 89; refine (isBlock_at _ false _ h (by omega) (by omega) g).mono ?_; rintro e w' ⟨rfl, m, rfl⟩) | (go_at_call 90; refine (inUse_at _ true _ (h.drewN _) g2).mono ?_; rintro e w' ⟨rfl, rfl⟩) | (go_at_call 91; refine (size_any _ _ (by omega) (by omega)).mono ?_; rintro e w' ⟨rfl, rfl⟩) | (go_at_call 92; refine (tag_any _ _ (by omega) (by omega)).mono ?_; rintro e w' ⟨rfl, rfl⟩) | (go_at_call 93; refine (isInner_at _ _ false _ (h.drewN _) (by omega) (by omega) g4).mono ?_; rintro e w' ⟨rfl, m', rfl⟩))
          all_goals go_ret2
          all_goals exact ⟨ret_pair HV.out rfl rfl, _, rfl⟩
        · have HV : Hid (s.find x = (addrW x - sizeW (s.C ((addrW x).toNat - 1)), sizeW (s.C ((addrW x).toNat - 1)))) := by show _ = _; unfold St.find; rw [if_neg (by rw [g]; simp), if_neg (by rw [g2]; simp), if_pos ⟨g3, g4⟩]; rfl
          clear g3
          go_enter Try.func77, Try.ntmps77
          go_wp2_with (first | (go_at_call 87; refine (addr_any x _ h0 h1).mono ?_; rintro e w' ⟨rfl, rfl⟩) | (go_at_call 89; refine (isBlock_at _ false _ h (by omega) (by omega) g).mono ?_; rintro e w' ⟨rfl, m, rfl⟩) | (go_at_call 90; refine (inUse_at _ true _ (h.drewN _) g2).mono ?_; rintro e w' ⟨rfl, rfl⟩) | (go_at_call 91; refine (size_any _ _ (by omega) (by omega)).mono ?_; rintro e w' ⟨rfl, rfl⟩) | (go_at_call 92; refine (tag_any _ _ (by omega) (by omega)).mono ?_; rintro e w' ⟨rfl, rfl⟩) | (go_at_call 93; refine (isInner_at _ _ true _ (h.drewN _) (by omega) (by omega) g4).mono ?_; rintro e w' ⟨rfl, m', rfl⟩))
          all_goals go_ret2
          all_goals exact ⟨ret_pair HV.out rfl rfl, _, rfl⟩
      · have HV : Hid (s.find x = (0, 0)) := by show _ = _; unfold St.find; rw [if_neg (by rw [g]; simp), if_neg (by rw [g2]; simp), if_neg (fun e => g3 e.1)]
        have G3 : (tagW (s.C ((addrW x).toNat - 1)) == 201) = false := beq_eq_false_iff_ne.2 g3
        have G3' : (tagW (s.C ((addrW x).toNat - 1)) != 201) = true := by rw [bne, G3]; rfl
        clear g3
        go_enter Try.func77, Try.ntmps77
        go_wp2_with (first | (go_at_call 87; refine (addr_any x _ h0 h1).mono ?_; rintro e w' ⟨rfl, rfl⟩) | (go_at_call 89; refine (isBlock_at _ false _ h (by omega) (by omega) g).mono ?_; rintro e w' ⟨rfl, m, rfl⟩) | (go_at_call 90; refine (inUse_at _ true _ (h.drewN _) g2).mono ?_; rintro e w' ⟨rfl, rfl⟩) | (go_at_call 91; refine (size_any _ _ (by omega) (by omega)).mono ?_; rintro e w' ⟨rfl, rfl⟩) | (go_at_call 92; refine (tag_any _ _ (by omega) (by omega)).mono ?_; rintro e w' ⟨rfl, rfl⟩))
        all_goals go_ret2
        all_goals exact ⟨ret_pair HV.out rfl rfl, _, rfl⟩
  · have HV : Hid (s.find x = (addrW x, 0)) := by show _ = _; unfold St.find; rw [if_pos g]
    go_enter Try.func77, Try.ntmps77
    go_wp2_with (first | (go_at_call 87; refine (addr_any x _ h0 h1).mono ?_; rintro e w' ⟨rfl, rfl⟩) | (go_at_call 89; refine (isBlock_at _ true _ h (by omega) (by omega) g).mono ?_; rintro e w' ⟨rfl, m, rfl⟩))
    all_goals go_ret2
    all_goals exact ⟨ret_pair HV.out rfl rfl, _, rfl⟩
end Go.Proofs.Ytcbgjkedmboifab

/-
  What Leads, Tag, Size, field and Get tell, by plain arithmetic over the arena's state; the world is as it was but for draws of an order. Condition: the arena lies in memory (Ar), a word's argument is one.
-/
namespace Go.Proofs.Ytcbgjkedmboifab
open Go.ChangeShapes Go.WideShapes Go.ChangeAt Go.RowKit Go.Deep
set_option linter.unusedVariables false
set_option maxHeartbeats 400000

theorem ret_two {k l : IntKind} {a b c d : Int} (h1 : a = c) (h2 : b = d) : Ending.returned (.tuple #[.int k a, .int l b]) = .returned (.tuple #[.int k c, .int l d]) := by rw [h1, h2]
theorem find_blk {s : St} {x : Int} (g : (s.find x).1 ≠ 0) : s.isBlk (s.find x).1 = true := by
  revert g
  unfold St.find
  split
  · intro _; assumption
  · split
    · intro g; exact absurd rfl g
    · split
      · rename_i h; intro _
        have := h.2
        unfold St.isInr at this
        simp at this
        exact this.1.1
      · intro g; exact absurd rfl g
theorem find_rng {w : World} {p : Pl} {s : St} (h : Ar w p s) (x : Int) : 0 ≤ (s.find x).1 ∧ (s.find x).1 ≤ 2 * s.n := by
  by_cases g : (s.find x).1 = 0
  · rw [g]; omega
  · have := blk_rng h (find_blk g); omega
theorem leads_any {p : Pl} {s : St} (x : Int) (w : World) (h : Ar w p s) (h0 : 0 ≤ x) (h1 : x ≤ 18446744073709551615) :
    Calls Try.prog 86 #[.pointer (some ⟨p.a, 0, none⟩), .int .u64 x] w fun e w' => e = .returned (.tuple #[.int .u64 (2 * (s.find x).1), .int .i64 (s.find x).2]) ∧ ∃ m, w' = w.drewN m := by
  obtain ⟨r0, r1⟩ := find_rng h x
  have n2 := h.n2
  have HP : Hid (ptrW (s.find x).1 = 2 * (s.find x).1) := by show _ = _; unfold ptrW; rw [if_neg (by omega)]
  go_enter Try.func86, Try.ntmps86
  go_wp2_with (first | (go_at_call 48; refine (orNone_any _ h).mono ?_; rintro e w' ⟨rfl, rfl⟩) | (go_at_call 77; refine (find_any x _ h h0 h1).mono ?_; rintro e w' ⟨rfl, m, rfl⟩) | (go_at_call 52; refine (ptr_any _ _ (by omega) (by omega)).mono ?_; rintro e w' ⟨rfl, rfl⟩))
  all_goals go_ret2
  all_goals exact ⟨ret_two HP.out rfl, _, rfl⟩
theorem tag_of {p : Pl} {s : St} (x : Int) (w : World) (h : Ar w p s) (h0 : 0 ≤ x) (h1 : x ≤ 18446744073709551615) :
    Calls Try.prog 42 #[.pointer (some ⟨p.a, 0, none⟩), .int .u64 x] w fun e w' => e = .returned (.int .i64 (s.tag x)) ∧ ∃ m, w' = w.drewN m := by
  obtain ⟨r0, r1⟩ := find_rng h x
  by_cases g : (s.find x).1 = 0
  · have HV : Hid (s.tag x = -1) := by show _ = _; unfold St.tag; rw [if_pos g]
    have G : ((s.find x).1 == 0) = true := by rw [beq_iff_eq]; exact g
    clear g
    go_enter Try.func42, Try.ntmps42
    go_wp2_with (first | (go_at_call 48; refine (orNone_any _ h).mono ?_; rintro e w' ⟨rfl, rfl⟩) | (go_at_call 77; refine (find_any x _ h h0 h1).mono ?_; rintro e w' ⟨rfl, m, rfl⟩))
    all_goals go_ret
    all_goals exact ⟨ret_int HV.out.symm, _, rfl⟩
  · have HV : Hid (s.tag x = s.tagAt (s.find x).1) := by show _ = _; unfold St.tag; rw [if_neg g]
    have G : ((s.find x).1 == 0) = false := beq_eq_false_iff_ne.2 g
    have g1 : 1 ≤ (s.find x).1 := by omega
    clear g
    go_enter Try.func42, Try.ntmps42
    go_wp2_with (first | (go_at_call 48; refine (orNone_any _ h).mono ?_; rintro e w' ⟨rfl, rfl⟩) | (go_at_call 77; refine (find_any x _ h h0 h1).mono ?_; rintro e w' ⟨rfl, m, rfl⟩) | (go_at_call 78; refine (tagAt_any _ _ (h.drewN _) g1 r1).mono ?_; rintro e w' ⟨rfl, rfl⟩))
    all_goals go_ret
    all_goals exact ⟨ret_int HV.out.symm, _, rfl⟩
theorem size_of {p : Pl} {s : St} (x : Int) (w : World) (h : Ar w p s) (h0 : 0 ≤ x) (h1 : x ≤ 18446744073709551615) :
    Calls Try.prog 44 #[.pointer (some ⟨p.a, 0, none⟩), .int .u64 x] w fun e w' => e = .returned (.int .i64 (s.size x)) ∧ ∃ m, w' = w.drewN m := by
  obtain ⟨r0, r1⟩ := find_rng h x
  by_cases g : (s.find x).1 = 0
  · have HV : Hid (s.size x = -1) := by show _ = _; unfold St.size; rw [if_pos g]
    have G : ((s.find x).1 == 0) = true := by rw [beq_iff_eq]; exact g
    clear g
    go_enter Try.func44, Try.ntmps44
    go_wp2_with (first | (go_at_call 48; refine (orNone_any _ h).mono ?_; rintro e w' ⟨rfl, rfl⟩) | (go_at_call 77; refine (find_any x _ h h0 h1).mono ?_; rintro e w' ⟨rfl, m, rfl⟩))
    all_goals go_ret
    all_goals exact ⟨ret_int HV.out.symm, _, rfl⟩
  · have HV : Hid (s.size x = s.sizeAt (s.find x).1) := by show _ = _; unfold St.size; rw [if_neg g]
    have G : ((s.find x).1 == 0) = false := beq_eq_false_iff_ne.2 g
    have g1 : 1 ≤ (s.find x).1 := by omega
    clear g
    go_enter Try.func44, Try.ntmps44
    go_wp2_with (first | (go_at_call 48; refine (orNone_any _ h).mono ?_; rintro e w' ⟨rfl, rfl⟩) | (go_at_call 77; refine (find_any x _ h h0 h1).mono ?_; rintro e w' ⟨rfl, m, rfl⟩) | (go_at_call 80; refine (sizeAt_any _ _ (h.drewN _) g1 r1).mono ?_; rintro e w' ⟨rfl, rfl⟩))
    all_goals go_ret
    all_goals exact ⟨ret_int HV.out.symm, _, rfl⟩
/-- The cell of a field; 0 where there is none. -/
def St.fieldC (s : St) (x i : Int) : Int := if s.fieldE x i = 0 then (s.find x).1 + i else 0
theorem field_any {p : Pl} {s : St} (x i : Int) (w : World) (h : Ar w p s) (h0 : 0 ≤ x) (h1 : x ≤ 18446744073709551615) :
    Calls Try.prog 56 #[.pointer (some ⟨p.a, 0, none⟩), .int .u64 x, .int .i64 i] w fun e w' => e = .returned (.tuple #[.int .i64 (s.fieldC x i), .int .i64 (s.fieldE x i)]) ∧ ∃ m, w' = w.drewN m := by
  obtain ⟨r0, r1⟩ := find_rng h x
  have n2 := h.n2
  have s1 : s.sizeAt (s.find x).1 ≤ 2147483647 := sizeW_hi _
  by_cases g : (s.find x).1 = 0
  · have HV : Hid (s.fieldE x i = 6) := by show _ = _; unfold St.fieldE; rw [if_pos g]
    have HC : Hid (s.fieldC x i = 0) := by show _ = _; unfold St.fieldC; rw [if_neg (by rw [HV.out]; omega)]
    have G : ((s.find x).1 == 0) = true := by rw [beq_iff_eq]; exact g
    clear g
    go_enter Try.func56, Try.ntmps56
    go_wp2_with (first | (go_at_call 77; refine (find_any x _ h h0 h1).mono ?_; rintro e w' ⟨rfl, m, rfl⟩))
    all_goals go_ret2
    all_goals exact ⟨ret_two HC.out.symm HV.out.symm, _, rfl⟩
  · have G : ((s.find x).1 == 0) = false := beq_eq_false_iff_ne.2 g
    have g1 : 1 ≤ (s.find x).1 := by omega
    by_cases c1 : i < 0
    · have HV : Hid (s.fieldE x i = 2) := by show _ = _; unfold St.fieldE; rw [if_neg g, if_pos (Or.inl c1)]
      have HC : Hid (s.fieldC x i = 0) := by show _ = _; unfold St.fieldC; rw [if_neg (by rw [HV.out]; omega)]
      clear g
      go_enter Try.func56, Try.ntmps56
      go_wp2_with (first | (go_at_call 77; refine (find_any x _ h h0 h1).mono ?_; rintro e w' ⟨rfl, m, rfl⟩))
      all_goals go_ret2
      all_goals exact ⟨ret_two HC.out.symm HV.out.symm, _, rfl⟩
    · by_cases c2 : s.sizeAt (s.find x).1 ≤ i
      · have HV : Hid (s.fieldE x i = 2) := by show _ = _; unfold St.fieldE; rw [if_neg g, if_pos (Or.inr c2)]
        have HC : Hid (s.fieldC x i = 0) := by show _ = _; unfold St.fieldC; rw [if_neg (by rw [HV.out]; omega)]
        clear g
        go_enter Try.func56, Try.ntmps56
        go_wp2_with (first | (go_at_call 77; refine (find_any x _ h h0 h1).mono ?_; rintro e w' ⟨rfl, m, rfl⟩) | (go_at_call 80; refine (sizeAt_any _ _ (h.drewN _) g1 r1).mono ?_; rintro e w' ⟨rfl, rfl⟩))
        all_goals go_ret2
        all_goals exact ⟨ret_two HC.out.symm HV.out.symm, _, rfl⟩
      · have HV : Hid (s.fieldE x i = 0) := by show _ = _; unfold St.fieldE; rw [if_neg g, if_neg (by omega)]
        have HC : Hid (s.fieldC x i = (s.find x).1 + i) := by show _ = _; unfold St.fieldC; rw [if_pos HV.out]
        clear g
        go_enter Try.func56, Try.ntmps56
        go_wp2_with (first | (go_at_call 77; refine (find_any x _ h h0 h1).mono ?_; rintro e w' ⟨rfl, m, rfl⟩) | (go_at_call 80; refine (sizeAt_any _ _ (h.drewN _) g1 r1).mono ?_; rintro e w' ⟨rfl, rfl⟩))
        all_goals go_ret2
        all_goals exact ⟨ret_two HC.out.symm HV.out.symm, _, rfl⟩
theorem blk_head {w : World} {p : Pl} {s : St} (h : Ar w p s) {a : Int} (g : s.isBlk a = true) : (s.base : Int) + 1 ≤ a ∧ a ≤ s.top := by
  unfold St.isBlk St.inUse at g
  simp at g
  omega
/-- The blocks lie within what is in use. -/
def St.Fits (s : St) : Prop := ∀ a : Int, s.isBlk a = true → a + s.sizeAt a ≤ s.top
theorem field_rng {w : World} {p : Pl} {s : St} (h : Ar w p s) (hf : s.Fits) {x i : Int} (g : s.fieldE x i = 0) : 1 ≤ s.fieldC x i ∧ s.fieldC x i < 2 * s.n ∧ 0 ≤ i ∧ 1 ≤ (s.find x).1 := by
  unfold St.fieldC
  rw [if_pos g]
  unfold St.fieldE at g
  split at g
  · exact absurd g (by decide)
  · rename_i c
    split at g
    · exact absurd g (by decide)
    · rename_i c2
      have := find_rng h x
      have f := hf _ (find_blk c)
      have := h.b1; have := h.t2
      omega
theorem get_any {p : Pl} {s : St} (x i : Int) (w : World) (h : Ar w p s) (hf : s.Fits) (h0 : 0 ≤ x) (h1 : x ≤ 18446744073709551615) :
    Calls Try.prog 62 #[.pointer (some ⟨p.a, 0, none⟩), .int .u64 x, .int .i64 i] w fun e w' => e = .returned (.tuple #[.int .u64 (s.get x i), .int .i64 (s.fieldE x i)]) ∧ ∃ m, w' = w.drewN m := by
  obtain ⟨c0, c1, c2, c3, c4, c5, c6⟩ := h.cells
  by_cases g : s.fieldE x i = 0
  · have HV : Hid (s.get x i = s.C (s.fieldC x i).toNat) := by show _ = _; unfold St.get St.fieldC; rw [if_pos g, if_pos g]
    have HE : Hid (s.fieldE x i = 0) := g
    have G : (s.fieldE x i != 0) = false := by rw [g]; rfl
    obtain ⟨f0, f1, f2, f3⟩ := field_rng h hf g
    have cc := h.cellC (s.fieldC x i).toNat (by omega)
    clear g
    go_enter Try.func62, Try.ntmps62
    go_wp2_with (first | (go_at_call 48; refine (orNone_any _ h).mono ?_; rintro e w' ⟨rfl, rfl⟩) | (go_at_call 56; refine (field_any x i _ h h0 h1).mono ?_; rintro e w' ⟨rfl, m, rfl⟩))
    all_goals go_ret2
    all_goals exact ⟨ret_two HV.out.symm HE.out.symm, _, rfl⟩
  · have HV : Hid (s.get x i = 0) := by show _ = _; unfold St.get; rw [if_neg g]
    have G : (s.fieldE x i != 0) = true := by rw [bne_iff_ne]; exact g
    clear g
    go_enter Try.func62, Try.ntmps62
    go_wp2_with (first | (go_at_call 48; refine (orNone_any _ h).mono ?_; rintro e w' ⟨rfl, rfl⟩) | (go_at_call 56; refine (field_any x i _ h h0 h1).mono ?_; rintro e w' ⟨rfl, m, rfl⟩))
    all_goals go_ret2
    all_goals exact ⟨ret_two HV.out.symm rfl, _, rfl⟩
end Go.Proofs.Ytcbgjkedmboifab

/-
  What Set, take, fill, Alloc make of the arena's state, by plain arithmetic; nothing but the arena's own blocks is written. Condition: the arena lies in memory (Ar), its blocks lie within what is in use (Fits).
-/
namespace Go.Proofs.Ytcbgjkedmboifab
open Go.ChangeShapes Go.WideShapes Go.ChangeAt Go.RowKit Go.Deep
set_option linter.unusedVariables false
set_option maxHeartbeats 400000

theorem Ar.setC {w : World} {p : Pl} {s : St} (h : Ar w p s) (i : Nat) (v : Int) (h0 : 0 ≤ v) (h1 : v ≤ 18446744073709551615) :
    Ar (w.setCell ⟨p.c, i, none⟩ (.int .u64 v)) p { s with C := fun j => if j = i then v else s.C j } := by
  obtain ⟨e1, e2, e3, e4, e5, e6⟩ := h.nh
  exact { ha := by rw [blk_setCell_other _ _ _ _ e2]; exact h.ha, hh := by rw [blk_setCell_other _ _ _ _ e4]; exact h.hh, hc := (h.hc.set i _).congr (fun j hj => by show (if j = i then _ else _) = Value.int _ (if j = i then _ else _); split <;> rfl), hb := h.hb.setOther (Ne.symm e6) _,
          n1 := h.n1, n2 := h.n2, b1 := h.b1, t1 := h.t1, t2 := h.t2, lo := fun j => by show 0 ≤ (if j = i then v else s.C j); split; exact h0; exact h.lo j, hi := fun j => by show (if j = i then v else s.C j) ≤ _; split; exact h1; exact h.hi j }
theorem Ar.setB {w : World} {p : Pl} {s : St} (h : Ar w p s) (i : Nat) (v : Bool) :
    Ar (w.setCell ⟨p.b, i, none⟩ (.bool v)) p { s with H := fun j => if j = i then v else s.H j } := by
  obtain ⟨e1, e2, e3, e4, e5, e6⟩ := h.nh
  exact { ha := by rw [blk_setCell_other _ _ _ _ e3]; exact h.ha, hh := by rw [blk_setCell_other _ _ _ _ e5]; exact h.hh, hb := (h.hb.set i _).congr (fun j hj => by show (if j = i then _ else _) = Value.bool (if j = i then _ else _); split <;> rfl), hc := h.hc.setOther e6 _,
          n1 := h.n1, n2 := h.n2, b1 := h.b1, t1 := h.t1, t2 := h.t2, lo := h.lo, hi := h.hi }
theorem Ar.setTop {w : World} {p : Pl} {s : St} (h : Ar w p s) (t : Nat) (h1 : s.base ≤ t) (h2 : t ≤ s.base + s.n) :
    Ar (w.setCell ⟨p.h, 3, none⟩ (.int .i64 t)) p { s with top := t } := by
  obtain ⟨e1, e2, e3, e4, e5, e6⟩ := h.nh
  exact { ha := by rw [blk_setCell_other _ _ _ _ e1]; exact h.ha, hh := by simp [World.setCell, Array.getElem?_modify, h.hh], hb := h.hb.setOther (Ne.symm e5) _, hc := h.hc.setOther (Ne.symm e4) _,
          n1 := h.n1, n2 := h.n2, b1 := h.b1, t1 := h1, t2 := h2, lo := h.lo, hi := h.hi }
theorem Ar.setTopI {w : World} {p : Pl} {s : St} (h : Ar w p s) (t : Nat) (v : Int) (hv : v = t) (h1 : s.base ≤ t) (h2 : t ≤ s.base + s.n) :
    Ar (w.setCell ⟨p.h, 3, none⟩ (.int .i64 v)) p { s with top := t } := by subst hv; exact h.setTop t h1 h2
theorem Ar.frozenC {w : World} {p : Pl} {s : St} (h : Ar w p s) (i : Nat) : w.frozen? ⟨p.c, i, none⟩ = false := h.hc.frozen i
theorem Ar.frozenB {w : World} {p : Pl} {s : St} (h : Ar w p s) (i : Nat) : w.frozen? ⟨p.b, i, none⟩ = false := h.hb.frozen i
theorem set_any {p : Pl} {s : St} (x i v : Int) (w : World) (h : Ar w p s) (hf : s.Fits) (h0 : 0 ≤ x) (h1 : x ≤ 18446744073709551615) (v0 : 0 ≤ v) (v1 : v ≤ 18446744073709551615) :
    Calls Try.prog 23 #[.pointer (some ⟨p.a, 0, none⟩), .int .u64 x, .int .i64 i, .int .u64 v] w fun e w' => e = .returned (.int .i64 (s.fieldE x i)) ∧ Ar w' p (s.put x i v) ∧ Only p.own w w' := by
  obtain ⟨c0, c1, c2, c3, c4, c5, c6⟩ := h.cells
  by_cases g : s.fieldE x i = 0
  · have HE : Hid (s.fieldE x i = 0) := g
    have HP : Hid (s.put x i v = { s with C := fun j => if j = (s.fieldC x i).toNat then v else s.C j }) := by show _ = _; unfold St.put St.fieldC; rw [if_pos g, if_pos g]
    have G : (s.fieldE x i != 0) = false := by rw [g]; rfl
    obtain ⟨f0, f1, f2, f3⟩ := field_rng h hf g
    have cc := h.cellC (s.fieldC x i).toNat (by omega)
    have cf := h.frozenC (s.fieldC x i).toNat
    clear g
    go_enter Try.func23, Try.ntmps23
    go_wp2_with (first | (go_at_call 48; refine (orNone_any _ h).mono ?_; rintro e w' ⟨rfl, rfl⟩) | (go_at_call 56; refine (field_any x i _ h h0 h1).mono ?_; rintro e w' ⟨rfl, m, rfl⟩))
    all_goals go_ret
    all_goals exact ⟨ret_int HE.out.symm, by rw [HP.out]; exact (h.drewN _).setC _ v v0 v1, ((Only.refl _ _).drewN _).setCell (Or.inr (Or.inr (Or.inl rfl))) _⟩
  · have HP : Hid (s.put x i v = s) := by show _ = _; unfold St.put; rw [if_neg g]
    have G : (s.fieldE x i != 0) = true := by rw [bne_iff_ne]; exact g
    clear g
    go_enter Try.func23, Try.ntmps23
    go_wp2_with (first | (go_at_call 48; refine (orNone_any _ h).mono ?_; rintro e w' ⟨rfl, rfl⟩) | (go_at_call 56; refine (field_any x i _ h h0 h1).mono ?_; rintro e w' ⟨rfl, m, rfl⟩))
    all_goals go_ret
    all_goals exact ⟨rfl, by rw [HP.out]; exact h.drewN _, (Only.refl _ _).drewN _⟩
theorem mayLie_any (t : Int) (w : World) :
    Calls Try.prog 47 #[.int .i64 t] w fun e w' => e = .returned (.bool (St.mayLie t)) ∧ w' = w := by
  unfold St.mayLie
  by_cases c1 : 0 ≤ t
  · by_cases c2 : t ≤ 199
    · go_enter Try.func47, Try.ntmps47
      go_wp2
      all_goals go_ret
      all_goals exact ⟨ret_bool (by simp [c1, c2]), rfl⟩
    · by_cases c3 : t = 200
      · have C3 : (t == 200) = true := by rw [beq_iff_eq]; exact c3
        clear c3
        go_enter Try.func47, Try.ntmps47
        go_wp2
        all_goals go_ret
        all_goals exact ⟨ret_bool (by simp), rfl⟩
      · have C3 : (t == 200) = false := beq_eq_false_iff_ne.2 c3
        clear c3
        go_enter Try.func47, Try.ntmps47
        go_wp2
        all_goals go_ret
        all_goals exact ⟨ret_bool (by simp; omega), rfl⟩
  · have C3 : (t == 200) = false := beq_eq_false_iff_ne.2 (by omega)
    have C4 : (t == 202) = false := beq_eq_false_iff_ne.2 (by omega)
    go_enter Try.func47, Try.ntmps47
    go_wp2
    all_goals go_ret
    all_goals exact ⟨ret_bool (by simp; omega), rfl⟩
theorem take_no {p : Pl} {s : St} (c : Int) (w : World) (h : Ar w p s) (h1 : c ≤ 100000) (g : (s.base : Int) + s.n - s.top < c) :
    Calls Try.prog 49 #[.pointer (some ⟨p.h, 0, none⟩), .int .i64 c] w fun e w' => e = .returned (.tuple #[.int .i64 0, .bool false]) ∧ ∃ m, w' = w.drewN m := by
  obtain ⟨c0, c1, c2, c3, c4, c5, c6⟩ := h.cells
  have n2 := h.n2; have b1 := h.b1; have t1 := h.t1; have t2 := h.t2
  have e1 := wrapId (s.base + s.n) (by omega) (by omega)
  have e2 := wrapId (s.base + s.n - s.top) (by omega) (by omega)
  go_enter Try.func49, Try.ntmps49
  go_wp2
  go_quiet (fail)
  go_wp2
  all_goals go_ret2
  all_goals exact ⟨rfl, _, rfl⟩
theorem take_yes {p : Pl} {s : St} (c : Int) (w : World) (h : Ar w p s) (h0 : 0 ≤ c) (g : c ≤ (s.base : Int) + s.n - s.top) :
    Calls Try.prog 49 #[.pointer (some ⟨p.h, 0, none⟩), .int .i64 c] w fun e w' => e = .returned (.tuple #[.int .i64 s.top, .bool true]) ∧ Ar w' p { s with top := s.top + c.toNat } ∧ Only p.own w w' := by
  obtain ⟨c0, c1, c2, c3, c4, c5, c6⟩ := h.cells
  have n2 := h.n2; have b1 := h.b1; have t1 := h.t1; have t2 := h.t2
  have e1 := wrapId (s.base + s.n) (by omega) (by omega)
  have e2 := wrapId (s.base + s.n - s.top) (by omega) (by omega)
  go_enter Try.func49, Try.ntmps49
  go_wp2
  go_quiet (fail)
  go_wp2
  all_goals go_ret2
  all_goals exact ⟨rfl, (h.drewN _).setTopI _ _ (by omega) (by omega) (by omega), ((Only.refl _ _).drewN _).setCell (Or.inr (Or.inl rfl)) _⟩
/-- The cells from f on, k of them, hold v. -/
def St.filled (s : St) (f k : Nat) (v : Int) : St := { s with C := fun j => if f ≤ j ∧ j < f + k then v else s.C j }
theorem filled_zero (s : St) (f : Nat) (v : Int) : s.filled f 0 v = s := by
  unfold St.filled
  congr 1
  funext j
  rw [if_neg (by omega)]
theorem filled_succ (s : St) (f k : Nat) (v : Int) : St.mk s.n s.base s.top (fun j => if j = f + k then v else (s.filled f k v).C j) s.H = s.filled f (k + 1) v := by
  unfold St.filled
  congr 1
  funext j
  show (if j = f + k then v else (if f ≤ j ∧ j < f + k then v else s.C j)) = _
  by_cases e : j = f + k
  · rw [if_pos e, if_pos (by omega)]
  · rw [if_neg e]
    by_cases e2 : f ≤ j ∧ j < f + k
    · rw [if_pos e2, if_pos (by omega)]
    · rw [if_neg e2, if_neg (by omega)]
theorem fill_any {p : Pl} {s : St} (f c : Nat) (v : Int) (w : World) (h : Ar w p s) (h1 : f + c ≤ 2 * s.n) (v0 : 0 ≤ v) (v1 : v ≤ 18446744073709551615) :
    Calls Try.prog 51 #[.pointer (some ⟨p.h, 0, none⟩), .int .i64 f, .int .i64 c, .int .u64 v] w fun e w' => e = .returned (.tuple #[]) ∧ Ar w' p (s.filled f c v) ∧ Only p.own w w' := by
  have n2 := h.n2
  go_enter Try.func51, Try.ntmps51
  go_wp2
  go_loopw [10] (fun i wr => ∃ k : Nat, k ≤ c ∧ i = .int .i64 k ∧ Ar wr p (s.filled f k v) ∧ Only p.own w wr) (fun i _ => c - (intOf i).toNat)
  case atStart => exact ⟨0, Nat.zero_le _, rfl, by rw [filled_zero]; exact h, Only.refl _ _⟩
  case round =>
    obtain ⟨k, hk, rfl, hr, ho⟩ := hrel
    obtain ⟨c0, c1, c2, c3, c4, c5, c6⟩ := hr.cells
    have en : (s.filled f k v).n = s.n := rfl
    rw [en] at c1 c2 c3
    by_cases hlt : k < c
    · have cc := hr.cellC (f + k) (by rw [en]; omega)
      have cf := hr.frozenC (f + k)
      clear en
      go_wp2
      go_roundw
      case rel => exact ⟨k + 1, by omega, by go_num, by rw [← filled_succ]; exact hr.setC _ v v0 v1, ho.setCell (Or.inr (Or.inr (Or.inl rfl))) _⟩
      case measure => simp [intOf]; omega
    · go_wp2
      go_end0
      have : k = c := by omega
      subst this
      exact ⟨rfl, hr, ho⟩
end Go.Proofs.Ytcbgjkedmboifab

/-
  What Alloc makes of the arena's state, by plain arithmetic; nothing but the arena's own blocks is written. Condition: the arena lies in memory (Ar).
-/
namespace Go.Proofs.Ytcbgjkedmboifab
open Go.ChangeShapes Go.WideShapes Go.ChangeAt Go.RowKit Go.Deep
set_option linter.unusedVariables false
set_option maxHeartbeats 400000

theorem headW_lo (t z : Int) : 0 ≤ headW t z := by unfold headW; split; omega; exact intW_lo _
theorem headW_hi (t z : Int) : headW t z ≤ 18446744073709551615 := by unfold headW; split; omega; exact intW_hi _
theorem intW_0 : intW 0 = 1 := by decide
/-- What Alloc has made of the state ahead of its fill. -/
def St.laid (s : St) (t z : Int) : St := ⟨s.n, s.base, s.top + (z + 1).toNat, fun j => if j = s.top then headW t z else s.C j, fun j => if j = s.top - s.base then true else s.H j⟩
theorem alloc_eq (s : St) (t z : Int) (h0 : 0 ≤ z) (g : s.allocE t z = 0) : (s.laid t z).filled (s.top + 1) z.toNat 1 = s.alloc t z := by
  unfold St.alloc
  rw [if_pos g]
  unfold St.laid St.filled
  have e : s.top + (z + 1).toNat = s.top + z.toNat + 1 := by omega
  rw [e]
  congr 1
  funext j
  show (if s.top + 1 ≤ j ∧ j < s.top + 1 + z.toNat then 1 else (if j = s.top then headW t z else s.C j)) = _
  by_cases c : j = s.top
  · rw [if_neg (by omega), if_pos c, if_pos c]
  · rw [if_neg c, if_neg c]
    by_cases c2 : s.top + 1 ≤ j ∧ j < s.top + 1 + z.toNat
    · rw [if_pos c2, if_pos (by omega)]
    · rw [if_neg c2, if_neg (by omega)]
theorem fill_top {p : Pl} {s : St} {t : Int} (z v : Int) (w : World) (h : Ar w p (s.laid t z)) (g2 : 0 ≤ z) (g4 : s.top + z + 1 ≤ (s.base : Int) + s.n) (v0 : 0 ≤ v) (v1 : v ≤ 18446744073709551615) :
    Calls Try.prog 51 #[.pointer (some ⟨p.h, 0, none⟩), .int .i64 (s.top + 1), .int .i64 z, .int .u64 v] w fun e w' => e = .returned (.tuple #[]) ∧ Ar w' p ((s.laid t z).filled (s.top + 1) z.toNat v) ∧ Only p.own w w' := by
  have b1 := h.b1
  have e : (s.laid t z).n = s.n := rfl
  have e2 : (s.laid t z).base = s.base := rfl
  rw [e, e2] at b1
  have hz : z = (z.toNat : Int) := by omega
  have := fill_any (s.top + 1) z.toNat v w h (by rw [e]; omega) v0 v1
  rw [← hz] at this
  exact this

set_option maxHeartbeats 4000000 in
theorem alloc_yes {p : Pl} {s : St} (t z : Int) (w : World) (h : Ar w p s) (g1 : St.mayLie t = true) (g2 : 0 ≤ z) (g3 : z ≤ 4096) (g4 : s.top + z + 1 ≤ (s.base : Int) + s.n) :
    Calls Try.prog 21 #[.pointer (some ⟨p.a, 0, none⟩), .int .i64 t, .int .i64 z] w fun e w' => e = .returned (.tuple #[.int .u64 (2 * (s.top + 1)), .int .i64 0]) ∧ Ar w' p (s.alloc t z) ∧ Only p.own w w' := by
  obtain ⟨c0, c1, c2, c3, c4, c5, c6⟩ := h.cells
  have n2 := h.n2; have b1 := h.b1; have t1 := h.t1; have t2 := h.t2
  have tr : 0 ≤ t ∧ t ≤ 202 := by unfold St.mayLie at g1; simp at g1; omega
  obtain ⟨tr0, tr1⟩ := tr
  have HP : Hid (ptrW (s.top + 1) = 2 * (s.top + 1)) := by show _ = _; unfold ptrW; rw [if_neg (by omega)]
  have HA : Hid ((s.laid t z).filled (s.top + 1) z.toNat (intW 0) = s.alloc t z) := by rw [intW_0]; exact alloc_eq s t z g2 (by unfold St.allocE; rw [if_neg (by rw [g1]; simp), if_neg (by omega), if_neg (by omega)])
  have e1 := wrapId (s.top - s.base) (by omega) (by omega)
  go_enter Try.func21, Try.ntmps21
  go_wp2_with (first | (go_at_call 47; refine (mayLie_any t _).mono ?_; rintro e w' ⟨rfl, rfl⟩) | (go_at_call 48; refine (orNone_any _ h).mono ?_; rintro e w' ⟨rfl, rfl⟩) | (go_at_call 49; refine (take_yes _ _ h (by omega) (by omega)).mono ?_; rintro e w1 ⟨rfl, hr, ho⟩))
  obtain ⟨d0, d1, d2, d3, d4, d5, d6⟩ := hr.cells
  have db := hr.cellB (s.top - s.base) (by show _ < s.n; omega)
  have dbf := hr.frozenB (s.top - s.base)
  clear c0 c1 c2 c3 c4 c5 c6
  go_region
  go_wp2
  have hr2 := (hr.setB (s.top - s.base) true).drewN 1
  have ho2 := (ho.setCell (a := ⟨p.b, s.top - s.base, none⟩) (Or.inr (Or.inr (Or.inr rfl))) (.bool true)).drewN 1
  rw [World.drew_is_drewN]
  generalize (w1.setCell ⟨p.b, s.top - s.base, none⟩ (.bool true)).drewN 1 = w2 at hr2 ho2 ⊢
  clear d0 d1 d2 d3 d4 d5 d6 db dbf hr ho
  obtain ⟨d0, d1, d2, d3, d4, d5, d6⟩ := hr2.cells
  have dc := hr2.cellC s.top (by show _ < 2 * s.n; omega)
  have dcf := hr2.frozenC s.top
  simp only at d1 d2 d3 d4 d5 dc
  have dl : (s.top : Int) < 2 * s.n := by omega
  go_region_with (go_at_call 50; refine (head_any t z _ (by omega) (by omega) (by omega) (by omega)).mono ?_; rintro e w' ⟨rfl, rfl⟩)
  all_goals go_wp2
  all_goals
    have hr3 := (hr2.setC s.top (headW t z) (headW_lo t z) (headW_hi t z)).drewN 1
    have ho3 := (ho2.setCell (a := ⟨p.c, s.top, none⟩) (Or.inr (Or.inr (Or.inl rfl))) (.int .u64 (headW t z))).drewN 1
    rw [World.drew_is_drewN]
    generalize (w2.setCell ⟨p.c, s.top, none⟩ (.int .u64 (headW t z))).drewN 1 = w3 at hr3 ho3 ⊢
    clear d0 d1 d2 d3 d4 d5 d6 dc dcf hr2 ho2
    obtain ⟨d0, d1, d2, d3, d4, d5, d6⟩ := hr3.cells
    simp only at d1 d2 d3 d4 d5
    have e2 := wrapId (s.top + 1) (by omega) (by omega)
    go_region_with (first | (go_at_call 25; refine (int_free 0 _).mono ?_; rintro e w' ⟨rfl, rfl⟩) | (go_at_call 51; refine (fill_top (s := s) (t := t) z (intW 0) _ ?_ ?_ ?_ (intW_lo _) (intW_hi _)).mono ?_; exact hr3.drewN _; exact g2; exact g4; rintro e w4 ⟨rfl, hr4, ho4⟩))
    all_goals go_wp2_with (go_at_call 52; refine (ptr_any _ _ (by omega) (by omega)).mono ?_; rintro e w' ⟨rfl, rfl⟩)
    all_goals go_ret2
    all_goals exact ⟨ret_two HP.out rfl, by rw [← HA.out]; exact hr4, ho3.trans ((Only.refl _ _).drewN _ |>.trans ho4)⟩
end Go.Proofs.Ytcbgjkedmboifab

/-
  What Alloc tells, and makes of the arena's state, for every tag and size, by plain arithmetic; nothing but the arena's own blocks is written. Condition: the arena lies in memory (Ar).
-/
namespace Go.Proofs.Ytcbgjkedmboifab
open Go.ChangeShapes Go.WideShapes Go.ChangeAt Go.RowKit Go.Deep
set_option linter.unusedVariables false
set_option maxHeartbeats 400000

theorem alloc_no {p : Pl} {s : St} (t z : Int) (w : World) (h : Ar w p s) (g : s.allocE t z ≠ 0) :
    Calls Try.prog 21 #[.pointer (some ⟨p.a, 0, none⟩), .int .i64 t, .int .i64 z] w fun e w' => e = .returned (.tuple #[.int .u64 0, .int .i64 (s.allocE t z)]) ∧ ∃ m, w' = w.drewN m := by
  cases g1 : St.mayLie t
  · have HE : Hid (s.allocE t z = 1) := by show _ = _; unfold St.allocE; rw [if_pos g1]
    clear g
    go_enter Try.func21, Try.ntmps21
    go_wp2_with (go_at_call 47; refine (mayLie_any t _).mono ?_; rintro e w' ⟨rfl, rfl⟩)
    all_goals go_ret2
    all_goals exact ⟨ret_two rfl HE.out.symm, 0, rfl⟩
  · by_cases g2 : z < 0
    · have HE : Hid (s.allocE t z = 2) := by show _ = _; unfold St.allocE; rw [if_neg (by rw [g1]; simp), if_pos (Or.inl g2)]
      clear g
      go_enter Try.func21, Try.ntmps21
      go_wp2_with (go_at_call 47; refine (mayLie_any t _).mono ?_; rintro e w' ⟨rfl, rfl⟩)
      all_goals go_ret2
      all_goals exact ⟨ret_two rfl HE.out.symm, 0, rfl⟩
    · by_cases g3 : 4096 < z
      · have HE : Hid (s.allocE t z = 2) := by show _ = _; unfold St.allocE; rw [if_neg (by rw [g1]; simp), if_pos (Or.inr g3)]
        clear g
        go_enter Try.func21, Try.ntmps21
        go_wp2_with (go_at_call 47; refine (mayLie_any t _).mono ?_; rintro e w' ⟨rfl, rfl⟩)
        all_goals go_ret2
        all_goals exact ⟨ret_two rfl HE.out.symm, 0, rfl⟩
      · by_cases g4 : (s.base : Int) + s.n < s.top + z + 1
        · have HE : Hid (s.allocE t z = 10) := by show _ = _; unfold St.allocE; rw [if_neg (by rw [g1]; simp), if_neg (by omega), if_pos g4]
          obtain ⟨c0, c1, c2, c3, c4, c5, c6⟩ := h.cells
          clear g
          go_enter Try.func21, Try.ntmps21
          go_wp2_with (first | (go_at_call 47; refine (mayLie_any t _).mono ?_; rintro e w' ⟨rfl, rfl⟩) | (go_at_call 48; refine (orNone_any _ h).mono ?_; rintro e w' ⟨rfl, rfl⟩) | (go_at_call 49; refine (take_no _ _ h (by omega) (by omega)).mono ?_; rintro e w1 ⟨rfl, m, rfl⟩))
          all_goals go_ret2
          all_goals exact ⟨ret_two rfl HE.out.symm, _, rfl⟩
        · exact absurd (by unfold St.allocE; rw [if_neg (by rw [g1]; simp), if_neg (by omega), if_neg g4]) g
theorem alloc_any {p : Pl} {s : St} (t z : Int) (w : World) (h : Ar w p s) :
    Calls Try.prog 21 #[.pointer (some ⟨p.a, 0, none⟩), .int .i64 t, .int .i64 z] w fun e w' => e = .returned (.tuple #[.int .u64 (s.allocW t z), .int .i64 (s.allocE t z)]) ∧ Ar w' p (s.alloc t z) ∧ Only p.own w w' := by
  by_cases g : s.allocE t z = 0
  · have g0 := g
    unfold St.allocE at g
    have g1 : St.mayLie t = true := by
      cases c : St.mayLie t
      · rw [if_pos c] at g; omega
      · rfl
    rw [if_neg (by rw [g1]; simp)] at g
    have g2 : ¬ (z < 0 ∨ 4096 < z) := by intro c; rw [if_pos c] at g; omega
    rw [if_neg g2] at g
    have g3 : ¬ ((s.base : Int) + s.n < s.top + z + 1) := by intro c; rw [if_pos c] at g; omega
    refine (alloc_yes t z w h g1 (by omega) (by omega) (by omega)).mono ?_
    rintro e w' ⟨rfl, ha, ho⟩
    have hw : s.allocW t z = 2 * (s.top + 1) := by unfold St.allocW; rw [if_pos g0]
    exact ⟨by rw [hw, g0], ha, ho⟩
  · refine (alloc_no t z w h g).mono ?_
    rintro e w' ⟨rfl, m, rfl⟩
    have hw : s.allocW t z = 0 := by unfold St.allocW; rw [if_neg g]
    have hs : s.alloc t z = s := by unfold St.alloc; rw [if_neg g]
    exact ⟨by rw [hw], by rw [hs]; exact h.drewN m, (Only.refl _ _).drewN m⟩
end Go.Proofs.Ytcbgjkedmboifab

/-
  What New makes: nil, where the document says so; else an arena that lies in memory, all its cells 0, no block in it; nothing that was there is written. Condition: the argument fits its kind.
-/
namespace Go.Proofs.Ytcbgjkedmboifab
open Go.ChangeShapes Go.WideShapes Go.ChangeAt Go.RowKit Go.Deep
set_option linter.unusedVariables false
set_option maxHeartbeats 400000

theorem Try.info30 : (Try.prog.info? 30).map (fun i => (i.zero, i.size, i.bytes)) = some (some (.int .u64 0), 1, 8) := by kernel_rfl
theorem Try.info4 : (Try.prog.info? 4).map (fun i => (i.zero, i.size, i.bytes)) = some (some (.bool false), 1, 1) := by kernel_rfl

/-- A new arena's state. -/
def St.new (n : Nat) : St := ⟨n, 0, 0, fun _ => 0, fun _ => false⟩

/-- New halves: their own block b, right behind that of their cells. -/
def Halves (w w' : World) (n b : Nat) : Prop := w.heap.size + 1 = b ∧ w'.heap.size = b + 1 ∧
  w'.heap[b]? = some (.cells #[.slice (some ⟨w.heap.size, 0, none⟩) (2 * n) (2 * n), .int .i64 n, .int .i64 0, .int .i64 0] 99 (0, 0)) ∧
  w'.rowIs w.heap.size 30 (2 * n) (fun _ => .int .u64 0)
theorem newHalves_any (n : Nat) (hn : n ≤ 32768) (w : World) :
    Calls Try.prog 37 #[.int .i64 n] w fun e w' => e = .returned (.pointer (some ⟨w.heap.size + 1, 0, none⟩)) ∧ Halves w w' n (w.heap.size + 1) ∧ Below w.heap.size w w' := by
  have hmk : ∀ w : World, (Instr.makeSlice 37 (.int .i64 (2 * (n : Int))) (.int .i64 (2 * (n : Int)))).run Try.prog w = .ok (.slice (some ⟨w.heap.size, 0, none⟩) (2 * n) (2 * n)) (w.alloc (.cells (madeCells #[.int .u64 0] (2 * n)) 30)) := by
    rw [show (2 * (n : Int)) = ((2 * n : Nat) : Int) from by omega]
    exact run_make_row' (P := Try.prog) 37 30 (.int .u64 0) 8 Try.underlying37 Try.info30 rfl .i64 .i64 (2 * n) (by omega) (by omega)
  go_enter Try.func37, Try.ntmps37
  go_wp2
  go_ret
  refine ⟨rfl, ⟨rfl, by rw [nblk_alloc, nblk_alloc], ?_, ?_⟩, ((Below.refl _ _).alloc (Nat.le_refl _) _).alloc (by simp) _⟩
  · have := blk_alloc_new (w.alloc (.cells (madeCells #[.int .u64 0] (2 * n)) 30)) (.cells #[.slice (some ⟨w.heap.size, 0, none⟩) (2 * n) (2 * n), .int .i64 n, .int .i64 0, .int .i64 0] 99)
    rw [nblk_alloc] at this
    exact this
  · exact (World.rowIs_made w (.int .u64 0) (2 * n) 30).alloc _
theorem ar_new {w : World} {p : Pl} {n : Nat} (h1 : 2 ≤ n) (h2 : n ≤ 32768)
    (ha : w.heap[p.a]? = some (.cells #[.pointer (some ⟨p.h, 0, none⟩), .slice (some ⟨p.b, 0, none⟩) n n] 81 (0, 0)))
    (hh : w.heap[p.h]? = some (.cells #[.slice (some ⟨p.c, 0, none⟩) (2 * n) (2 * n), .int .i64 n, .int .i64 0, .int .i64 0] 99 (0, 0)))
    (hc : w.rowIs p.c 30 (2 * n) (fun _ => .int .u64 0)) (hb : w.rowIs p.b 4 n (fun _ => .bool false)) : Ar w p (St.new n) :=
  { ha := ha, hh := hh, hc := hc, hb := hb, n1 := h1, n2 := h2, b1 := Or.inl rfl, t1 := Nat.le_refl _, t2 := Nat.zero_le _, lo := fun _ => Int.le_refl _, hi := fun _ => by show (0 : Int) ≤ _; omega }
theorem new_A {w w1 : World} {n : Nat} (h1 : 2 ≤ n) (h2 : n ≤ 32768) (hh : Halves w w1 n (w.heap.size + 1)) (hb : Below w.heap.size w w1) :
    Ar ((w1.alloc (.cells (madeCells #[.bool false] n) 4)).alloc (.cells #[.pointer (some ⟨w.heap.size + 1, 0, none⟩), .slice (some ⟨w1.heap.size, 0, none⟩) n n] 81)) ⟨w1.heap.size + 1, w.heap.size + 1, w.heap.size, w1.heap.size⟩ (St.new n) ∧
    Below w.heap.size w ((w1.alloc (.cells (madeCells #[.bool false] n) 4)).alloc (.cells #[.pointer (some ⟨w.heap.size + 1, 0, none⟩), .slice (some ⟨w1.heap.size, 0, none⟩) n n] 81)) ∧ w.heap.size ≤ w1.heap.size := by
  obtain ⟨e1, e2, e3, e4⟩ := hh
  refine ⟨ar_new h1 h2 ?_ ?_ ?_ ?_, (hb.alloc hb.size _).alloc (by rw [nblk_alloc]; have := hb.size; omega) _, hb.size⟩
  · have := blk_alloc_new (w1.alloc (.cells (madeCells #[.bool false] n) 4)) (.cells #[.pointer (some ⟨w.heap.size + 1, 0, none⟩), .slice (some ⟨w1.heap.size, 0, none⟩) n n] 81)
    rw [nblk_alloc] at this
    exact this
  · exact (blk_alloc_lt _ _ (w.heap.size + 1) (by rw [nblk_alloc]; omega)).trans ((blk_alloc_lt _ _ (w.heap.size + 1) (by omega)).trans e3)
  · exact (e4.alloc _).alloc _
  · exact (World.rowIs_made w1 (.bool false) n 4).alloc _
theorem new_B {w w1 : World} {n : Nat} (h1 : 2 ≤ n) (h2 : n ≤ 32768) (hh : Halves (w.alloc (.cells (madeCells #[.bool false] n) 4)).drew w1 n ((w.alloc (.cells (madeCells #[.bool false] n) 4)).drew.heap.size + 1))
    (hb : Below (w.alloc (.cells (madeCells #[.bool false] n) 4)).drew.heap.size (w.alloc (.cells (madeCells #[.bool false] n) 4)).drew w1) :
    Ar (w1.alloc (.cells #[.pointer (some ⟨w.heap.size + 1 + 1, 0, none⟩), .slice (some ⟨w.heap.size, 0, none⟩) n n] 81)) ⟨w1.heap.size, w.heap.size + 1 + 1, w.heap.size + 1, w.heap.size⟩ (St.new n) ∧
    Below w.heap.size w (w1.alloc (.cells #[.pointer (some ⟨w.heap.size + 1 + 1, 0, none⟩), .slice (some ⟨w.heap.size, 0, none⟩) n n] 81)) ∧ w.heap.size ≤ w1.heap.size := by
  have hs : (w.alloc (.cells (madeCells #[.bool false] n) 4)).drew.heap.size = w.heap.size + 1 := nblk_alloc _ _
  obtain ⟨e1, e2, e3, e4⟩ := hh
  rw [hs] at e1 e2 e3 e4 hb
  have hz := hb.size
  rw [hs] at hz
  have hb0 : Below w.heap.size w w1 := ((Below.refl _ _).alloc (Nat.le_refl _) _).drew.trans (hb.mono (by omega))
  refine ⟨ar_new h1 h2 ?_ ?_ ?_ ?_, hb0.alloc (by omega) _, by omega⟩
  · exact blk_alloc_new _ _
  · exact (blk_alloc_lt _ _ (w.heap.size + 1 + 1) (by omega)).trans e3
  · exact e4.alloc _
  · have := (World.rowIs_made w (.bool false) n 4).of_block (w' := w1) (hb.block _ (by omega))
    exact this.alloc _
theorem new_no (n : Int) (w : World) (h : n < 2 ∨ 32768 < n) :
    Calls Try.prog 14 #[.int .i64 n] w fun e w' => e = .returned (.pointer none) ∧ w' = w := by
  by_cases c : n < 2
  · go_enter Try.func14, Try.ntmps14
    go_wp2
    all_goals go_ret
    all_goals exact ⟨rfl, rfl⟩
  · have c2 : 32768 < n := by omega
    clear h
    go_enter Try.func14, Try.ntmps14
    go_wp2
    all_goals go_ret
    all_goals exact ⟨rfl, rfl⟩
theorem new_yes (n : Nat) (w : World) (h1 : 2 ≤ n) (h2 : n ≤ 32768) :
    Calls Try.prog 14 #[.int .i64 n] w fun e w' => ∃ p : Pl, e = .returned (.pointer (some ⟨p.a, 0, none⟩)) ∧ Ar w' p (St.new n) ∧ Below w.heap.size w w' ∧ w.heap.size ≤ p.a ∧ w.heap.size ≤ p.h ∧ w.heap.size ≤ p.c ∧ w.heap.size ≤ p.b := by
  have hmk : ∀ w : World, (Instr.makeSlice 79 (.int .i64 (n : Int)) (.int .i64 (n : Int))).run Try.prog w = .ok (.slice (some ⟨w.heap.size, 0, none⟩) n n) (w.alloc (.cells (madeCells #[.bool false] n) 4)) := by
    exact run_make_row' (P := Try.prog) 79 4 (.bool false) 1 Try.underlying79 Try.info4 rfl .i64 .i64 n (by omega) (by omega)
  go_enter Try.func14, Try.ntmps14
  go_wp2
  go_region_with (go_at_call 37; refine (newHalves_any n h2 _).mono ?_; rintro e w1 ⟨rfl, hh, hb⟩)
  all_goals go_wp2
  · obtain ⟨ha, hbl, hz⟩ := new_A (w := w.drew) h1 h2 hh hb
    refine bodyPost_ret (v := .pointer (some ⟨w1.heap.size + 1, 0, none⟩)) (by simp [results, Try.results14, go_sem]) rfl ⟨⟨w1.heap.size + 1, w.heap.size + 1, w.heap.size, w1.heap.size⟩, rfl, ha, (Below.refl _ w).drew.trans hbl, ?_⟩
    show _ ≤ w1.heap.size + 1 ∧ _ ≤ w.heap.size + 1 ∧ _ ≤ w.heap.size ∧ _ ≤ w1.heap.size
    have hz' : w.heap.size ≤ w1.heap.size := hz
    omega
  · obtain ⟨ha, hbl, hz⟩ := new_B (w := w) h1 h2 hh hb
    refine bodyPost_ret (v := .pointer (some ⟨w1.heap.size, 0, none⟩)) (by simp [results, Try.results14, go_sem]) rfl ⟨⟨w1.heap.size, w.heap.size + 1 + 1, w.heap.size + 1, w.heap.size⟩, rfl, ha, hbl, ?_⟩
    show _ ≤ w1.heap.size ∧ _ ≤ w.heap.size + 1 + 1 ∧ _ ≤ w.heap.size + 1 ∧ _ ≤ w.heap.size
    omega
end Go.Proofs.Ytcbgjkedmboifab

/-
  What a block's head tells; what is found where a block was just laid; contracts whose answers are named. No condition.
-/
namespace Go.Proofs.Ytcbgjkedmboifab
open Go.ChangeShapes Go.WideShapes Go.ChangeAt Go.RowKit Go.Deep
set_option linter.unusedVariables false
set_option maxHeartbeats 400000

theorem num_head (t z : Int) (h0 : 0 ≤ t) (h1 : t ≤ 255) (g0 : 0 ≤ z) (g1 : z ≤ 2147483647) : numW (headW t z) = 256 * z + t ∧ isHeadW (headW t z) = true := by
  have e : headW t z = intW (256 * z + t) := by unfold headW; rw [if_neg (by omega)]
  have n : numW (intW (256 * z + t)) = 256 * z + t := by rw [num_int, cut_same _ (by omega) (by omega)]
  have o : intW (256 * z + t) % 2 = 1 := by unfold intW; omega
  rw [e]
  refine ⟨n, ?_⟩
  unfold isHeadW
  rw [n, o]
  simp
  omega
theorem tag_head (t z : Int) (h0 : 0 ≤ t) (h1 : t ≤ 255) (g0 : 0 ≤ z) (g1 : z ≤ 2147483647) : tagW (headW t z) = t := by
  obtain ⟨a, b⟩ := num_head t z h0 h1 g0 g1
  unfold tagW; rw [if_pos b, a]; omega
theorem size_head (t z : Int) (h0 : 0 ≤ t) (h1 : t ≤ 255) (g0 : 0 ≤ z) (g1 : z ≤ 2147483647) : sizeW (headW t z) = z := by
  obtain ⟨a, b⟩ := num_head t z h0 h1 g0 g1
  unfold sizeW; rw [if_pos b, a]; omega
theorem allocE_zero {s : St} {t z : Int} (g : s.allocE t z = 0) : St.mayLie t = true ∧ 0 ≤ z ∧ z ≤ 4096 ∧ s.top + z + 1 ≤ (s.base : Int) + s.n ∧ 0 ≤ t ∧ t ≤ 202 := by
  unfold St.allocE at g
  have g1 : St.mayLie t = true := by
    cases c : St.mayLie t
    · rw [if_pos c] at g; omega
    · rfl
  rw [if_neg (by rw [g1]; simp)] at g
  have g2 : ¬ (z < 0 ∨ 4096 < z) := by intro c; rw [if_pos c] at g; omega
  rw [if_neg g2] at g
  have g3 : ¬ ((s.base : Int) + s.n < s.top + z + 1) := by intro c; rw [if_pos c] at g; omega
  have : 0 ≤ t ∧ t ≤ 202 := by unfold St.mayLie at g1; simp at g1; omega
  exact ⟨g1, by omega, by omega, by omega, this.1, this.2⟩
theorem alloc_st {s : St} {t z : Int} (g : s.allocE t z = 0) : s.alloc t z = { s with top := s.top + z.toNat + 1, C := fun i => if i = s.top then headW t z else if s.top < i ∧ i ≤ s.top + z.toNat then 1 else s.C i, H := fun i => if i = s.top - s.base then true else s.H i } := by
  unfold St.alloc; rw [if_pos g]
/-- The block that was just laid is found. -/
theorem found_new {s : St} {t z : Int} (h1 : s.base ≤ s.top) (h2 : s.top ≤ 1000000) (g : s.allocE t z = 0) :
    (s.alloc t z).find (2 * (s.top + 1)) = ((s.top : Int) + 1, 0) ∧ (s.alloc t z).size (2 * (s.top + 1)) = z ∧ (s.alloc t z).tag (2 * (s.top + 1)) = t ∧ (s.alloc t z).top = s.top + z.toNat + 1 ∧ (s.alloc t z).n = s.n ∧ (s.alloc t z).base = s.base := by
  obtain ⟨_, z0, z1, _, t0, t1⟩ := allocE_zero g
  rw [alloc_st g]
  have ea : addrW (2 * (s.top + 1)) = s.top + 1 := by unfold addrW; rw [if_neg (by omega)]; omega
  have en : ((s.top : Int) + 1).toNat - 1 = s.top := by omega
  have hb : (St.mk s.n s.base (s.top + z.toNat + 1) (fun i => if i = s.top then headW t z else if s.top < i ∧ i ≤ s.top + z.toNat then 1 else s.C i) (fun i => if i = s.top - s.base then true else s.H i)).isBlk (s.top + 1) = true := by
    unfold St.isBlk St.inUse
    simp
    omega
  have hf : (St.mk s.n s.base (s.top + z.toNat + 1) (fun i => if i = s.top then headW t z else if s.top < i ∧ i ≤ s.top + z.toNat then 1 else s.C i) (fun i => if i = s.top - s.base then true else s.H i)).find (2 * (s.top + 1)) = ((s.top : Int) + 1, 0) := by
    unfold St.find
    rw [ea, if_pos hb]
  refine ⟨hf, ?_, ?_, rfl, rfl, rfl⟩
  · unfold St.size
    rw [hf, if_neg (by show ¬ ((s.top : Int) + 1 = 0); omega)]
    show sizeW (if ((s.top : Int) + 1).toNat - 1 = s.top then headW t z else _) = z
    rw [if_pos en]
    exact size_head t z t0 (by omega) z0 (by omega)
  · unfold St.tag
    rw [hf, if_neg (by show ¬ ((s.top : Int) + 1 = 0); omega)]
    show tagW (if ((s.top : Int) + 1).toNat - 1 = s.top then headW t z else _) = t
    rw [if_pos en]
    exact tag_head t z t0 (by omega) z0 (by omega)
/-- Alloc, its answers named. -/
theorem alloc_at {p : Pl} {s : St} (t z v e' : Int) (w : World) (h : Ar w p s) (hv : s.allocW t z = v) (he : s.allocE t z = e') :
    Calls Try.prog 21 #[.pointer (some ⟨p.a, 0, none⟩), .int .i64 t, .int .i64 z] w fun e w' => e = .returned (.tuple #[.int .u64 v, .int .i64 e']) ∧ Ar w' p (s.alloc t z) ∧ Only p.own w w' := by
  subst hv; subst he; exact alloc_any t z w h
theorem leads_at {p : Pl} {s : St} (x v d : Int) (w : World) (h : Ar w p s) (h0 : 0 ≤ x) (h1 : x ≤ 18446744073709551615) (hv : 2 * (s.find x).1 = v) (hd : (s.find x).2 = d) :
    Calls Try.prog 86 #[.pointer (some ⟨p.a, 0, none⟩), .int .u64 x] w fun e w' => e = .returned (.tuple #[.int .u64 v, .int .i64 d]) ∧ ∃ m, w' = w.drewN m := by
  subst hv; subst hd; exact leads_any x w h h0 h1
theorem tag_is {p : Pl} {s : St} (x v : Int) (w : World) (h : Ar w p s) (h0 : 0 ≤ x) (h1 : x ≤ 18446744073709551615) (hv : s.tag x = v) :
    Calls Try.prog 42 #[.pointer (some ⟨p.a, 0, none⟩), .int .u64 x] w fun e w' => e = .returned (.int .i64 v) ∧ ∃ m, w' = w.drewN m := by
  subst hv; exact tag_of x w h h0 h1
theorem size_is {p : Pl} {s : St} (x v : Int) (w : World) (h : Ar w p s) (h0 : 0 ≤ x) (h1 : x ≤ 18446744073709551615) (hv : s.size x = v) :
    Calls Try.prog 44 #[.pointer (some ⟨p.a, 0, none⟩), .int .u64 x] w fun e w' => e = .returned (.int .i64 v) ∧ ∃ m, w' = w.drewN m := by
  subst hv; exact size_of x w h h0 h1
theorem new_at (n : Int) (w : World) (h1 : 2 ≤ n) (h2 : n ≤ 32768) :
    Calls Try.prog 14 #[.int .i64 n] w fun e w' => ∃ p : Pl, e = .returned (.pointer (some ⟨p.a, 0, none⟩)) ∧ Ar w' p (St.new n.toNat) ∧ Below w.heap.size w w' ∧ w.heap.size ≤ p.a ∧ w.heap.size ≤ p.h ∧ w.heap.size ≤ p.c ∧ w.heap.size ≤ p.b := by
  have := new_yes n.toNat w (by omega) (by omega)
  rw [show ((n.toNat : Nat) : Int) = n from by omega] at this
  exact this
/-- What is done to an arena's own blocks changes nothing below them. -/
theorem Only.under {p : Pl} {w w' : World} (h : Only p.own w w') {B : Nat} (hB : B ≤ w.heap.size) (h1 : B ≤ p.h) (h2 : B ≤ p.c) (h3 : B ≤ p.b) : Below B w w' :=
  h.below hB (by intro k hk hs; unfold Pl.own at hs; omega)
theorem below_drewN {B : Nat} {a w : World} (h : Below B a w) (n : Nat) : Below B a (w.drewN n) := ⟨h.os, h.tape, h.output, h.size, h.block⟩

theorem head_back (x : Int) (h0 : 0 ≤ x) (h1 : x ≤ 18446744073709551615) (t : Int) (ht : tagW x = t) (hz : t ≠ 0) : x = headW t (sizeW x) := by
  have hh : isHeadW x = true := by
    cases c : isHeadW x
    · unfold tagW at ht; rw [if_neg (by rw [c]; simp)] at ht; omega
    · rfl
  have hh' := hh
  unfold isHeadW at hh'
  simp at hh'
  unfold tagW at ht
  rw [if_pos hh] at ht
  unfold sizeW
  rw [if_pos hh]
  have e : 256 * (numW x / 256) + t = numW x := by omega
  unfold headW
  rw [if_neg (by omega), e]
  exact (int_num x h0 h1 hh'.1.1).symm
theorem set_at {p : Pl} {s s' : St} (x i v : Int) (e' : Int) (w : World) (h : Ar w p s) (hf : s.Fits) (h0 : 0 ≤ x) (h1 : x ≤ 18446744073709551615) (v0 : 0 ≤ v) (v1 : v ≤ 18446744073709551615) (he : s.fieldE x i = e') (hs : s.put x i v = s') :
    Calls Try.prog 23 #[.pointer (some ⟨p.a, 0, none⟩), .int .u64 x, .int .i64 i, .int .u64 v] w fun e w' => e = .returned (.int .i64 e') ∧ Ar w' p s' ∧ Only p.own w w' := by
  subst he; subst hs; exact set_any x i v w h hf h0 h1 v0 v1
theorem get_at {p : Pl} {s : St} (x i v e' : Int) (w : World) (h : Ar w p s) (hf : s.Fits) (h0 : 0 ≤ x) (h1 : x ≤ 18446744073709551615) (hv : s.get x i = v) (he : s.fieldE x i = e') :
    Calls Try.prog 62 #[.pointer (some ⟨p.a, 0, none⟩), .int .u64 x, .int .i64 i] w fun e w' => e = .returned (.tuple #[.int .u64 v, .int .i64 e']) ∧ ∃ m, w' = w.drewN m := by
  subst hv; subst he; exact get_any x i w h hf h0 h1
end Go.Proofs.Ytcbgjkedmboifab
