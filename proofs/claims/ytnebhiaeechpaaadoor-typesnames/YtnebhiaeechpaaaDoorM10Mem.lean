/-
 Layer 10: a type that came in, as its cells hold it, to any depth; types in memory. No condition but that it is read.
-/
import Derived.Test.YtnebhiaeechpaaaDoorRows
import Derived.WalkKit
import Derived.ProofKit
import Derived.Test.YtnebhiaeechpaaaDoorX10Raw
import Derived.Deep.Slices
import Derived.OpenShut
import Derived.Below
import Derived.Deep.Heap
import Derived.OwnWalk
import Derived.BigQuiet
import Derived.Laws.Strings2
import Derived.Deep.RegionHeld3
import Derived.Deep.Cut
namespace Go.Proofs.YtnebhiaeechpaaaDoor
open Go.ChangeShapes Go.WideShapes Go.ChangeAt Go.RowKit Go.Deep
set_option linter.unusedVariables false
set_option linter.unusedSimpArgs false
set_option maxHeartbeats 2000000
theorem hidden {p : Prop} (h : p) : Hid p := h
theorem cellsT10 : Tryd.prog.cellsOf 24 = 3 := by kernel_rfl
theorem cellsI10 : Tryd.prog.cellsOf 3 = 1 := by kernel_rfl
theorem cellsS10 : Tryd.prog.cellsOf 9 = 1 := by kernel_rfl
theorem cellsTs10 : Tryd.prog.cellsOf 22 = 1 := by kernel_rfl
theorem add_pos10 (y : Addr) (j : Nat) : y.add (j + 1) = ⟨y.block, y.off + (j + 1), none⟩ := by
 unfold Addr.add; rw [if_neg (by omega)]
theorem cell_ltT {w : World} {a : Addr} {v : Value} (h : w.cell? a = some v) : a.block < w.heap.size := by
 unfold World.cell? at h
 rcases Nat.lt_or_ge a.block w.heap.size with c | c
 ·exact c
 ·rw [Array.getElem?_eq_none c] at h
  cases h
/-- A type's three cells, and those of its parts, to a depth. -/
def TOk (P : Nat → Prop) (w : World) : Nat → List Value → Prop
 | 0, _ => True
 | d + 1, cs => ∃ (V : Int) (s : ByteArray) (al : Option Addr) (len cap : Nat), cs = [.int .i64 V, .string s, .slice al len cap] ∧ (-9223372036854775808 ≤ V ∧ V ≤ 9223372036854775807) ∧ s.size ≤ maxLen ∧ len ≤ maxLen ∧
   ∀ i, i < len → ∃ (a : Addr) (c0 c1 c2 : Value), al = some a ∧ P (a.add (i * 3)).block ∧ w.cell? (a.add (i * 3)) = some c0 ∧ w.cell? ⟨(a.add (i * 3)).block, (a.add (i * 3)).off + 1, none⟩ = some c1 ∧ w.cell? ⟨(a.add (i * 3)).block, (a.add (i * 3)).off + 2, none⟩ = some c2 ∧ TOk P w d [c0, c1, c2]
set_option maxRecDepth 100000 in
theorem type_open {H : Type} {enc : TypeId × Value → H} {w : World} {base : Nat} {spare : Nat → Bool} {held : Bool} : ∀ (d : Nat) {fuel : Nat} {cs : List Value} {x : DataW H × List MemPlace}, DataW.trod enc Tryd.prog w base spare held fuel 24 cs = some x → TOk (fun g => g < w.heap.size) w d cs
 | 0, _, _, _, _ => trivial
 | d + 1, fuel, cs, x, h => by
  obtain ⟨xs, n', _, _, hlen, hxl, hf⟩ := DataW.trod_struct Tryd.underlying24 h
  rw [cellsT10] at hlen
  match cs, hlen with
  | [c0, c1, c2], _ =>
   have f0 := hf 0 _ rfl
   have f1 := hf 1 _ rfl
   have f2 := hf 2 _ rfl
   have hs : xs.length = 3 := hxl
   rw [List.getElem?_eq_getElem (by omega)] at f0 f1 f2
   obtain ⟨z0, e0, _, w0⟩ := DataW.trod_int Tryd.underlying3 f0
   obtain ⟨z1, e1, _, w1⟩ := DataW.trod_string Tryd.underlying9 f1
   obtain rfl : c0 = .int .i64 z0 := by simpa [cellsI10] using e0
   obtain rfl : c1 = .string z1 := by simpa [cellsS10] using e1
   rcases open_slice Tryd.underlying22 f2 with ⟨hcs, _⟩ | ⟨a, l, c, m, n, D, Pl, hcs, _, hl, hm, hmm, _, hx⟩
   ·obtain rfl : c2 = .slice none 0 0 := by simpa [cellsTs10] using hcs
    exact ⟨z0, z1, none, 0, 0, rfl, bounds_i64 w0, w1, Nat.zero_le _, fun i hi => absurd hi (Nat.not_lt_zero _)⟩
   ·obtain rfl : c2 = .slice (some a) l c := by simpa [cellsTs10] using hcs
    have hlm : l ≤ m := by rw [hmm]; split <;> omega
    refine ⟨z0, z1, some a, l, c, rfl, bounds_i64 w0, w1, by omega, fun i hi => ?_⟩
    obtain ⟨cs', h1, h2⟩ := hx i (by omega)
    rw [cellsT10] at h1
    obtain ⟨_, hlen', hcell⟩ := World.cells?_some h1
    match cs', hlen' with
    | [d0, d1, d2], _ =>
     have k0 := hcell 0 (by omega)
     have k1 := hcell 1 (by omega)
     have k2 := hcell 2 (by omega)
     rw [add_pos10] at k1 k2
     exact ⟨a, d0, d1, d2, rfl, cell_ltT k0, k0, k1, k2, type_open d h2⟩
theorem TOk.below {P : Nat → Prop} {w w' : World} (k : Below w.heap.size w w') : ∀ (d : Nat) {cs : List Value}, TOk P w d cs → TOk P w' d cs
 | 0, _, _ => trivial
 | d + 1, cs, h => by
  obtain ⟨a1, a2, a3, a4, a5, e, h1, h3, h4, h2⟩ := h
  refine ⟨a1, a2, a3, a4, a5, e, h1, h3, h4, fun i hi => ?_⟩
  obtain ⟨a, c0, c1, c2, q0, qp, q1, q2, q3, q4⟩ := h2 i hi
  have hb := k.block _ (cell_ltT q1)
  have hc : ∀ o, w'.cell? ⟨(a.add (i * 3)).block, o, none⟩ = w.cell? ⟨(a.add (i * 3)).block, o, none⟩ := fun o => World.cell?_of_block (a := ⟨(a.add (i * 3)).block, o, none⟩) hb
  have hc0 : w'.cell? (a.add (i * 3)) = w.cell? (a.add (i * 3)) := World.cell?_of_block (a := a.add (i * 3)) hb
  exact ⟨a, c0, c1, c2, q0, qp, by rw [hc0]; exact q1, by rw [hc]; exact q2, by rw [hc]; exact q3, TOk.below k d q4⟩
theorem TOk.mono {P : Nat → Prop} {w : World} : ∀ {d d' : Nat} {cs : List Value}, d' ≤ d → TOk P w d cs → TOk P w d' cs
 | _, 0, _, _, _ => trivial
 | 0, d' + 1, _, h, _ => by omega
 | d + 1, d' + 1, cs, h, hn => by
  obtain ⟨a1, a2, a3, a4, a5, e, h1, h3, h4, h2⟩ := hn
  refine ⟨a1, a2, a3, a4, a5, e, h1, h3, h4, fun i hi => ?_⟩
  obtain ⟨a, c0, c1, c2, q0, qp, q1, q2, q3, q4⟩ := h2 i hi
  exact ⟨a, c0, c1, c2, q0, qp, q1, q2, q3, TOk.mono (by omega) q4⟩
/-- Types that a slice leads to, wherever it begins. -/
inductive RT (P : Nat → Prop) (w : World) : List Rw → Option Addr → Prop
 | mk {L : List Rw} {ao : Option Addr} (aos : Nat → Option Addr) (cps : Nat → Nat) (h : ∀ (k : Nat) (t : Rw), L[k]? = some t → ∃ a : Addr, ao = some a ∧ P (a.add (k * 3)).block ∧ w.cell? (a.add (k * 3)) = some (.int .i64 t.V) ∧ w.cell? ⟨(a.add (k * 3)).block, (a.add (k * 3)).off + 1, none⟩ = some (.string ⟨t.S.toArray⟩) ∧ w.cell? ⟨(a.add (k * 3)).block, (a.add (k * 3)).off + 2, none⟩ = some (.slice (aos k) t.L.length (cps k))) (hv : ∀ (k : Nat) (t : Rw), L[k]? = some t → -9223372036854775808 ≤ t.V ∧ t.V ≤ 9223372036854775807 ∧ t.S.length ≤ maxLen) (hr : ∀ k t, L[k]? = some t → RT P w t.L (aos k)) : RT P w L ao
theorem RT.keep {P : Nat → Prop} {w w' : World} {L : List Rw} {ao : Option Addr} (h : RT P w L ao) (k : ∀ g, P g → g < w.heap.size → w'.heap[g]? = w.heap[g]?) : RT P w' L ao := by
 induction h with
 | mk aos cps h hv hr ih =>
  refine .mk aos cps (fun j t hj => ?_) hv ih
  obtain ⟨a, e, hp, h0, h1, h2⟩ := h j t hj
  have hb := k _ hp (cell_ltT h0)
  have hc : ∀ o, w'.cell? ⟨(a.add (j * 3)).block, o, none⟩ = w.cell? ⟨(a.add (j * 3)).block, o, none⟩ := fun o => World.cell?_of_block (a := ⟨(a.add (j * 3)).block, o, none⟩) hb
  have hc0 : w'.cell? (a.add (j * 3)) = w.cell? (a.add (j * 3)) := World.cell?_of_block (a := a.add (j * 3)) hb
  exact ⟨a, e, hp, by rw [hc0]; exact h0, by rw [hc]; exact h1, by rw [hc]; exact h2⟩
theorem RT.mono {P Q : Nat → Prop} {w : World} {L : List Rw} {ao : Option Addr} (h : RT P w L ao) (k : ∀ g, P g → g < w.heap.size → Q g) : RT Q w L ao := by
 induction h with
 | mk aos cps h hv hr ih =>
  refine .mk aos cps (fun j t hj => ?_) hv ih
  obtain ⟨a, e, hp, h0, r⟩ := h j t hj
  exact ⟨a, e, k _ hp (cell_ltT h0), h0, r⟩
theorem RT.alloc {P : Nat → Prop} {w : World} {L : List Rw} {ao : Option Addr} (h : RT P w L ao) (o : Obj) : RT P (w.alloc o) L ao := h.keep (fun g _ hl => blk_alloc_lt _ _ _ hl)
theorem RT.beneath {P : Nat → Prop} {w w' : World} {L : List Rw} {ao : Option Addr} {B : Nat} (h : RT P w L ao) (k : Below B w w') (hB : w.heap.size ≤ B) : RT P w' L ao := h.keep (fun g _ hl => k.block g (by omega))
theorem rt_nil {P : Nat → Prop} {w : World} {al : Option Addr} : RT P w [] al := .mk (fun _ => none) (fun _ => 0) (fun k t h => by simp at h) (fun k t h => by simp at h) (fun k t h => by simp at h)
/-- One part more. -/
theorem RT.snoc {P : Nat → Prop} {w : World} {T : List Rw} {a : Addr} {t : Rw} {al : Option Addr} {cp : Nat} (h : RT P w T (some a)) (hp : P (a.add (T.length * 3)).block) (h0 : w.cell? (a.add (T.length * 3)) = some (.int .i64 t.V)) (h1 : w.cell? ⟨(a.add (T.length * 3)).block, (a.add (T.length * 3)).off + 1, none⟩ = some (.string ⟨t.S.toArray⟩)) (h2 : w.cell? ⟨(a.add (T.length * 3)).block, (a.add (T.length * 3)).off + 2, none⟩ = some (.slice al t.L.length cp)) (hv : -9223372036854775808 ≤ t.V ∧ t.V ≤ 9223372036854775807 ∧ t.S.length ≤ maxLen) (ht : RT P w t.L al) : RT P w (T ++ [t]) (some a) := by
 obtain ⟨aos, cps, hh, hvs, hr⟩ := h
 have last : ∀ {k : Nat} {u : Rw}, ¬ k < T.length → (T ++ [t])[k]? = some u → k = T.length ∧ u = t := by
  intro k u c hk
  rw [List.getElem?_append_right (by omega)] at hk
  obtain ⟨hk1, hk2⟩ := List.getElem?_eq_some_iff.1 hk
  simp only [List.length_cons, List.length_nil] at hk1
  have e : k = T.length := by omega
  subst e
  simp at hk2
  exact ⟨rfl, hk2.symm⟩
 refine .mk (fun k => if k < T.length then aos k else al) (fun k => if k < T.length then cps k else cp) (fun k u hk => ?_) (fun k u hk => ?_) (fun k u hk => ?_)
 ·by_cases c : k < T.length
  ·rw [List.getElem?_append_left c] at hk
   simp only [if_pos c]
   exact hh k u hk
  ·obtain ⟨rfl, rfl⟩ := last c hk
   simp only [if_neg c]
   exact ⟨a, rfl, hp, h0, h1, h2⟩
 ·by_cases c : k < T.length
  ·rw [List.getElem?_append_left c] at hk
   exact hvs k u hk
  ·obtain ⟨rfl, rfl⟩ := last c hk
   exact hv
 ·by_cases c : k < T.length
  ·rw [List.getElem?_append_left c] at hk
   simp only [if_pos c]
   exact hr k u hk
  ·obtain ⟨rfl, rfl⟩ := last c hk
   simp only [if_neg c]
   exact ht
/-- A type's own block. -/
def B3 (w : World) (p : Nat) (V : Int) (x : ByteArray) (v : Value) : Prop := w.heap[p]? = some (.cells #[.int .i64 V, .string x, v] 24 (0, 0))
section
variable {w w' : World} {p : Nat} {V : Int} {x : ByteArray} {v : Value}
theorem B3.cells (h : B3 w p V x v) : w.cell? ⟨p, 0, none⟩ = some (.int .i64 V) ∧ w.cell? ⟨p, 1, none⟩ = some (.string x) ∧ w.cell? ⟨p, 2, none⟩ = some v ∧ ∀ o, w.frozen? ⟨p, o, none⟩ = false := by
 unfold B3 at h
 simp [World.cell?, World.frozen?, h]
theorem B3.lt (h : B3 w p V x v) : p < w.heap.size := by
 rcases Nat.lt_or_ge p w.heap.size with c | c
 ·exact c
 ·unfold B3 at h
  rw [Array.getElem?_eq_none c] at h
  cases h
theorem B3.new (w : World) (V : Int) (x : ByteArray) (v : Value) : B3 (w.alloc (.cells #[.int .i64 V, .string x, v] 24)) w.heap.size V x v := blk_alloc_new _ _
theorem B3.alloc (h : B3 w p V x v) (o : Obj) : B3 (w.alloc o) p V x v := (blk_alloc_lt _ _ _ h.lt).trans h
theorem B3.below {B : Nat} (h : B3 w p V x v) (k : Below B w w') (hB : w.heap.size ≤ B) : B3 w' p V x v := (k.block p (by have := h.lt; omega)).trans h
end
end Go.Proofs.YtnebhiaeechpaaaDoor
