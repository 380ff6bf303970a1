/-
 Layer 10: the program's Table in memory: what it knows, what is met on the walk under way. Condition: it lies in memory.
-/
import Derived.Test.YtnebhiaeechpaaaDoorM10MapB
import Derived.Test.YtnebhiaeechpaaaDoorM10May
import Derived.Test.YtnebhiaeechpaaaDoorT10Till
import Derived.Test.YtnebhiaeechpaaaDoorX10Tc
import Derived.Deep.LoopGhost
namespace Go.Proofs.YtnebhiaeechpaaaDoor
open Go.ChangeShapes Go.WideShapes Go.ChangeAt Go.RowKit Go.Deep
set_option linter.unusedVariables false
set_option linter.unusedSimpArgs false
set_option maxHeartbeats 1000000

/-- All old blocks but S's are as they were. -/
structure Only (S : Nat → Prop) (w w' : World) : Prop where
 os : w'.os = w.os
 tape : w'.tape = w.tape
 output : w'.output = w.output
 size : w.heap.size ≤ w'.heap.size
 block : ∀ k, k < w.heap.size → ¬ S k → w'.heap[k]? = w.heap[k]?
section
variable {S S' : Nat → Prop} {w w' w'' : World}
theorem Only.refl (S : Nat → Prop) (w : World) : Only S w w := ⟨rfl, rfl, rfl, Nat.le_refl _, fun _ _ _ => rfl⟩
theorem Only.trans (h : Only S w w') (k : Only S w' w'') : Only S w w'' := ⟨k.os.trans h.os, k.tape.trans h.tape, k.output.trans h.output, Nat.le_trans h.size k.size, fun i hi hs => (k.block i (Nat.lt_of_lt_of_le hi h.size) hs).trans (h.block i hi hs)⟩
theorem Only.mono (h : Only S w w') (k : ∀ g, g < w.heap.size → S g → S' g) : Only S' w w' := ⟨h.os, h.tape, h.output, h.size, fun i hi hs => h.block i hi (fun c => hs (k i hi c))⟩
theorem Only.of_below (h : Below w.heap.size w w') : Only S w w' := ⟨h.os, h.tape, h.output, h.size, fun k hk _ => h.block k hk⟩
theorem Only.alloc (h : Only S w w') (o : Obj) : Only S w (w'.alloc o) := h.trans (Only.of_below ((Below.refl _ _).alloc (Nat.le_refl _) o))
theorem Only.drewN (h : Only S w w') (n : Nat) : Only S w (w'.drewN n) := ⟨h.os, h.tape, h.output, h.size, h.block⟩
theorem Only.grown {q : Nat} (h : w.grownBy w' (some q)) (hq : S q) : Only S w w' := ⟨h.os, h.tape, h.output, h.size, fun k hk hs => h.block k hk (fun e => hs (by cases e; exact hq))⟩
theorem Only.setNew (h : Only S w w') {p : Nat} (hp : w.heap.size ≤ p ∨ S p) (o : Nat) (v : Value) : Only S w (w'.setCell ⟨p, o, none⟩ v) := by
 refine ⟨h.os, h.tape, h.output, by rw [nblk_setCell]; exact h.size, fun k hk hs => ?_⟩
 have hne : k ≠ p := fun e => by
  rcases hp with hp | hp
  ·omega
  ·exact hs (e ▸ hp)
 exact (blk_setCell_other _ _ _ _ hne).trans (h.block k hk hs)
/-- What is done to blocks that are all new is nothing. -/
theorem Only.fresh (h : Only S w w') (k : Only S' w' w'') (hS : ∀ g, S' g → w.heap.size ≤ g ∨ S g) : Only S w w'' := ⟨k.os.trans h.os, k.tape.trans h.tape, k.output.trans h.output, Nat.le_trans h.size k.size, fun i hi hs => (k.block i (Nat.lt_of_lt_of_le hi h.size) (fun c => (hS i c).elim (fun g => by omega) hs)).trans (h.block i hi hs)⟩
end
/-- What the map holds of what is known. -/
def KnownP (O : Nat → Prop) (w : World) (σ : Int → Option Rw) (m : Int → Option Value) : Prop := ∀ k, (σ k = none → m k = none) ∧ (∀ x, σ k = some x → (-9223372036854775808 ≤ x.V ∧ x.V ≤ 9223372036854775807) ∧ x.S.length ≤ maxLen ∧ ∃ al cp, m k = some (.agg #[.int .i64 x.V, .string ⟨x.S.toArray⟩, .slice al x.L.length cp]) ∧ RT O w x.L al)
/-- What is met, as the map holds it. -/
def metV (μ : Int → Option Int) (k : Int) : Option Value := (μ k).map (fun c => .int .i64 c)
/-- The Table: its block, its two maps; what it knows lies in O's blocks, none of which is its own. -/
structure PT (O : Nat → Prop) (w : World) (tb q r K nm own : Nat) (hi : Int) (σ : Int → Option Rw) (μ : Int → Option Int) : Prop where
 blk : w.heap[tb]? = some (.cells #[.map (some q), .int .i64 (own : Int), .int .i64 hi, .map (some r)] 51 (0, 0))
 mp : ∃ n m, n ≤ K ∧ MapV w q n m ∧ KnownP O w σ m
 mt : MapV w r nm (metV μ)
 ow : own ≤ K
 tq : tb ≠ q
 tr : tb ≠ r
 qr : q ≠ r
 ap : ∀ g, O g → g ≠ tb ∧ g ≠ q ∧ g ≠ r ∧ g < w.heap.size
/-- The Table's own blocks. -/
def Own3 (tb q r : Nat) (g : Nat) : Prop := g = tb ∨ g = q ∨ g = r
section
variable {O : Nat → Prop} {w w' : World} {tb q r K nm own : Nat} {hi : Int} {σ : Int → Option Rw} {μ : Int → Option Int} {m : Int → Option Value}
theorem KnownP.keep (h : KnownP O w σ m) (k : ∀ g, O g → g < w.heap.size → w'.heap[g]? = w.heap[g]?) : KnownP O w' σ m := fun j => by
 refine ⟨(h j).1, fun x hx => ?_⟩
 obtain ⟨h1, h0, al, cp, h2, h3⟩ := (h j).2 x hx
 exact ⟨h1, h0, al, cp, h2, h3.keep k⟩
theorem lt_keep {w w' : World} {g : Nat} (e : w'.heap[g]? = w.heap[g]?) (h : g < w.heap.size) : g < w'.heap.size := by
 rw [Array.getElem?_eq_getElem h] at e
 exact (Array.getElem?_eq_some_iff.1 e).1
theorem PT.lt (h : PT O w tb q r K nm own hi σ μ) : tb < w.heap.size := (Array.getElem?_eq_some_iff.1 h.blk).1
theorem PT.ltq (h : PT O w tb q r K nm own hi σ μ) : q < w.heap.size := by
 obtain ⟨n, m, _, h2, _⟩ := h.mp
 exact h2.lt
theorem PT.own_lt (h : PT O w tb q r K nm own hi σ μ) : ∀ g, Own3 tb q r g → g < w.heap.size := fun g hg => by
 rcases hg with rfl | rfl | rfl
 ·exact h.lt
 ·exact h.ltq
 ·exact h.mt.lt
theorem PT.keep (h : PT O w tb q r K nm own hi σ μ) (k : ∀ g, O g ∨ Own3 tb q r g → g < w.heap.size → w'.heap[g]? = w.heap[g]?) : PT O w' tb q r K nm own hi σ μ := by
 obtain ⟨n, m, h1, h2, h3⟩ := h.mp
 exact ⟨(k tb (Or.inr (Or.inl rfl)) h.lt).trans h.blk, ⟨n, m, h1, h2.keep (k q (Or.inr (Or.inr (Or.inl rfl))) h2.lt), h3.keep (fun g hp hl => k g (Or.inl hp) hl)⟩, h.mt.keep (k r (Or.inr (Or.inr (Or.inr rfl))) h.mt.lt), h.ow, h.tq, h.tr, h.qr, fun g hg => ⟨(h.ap g hg).1, (h.ap g hg).2.1, (h.ap g hg).2.2.1, lt_keep (k g (Or.inl hg) (h.ap g hg).2.2.2) (h.ap g hg).2.2.2⟩⟩
theorem PT.new (h : PT O w tb q r K nm own hi σ μ) {g : Nat} (hg : O g ∨ Own3 tb q r g) : g < w.heap.size := hg.elim (fun hg => (h.ap g hg).2.2.2) (h.own_lt g)
theorem PT.alloc (h : PT O w tb q r K nm own hi σ μ) (o : Obj) : PT O (w.alloc o) tb q r K nm own hi σ μ := h.keep (fun g _ hl => blk_alloc_lt _ _ _ hl)
theorem PT.drewN (h : PT O w tb q r K nm own hi σ μ) (j : Nat) : PT O (w.drewN j) tb q r K nm own hi σ μ := h.keep (fun g _ hl => rfl)
theorem PT.below (h : PT O w tb q r K nm own hi σ μ) {B : Nat} (k : Below B w w') (hB : w.heap.size ≤ B) : PT O w' tb q r K nm own hi σ μ := h.keep (fun g _ hl => k.block g (by omega))
theorem PT.only (h : PT O w tb q r K nm own hi σ μ) {S : Nat → Prop} (k : Only S w w') (hS : ∀ g, S g → ¬ O g ∧ ¬ Own3 tb q r g) : PT O w' tb q r K nm own hi σ μ := h.keep (fun g hg hl => k.block g hl (fun c => hg.elim (hS g c).1 (hS g c).2))
theorem PT.more (h : PT O w tb q r K nm own hi σ μ) {K' : Nat} (hk : K ≤ K') : PT O w tb q r K' nm own hi σ μ := by
 obtain ⟨n, m, h1, h2⟩ := h.mp
 exact ⟨h.blk, ⟨n, m, Nat.le_trans h1 hk, h2⟩, h.mt, Nat.le_trans h.ow hk, h.tq, h.tr, h.qr, h.ap⟩
theorem PT.cells (h : PT O w tb q r K nm own hi σ μ) : w.cell? ⟨tb, 0, none⟩ = some (.map (some q)) ∧ w.cell? ⟨tb, 1, none⟩ = some (.int .i64 (own : Int)) ∧ w.cell? ⟨tb, 2, none⟩ = some (.int .i64 hi) ∧ w.cell? ⟨tb, 3, none⟩ = some (.map (some r)) ∧ ∀ o, w.frozen? ⟨tb, o, none⟩ = false := by
 have := h.blk
 refine ⟨?_, ?_, ?_, ?_, fun o => ?_⟩ <;> simp [World.cell?, World.frozen?, this]
/-- What is known of a variable, looked up. -/
theorem PT.val_yes (h : PT O w tb q r K nm own hi σ μ) {k : Int} (hk : -9223372036854775808 ≤ k ∧ k ≤ 9223372036854775807) {x : Rw} (hx : σ k = some x) : ∃ al cp, RT O w x.L al ∧ (-9223372036854775808 ≤ x.V ∧ x.V ≤ 9223372036854775807 ∧ x.S.length ≤ maxLen) ∧ (Instr.lookup 39 (.map (some q)) (.int .i64 k) false).run Tryd.prog w = .ok (.agg #[.int .i64 x.V, .string ⟨x.S.toArray⟩, .slice al x.L.length cp]) w ∧ (Instr.lookup 39 (.map (some q)) (.int .i64 k) true).run Tryd.prog w = .ok (.tuple #[.agg #[.int .i64 x.V, .string ⟨x.S.toArray⟩, .slice al x.L.length cp], .bool true]) w := by
 obtain ⟨n, m, _, h2, h3⟩ := h.mp
 obtain ⟨h4, h0, al, cp, h5, h6⟩ := (h3 k).2 x hx
 exact ⟨al, cp, h6, ⟨h4.1, h4.2, h0⟩, h2.val_yes Tryd.underlying39 (z := .agg #[.int .i64 0, .string ⟨#[]⟩, .slice none 0 0]) (by kernel_rfl) hk h5, h2.look_yes Tryd.underlying39 (z := .agg #[.int .i64 0, .string ⟨#[]⟩, .slice none 0 0]) (by kernel_rfl) hk h5⟩
theorem PT.val_no (h : PT O w tb q r K nm own hi σ μ) {k : Int} (hk : -9223372036854775808 ≤ k ∧ k ≤ 9223372036854775807) (hx : σ k = none) : (Instr.lookup 39 (.map (some q)) (.int .i64 k) false).run Tryd.prog w = .ok (.agg #[.int .i64 0, .string ⟨#[]⟩, .slice none 0 0]) w ∧ (Instr.lookup 39 (.map (some q)) (.int .i64 k) true).run Tryd.prog w = .ok (.tuple #[.agg #[.int .i64 0, .string ⟨#[]⟩, .slice none 0 0], .bool false]) w := by
 obtain ⟨n, m, _, h2, h3⟩ := h.mp
 have h5 := (h3 k).1 hx
 exact ⟨h2.val_no Tryd.underlying39 (by kernel_rfl) hk h5, h2.look_no Tryd.underlying39 (by kernel_rfl) hk h5⟩
/-- What is looked up, in whatever world the map is as it was. -/
theorem PT.look_yes (h : PT O w tb q r K nm own hi σ μ) {k : Int} (hk : -9223372036854775808 ≤ k ∧ k ≤ 9223372036854775807) {x : Rw} (hx : σ k = some x) : ∃ al cp, RT O w x.L al ∧ (-9223372036854775808 ≤ x.V ∧ x.V ≤ 9223372036854775807 ∧ x.S.length ≤ maxLen) ∧ ∀ w' : World, w'.heap[q]? = w.heap[q]? → (Instr.lookup 39 (.map (some q)) (.int .i64 k) false).run Tryd.prog w' = .ok (.agg #[.int .i64 x.V, .string ⟨x.S.toArray⟩, .slice al x.L.length cp]) w' ∧ (Instr.lookup 39 (.map (some q)) (.int .i64 k) true).run Tryd.prog w' = .ok (.tuple #[.agg #[.int .i64 x.V, .string ⟨x.S.toArray⟩, .slice al x.L.length cp], .bool true]) w' := by
 obtain ⟨n, m, _, h2, h3⟩ := h.mp
 obtain ⟨h4, h0, al, cp, h5, h6⟩ := (h3 k).2 x hx
 exact ⟨al, cp, h6, ⟨h4.1, h4.2, h0⟩, fun w' e => ⟨(h2.keep e).val_yes Tryd.underlying39 (z := .agg #[.int .i64 0, .string ⟨#[]⟩, .slice none 0 0]) (by kernel_rfl) hk h5, (h2.keep e).look_yes Tryd.underlying39 (z := .agg #[.int .i64 0, .string ⟨#[]⟩, .slice none 0 0]) (by kernel_rfl) hk h5⟩⟩
theorem PT.look_no (h : PT O w tb q r K nm own hi σ μ) {k : Int} (hk : -9223372036854775808 ≤ k ∧ k ≤ 9223372036854775807) (hx : σ k = none) : ∀ w' : World, w'.heap[q]? = w.heap[q]? → (Instr.lookup 39 (.map (some q)) (.int .i64 k) false).run Tryd.prog w' = .ok (.agg #[.int .i64 0, .string ⟨#[]⟩, .slice none 0 0]) w' ∧ (Instr.lookup 39 (.map (some q)) (.int .i64 k) true).run Tryd.prog w' = .ok (.tuple #[.agg #[.int .i64 0, .string ⟨#[]⟩, .slice none 0 0], .bool false]) w' := by
 obtain ⟨n, m, _, h2, h3⟩ := h.mp
 have h5 := (h3 k).1 hx
 exact fun w' e => ⟨(h2.keep e).val_no Tryd.underlying39 (by kernel_rfl) hk h5, (h2.keep e).look_no Tryd.underlying39 (by kernel_rfl) hk h5⟩
/-- What is met, looked up. -/
theorem PT.met_yes (h : PT O w tb q r K nm own hi σ μ) {k c : Int} (hk : -9223372036854775808 ≤ k ∧ k ≤ 9223372036854775807) (hx : μ k = some c) : (Instr.lookup 49 (.map (some r)) (.int .i64 k) true).run Tryd.prog w = .ok (.tuple #[.int .i64 c, .bool true]) w :=
 h.mt.look_yes Tryd.underlying49 (z := .int .i64 0) (by kernel_rfl) hk (by unfold metV; rw [hx]; rfl)
theorem PT.met_no (h : PT O w tb q r K nm own hi σ μ) {k : Int} (hk : -9223372036854775808 ≤ k ∧ k ≤ 9223372036854775807) (hx : μ k = none) : (Instr.lookup 49 (.map (some r)) (.int .i64 k) true).run Tryd.prog w = .ok (.tuple #[.int .i64 0, .bool false]) w :=
 h.mt.look_no Tryd.underlying49 (by kernel_rfl) hk (by unfold metV; rw [hx]; rfl)
theorem grown_keep {q : Nat} (h : w.grownBy w' (some q)) {g : Nat} (hg : g < w.heap.size) (hne : g ≠ q) : w'.heap[g]? = w.heap[g]? := h.block g hg (fun e => hne (by cases e; rfl))
/-- What is met is put. -/
def updM (μ : Int → Option Int) (v c : Int) (k : Int) : Option Int := if k = v then some c else μ k
theorem PT.meet (h : PT O w tb q r K nm own hi σ μ) (hn : nm < maxLen) {k : Int} (hk : -9223372036854775808 ≤ k ∧ k ≤ 9223372036854775807) (c : Int) : ∃ w', (Instr.mapUpdate 49 (.map (some r)) (.int .i64 k) (.int .i64 c)).run Tryd.prog w = .ok () w' ∧ PT O w' tb q r K (nm + 1) own hi σ (updM μ k c) ∧ w.grownBy w' (some r) := by
 obtain ⟨w', g1, g2, g3⟩ := h.mt.put Tryd.underlying49 hn hk (.int .i64 c)
 obtain ⟨n, m, h1, h2, h3⟩ := h.mp
 have hO : ∀ g, O g → g ≠ r := fun g hg => (h.ap g hg).2.2.1
 refine ⟨w', g1, ⟨(grown_keep g3 h.lt h.tr).trans h.blk, ⟨n, m, h1, h2.keep (grown_keep g3 h2.lt h.qr), h3.keep (fun g hg hl => grown_keep g3 hl (hO g hg))⟩, ?_, h.ow, h.tq, h.tr, h.qr, fun g hg => ⟨(h.ap g hg).1, (h.ap g hg).2.1, (h.ap g hg).2.2.1, Nat.lt_of_lt_of_le (h.ap g hg).2.2.2 g3.size⟩⟩, g3⟩
 have e : metV (updM μ k c) = (fun j => if j = k then some (Value.int .i64 c) else metV μ j) := by
  funext j
  unfold metV updM
  split <;> rfl
 rw [e]
 exact g2
/-- Nothing is met any more. -/
theorem PT.forget (h : PT O w tb q r K nm own hi σ μ) : ∃ w', (∀ ty : TypeId, (Builtin.clear_ #[49] ty #[.map (some r)]).run Tryd.prog w = .ok (.tuple #[]) w') ∧ PT O w' tb q r K 0 own hi σ (fun _ => none) ∧ w.grownBy w' (some r) := by
 obtain ⟨w', g1, g2, g3⟩ := h.mt.clear Tryd.underlying49
 obtain ⟨n, m, h1, h2, h3⟩ := h.mp
 have hO : ∀ g, O g → g ≠ r := fun g hg => (h.ap g hg).2.2.1
 exact ⟨w', g1, ⟨(grown_keep g3 h.lt h.tr).trans h.blk, ⟨n, m, h1, h2.keep (grown_keep g3 h2.lt h.qr), h3.keep (fun g hg hl => grown_keep g3 hl (hO g hg))⟩, g2, h.ow, h.tq, h.tr, h.qr, fun g hg => ⟨(h.ap g hg).1, (h.ap g hg).2.1, (h.ap g hg).2.2.1, Nat.lt_of_lt_of_le (h.ap g hg).2.2.2 g3.size⟩⟩, g3⟩
/-- What is known is put, where something is. -/
theorem PT.again (h : PT O w tb q r K nm own hi σ μ) (hK : K < maxLen) {k : Int} (hk : -9223372036854775808 ≤ k ∧ k ≤ 9223372036854775807) (hs : σ k ≠ none) {x : Rw} (hx : -9223372036854775808 ≤ x.V ∧ x.V ≤ 9223372036854775807) (hxs : x.S.length ≤ maxLen) {al : Option Addr} {cp : Nat} (hr : RT O w x.L al) : ∃ w', (Instr.mapUpdate 39 (.map (some q)) (.int .i64 k) (.agg #[.int .i64 x.V, .string ⟨x.S.toArray⟩, .slice al x.L.length cp])).run Tryd.prog w = .ok () w' ∧ PT O w' tb q r K nm own hi (upd σ k x) μ ∧ w.grownBy w' (some q) := by
 obtain ⟨n, m, h1, h2, h3⟩ := h.mp
 have hm : (m k).isSome = true := by
  cases hz : σ k with
  | none => exact absurd hz hs
  | some z =>
   obtain ⟨_, _, _, _, h5, _⟩ := (h3 k).2 z hz
   rw [h5]
   rfl
 obtain ⟨w', g1, g2, g3⟩ := h2.again Tryd.underlying39 (by omega) hk hm (.agg #[.int .i64 x.V, .string ⟨x.S.toArray⟩, .slice al x.L.length cp])
 have hO : ∀ g, O g → g ≠ q := fun g hg => (h.ap g hg).2.1
 refine ⟨w', g1, ⟨(grown_keep g3 h.lt h.tq).trans h.blk, ⟨n, _, h1, g2, fun j => ?_⟩, h.mt.keep (grown_keep g3 h.mt.lt (fun e => h.qr e.symm)), h.ow, h.tq, h.tr, h.qr, fun g hg => ⟨(h.ap g hg).1, (h.ap g hg).2.1, (h.ap g hg).2.2.1, Nat.lt_of_lt_of_le (h.ap g hg).2.2.2 g3.size⟩⟩, g3⟩
 by_cases e : j = k
 ·subst e
  rw [upd_same]
  refine ⟨(fun c => by cases c), fun y hy => ?_⟩
  cases hy
  exact ⟨hx, hxs, al, cp, by simp, hr.keep (fun g hg hl => grown_keep g3 hl (hO g hg))⟩
 ·rw [upd_other x e]
  simp only [if_neg e]
  exact h3.keep (fun g hg hl => grown_keep g3 hl (hO g hg)) j
/-- What is known is put. -/
theorem PT.put (h : PT O w tb q r K nm own hi σ μ) (hK : K < maxLen) {k : Int} (hk : -9223372036854775808 ≤ k ∧ k ≤ 9223372036854775807) {x : Rw} (hx : -9223372036854775808 ≤ x.V ∧ x.V ≤ 9223372036854775807) (hxs : x.S.length ≤ maxLen) {al : Option Addr} {cp : Nat} (hr : RT O w x.L al) : ∃ w', (Instr.mapUpdate 39 (.map (some q)) (.int .i64 k) (.agg #[.int .i64 x.V, .string ⟨x.S.toArray⟩, .slice al x.L.length cp])).run Tryd.prog w = .ok () w' ∧ PT O w' tb q r (K + 1) nm own hi (upd σ k x) μ ∧ w.grownBy w' (some q) := by
 obtain ⟨n, m, h1, h2, h3⟩ := h.mp
 obtain ⟨w', g1, g2, g3⟩ := h2.put Tryd.underlying39 (by omega) hk (.agg #[.int .i64 x.V, .string ⟨x.S.toArray⟩, .slice al x.L.length cp])
 have hO : ∀ g, O g → g ≠ q := fun g hg => (h.ap g hg).2.1
 have hw := h.ow
 refine ⟨w', g1, ⟨(grown_keep g3 h.lt h.tq).trans h.blk, ⟨n + 1, _, by omega, g2, fun j => ?_⟩, h.mt.keep (grown_keep g3 h.mt.lt (fun e => h.qr e.symm)), by omega, h.tq, h.tr, h.qr, fun g hg => ⟨(h.ap g hg).1, (h.ap g hg).2.1, (h.ap g hg).2.2.1, Nat.lt_of_lt_of_le (h.ap g hg).2.2.2 g3.size⟩⟩, g3⟩
 by_cases e : j = k
 ·subst e
  rw [upd_same]
  refine ⟨(fun c => by cases c), fun y hy => ?_⟩
  cases hy
  exact ⟨hx, hxs, al, cp, by simp, hr.keep (fun g hg hl => grown_keep g3 hl (hO g hg))⟩
 ·rw [upd_other x e]
  simp only [if_neg e]
  exact h3.keep (fun g hg hl => grown_keep g3 hl (hO g hg)) j
/-- O may be greater. -/
theorem PT.wide (h : PT O w tb q r K nm own hi σ μ) {O' : Nat → Prop} (hO : ∀ g, O g → O' g) (ha : ∀ g, O' g → g ≠ tb ∧ g ≠ q ∧ g ≠ r ∧ g < w.heap.size) : PT O' w tb q r K nm own hi σ μ := by
 obtain ⟨n, m, h1, h2, h3⟩ := h.mp
 refine ⟨h.blk, ⟨n, m, h1, h2, fun j => ⟨(h3 j).1, fun x hx => ?_⟩⟩, h.mt, h.ow, h.tq, h.tr, h.qr, ha⟩
 obtain ⟨a1, a0, al, cp, a2, a3⟩ := (h3 j).2 x hx
 exact ⟨a1, a0, al, cp, a2, a3.mono (fun g hg _ => hO g hg)⟩
end
end Go.Proofs.YtnebhiaeechpaaaDoor
