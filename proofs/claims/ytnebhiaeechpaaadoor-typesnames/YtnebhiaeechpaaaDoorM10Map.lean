/-
 A map from numbers, whatever its values are, as it lies in memory: what is looked up, and what is put. Condition: the map is one that the program has made.
-/
import Derived.Test.YtnebhiaeechpaaaDoorM10Mem
import Derived.Maps.OwnSet
import Derived.Maps.OwnOps
import Derived.Maps.Views
namespace Go.Proofs.YtnebhiaeechpaaaDoor
open Go.ChangeShapes Go.WideShapes Go.ChangeAt Go.RowKit Go.Deep
set_option linter.unusedVariables false
set_option linter.unusedSimpArgs false
set_option maxHeartbeats 1000000

theorem int_keyed10 : Maps.Keyed Tryd.prog 3 := Maps.int_keyed Tryd.underlying3
/-- Any value reads as itself. -/
def heldE (v : Value) : Option (DataW Value × List MemPlace) := some (.held v, [])
/-- A number as a key. -/
def keyN (k : Int) : Lit := .int .i64 k
theorem keyN_wf {k : Int} (h : -9223372036854775808 ≤ k ∧ k ≤ 9223372036854775807) : (Lit.int .i64 k).wf = true := WalkArith.wf_i64 h
/-- Block q is a map that knows just this. -/
def MapV (w : World) (q n : Nat) (m : Int → Option Value) : Prop := ∃ D : DataW Value, w.ownsMap Tryd.prog 3 heldE q n D ∧ Maps.IsMap D ∧ ∀ k, -9223372036854775808 ≤ k → k ≤ 9223372036854775807 → Maps.has D (keyN k) = (m k).isSome ∧ ∀ v, m k = some v → ∀ z, D.atKey (keyN k) z = .held v
section
variable {w w' : World} {q n : Nat} {m : Int → Option Value}
theorem MapV.lt (h : MapV w q n m) : q < w.heap.size := by
 obtain ⟨D, h1, _⟩ := h
 exact h1.lt
theorem MapV.keep (h : MapV w q n m) (e : w'.heap[q]? = w.heap[q]?) : MapV w' q n m := by
 obtain ⟨D, ⟨es, clock, hb, r⟩, h2⟩ := h
 exact ⟨D, ⟨es, clock, e.trans hb, r⟩, h2⟩
theorem MapV.alloc (h : MapV w q n m) (o : Obj) : MapV (w.alloc o) q n m := h.keep (blk_alloc_lt _ _ _ h.lt)
theorem MapV.below {B : Nat} (h : MapV w q n m) (k : Below B w w') (hB : w.heap.size ≤ B) : MapV w' q n m := h.keep (k.block q (by have := h.lt; omega))
theorem MapV.drewN (h : MapV w q n m) (j : Nat) : MapV (w.drewN j) q n m := h.keep rfl
/-- A new one knows nothing. -/
theorem MapV.made (w : World) : MapV (w.alloc (.map #[] 0)) w.heap.size 0 (fun _ => none) :=
 ⟨.map [], World.ownsMap_made w Tryd.prog 3 heldE, Maps.isMap_empty, fun k _ _ => ⟨rfl, fun v h => by cases h⟩⟩
/-- What is known is told. -/
theorem MapV.look_yes (h : MapV w q n m) {t e : TypeId} (ht : Tryd.prog.underlying t = some (.map 3 e)) {z : Value} (hz : (zeroValue e).run Tryd.prog w = .ok z w) {k : Int} (hk : -9223372036854775808 ≤ k ∧ k ≤ 9223372036854775807) {v : Value} (hm : m k = some v) : (Instr.lookup t (.map (some q)) (.int .i64 k) true).run Tryd.prog w = .ok (.tuple #[v, .bool true]) w := by
 obtain ⟨D, h1, _, h3⟩ := h
 obtain ⟨u, ps, hr, hu⟩ := h1.look_ok int_keyed10 ht hz (zd := .held z) (zp := []) rfl (Maps.keyOf_int_mk Tryd.underlying3 (keyN_wf hk))
 obtain ⟨g1, g2⟩ := h3 k hk.1 hk.2
 rw [show (Lit.int .i64 k) = keyN k from rfl, g2 v hm] at hu
 unfold heldE at hu
 simp only [Option.some.injEq, Prod.mk.injEq, DataW.held.injEq] at hu
 rw [show (Lit.int .i64 k) = keyN k from rfl, g1, hm] at hr
 rw [hr, hu.1]
 rfl
theorem MapV.look_no (h : MapV w q n m) {t e : TypeId} (ht : Tryd.prog.underlying t = some (.map 3 e)) {z : Value} (hz : (zeroValue e).run Tryd.prog w = .ok z w) {k : Int} (hk : -9223372036854775808 ≤ k ∧ k ≤ 9223372036854775807) (hm : m k = none) : (Instr.lookup t (.map (some q)) (.int .i64 k) true).run Tryd.prog w = .ok (.tuple #[z, .bool false]) w := by
 obtain ⟨D, h1, _, h3⟩ := h
 obtain ⟨u, ps, hr, hu⟩ := h1.look_ok int_keyed10 ht hz (zd := .held z) (zp := []) rfl (Maps.keyOf_int_mk Tryd.underlying3 (keyN_wf hk))
 obtain ⟨g1, g2⟩ := h3 k hk.1 hk.2
 rw [show (Lit.int .i64 k) = keyN k from rfl] at hu hr
 rw [hm] at g1
 rw [Maps.atKey_of_not_has g1] at hu
 unfold heldE at hu
 simp only [Option.some.injEq, Prod.mk.injEq, DataW.held.injEq] at hu
 rw [g1] at hr
 rw [hr, hu.1]
 rfl
/-- What is put is known, and nothing else has turned. -/
theorem MapV.put (h : MapV w q n m) {t e : TypeId} (ht : Tryd.prog.underlying t = some (.map 3 e)) (hn : n < maxLen) {k : Int} (hk : -9223372036854775808 ≤ k ∧ k ≤ 9223372036854775807) (v : Value) : ∃ w', (Instr.mapUpdate t (.map (some q)) (.int .i64 k) v).run Tryd.prog w = .ok () w' ∧ MapV w' q (n + 1) (fun j => if j = k then some v else m j) ∧ w.grownBy w' (some q) := by
 obtain ⟨D, h1, h2, h3⟩ := h
 obtain ⟨w', g1, g2, g3⟩ := h1.update (val := v) (d := .held v) (ps := []) int_keyed10 ht hn (Maps.keyOf_int_mk Tryd.underlying3 (keyN_wf hk)) rfl
 refine ⟨w', g1, ⟨_, g2, ?_, fun j j1 j2 => ?_⟩, g3⟩
 ·exact h2.put _ _
 ·by_cases e : j = k
  ·subst e
   simp only [if_pos]
   exact ⟨Maps.has_put_same h2 (show WideAt.IsKeyLit (keyN j) from trivial) _, fun u hu z => by
    rw [← Option.some.inj hu]
    exact Maps.atKey_put_same h2 (show WideAt.IsKeyLit (keyN j) from trivial) _ z⟩
  ·simp only [if_neg e]
   have hne : keyN j ≠ keyN k := fun c => e (Lit.int.inj c).2
   obtain ⟨a1, a2⟩ := h3 j j1 j2
   exact ⟨(Maps.has_put_other hne _).trans a1, fun u hu z => (Maps.atKey_put_other hne _ z).trans (a2 u hu z)⟩
end
end Go.Proofs.YtnebhiaeechpaaaDoor
