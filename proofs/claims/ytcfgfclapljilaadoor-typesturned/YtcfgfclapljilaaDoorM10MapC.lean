/-
 Layer 10: a map from numbers in memory, and how many it holds. No condition but that it lies in memory.
-/
import Derived.Test.YtcfgfclapljilaaDoorM10MapB
import Derived.Maps.OwnSet
namespace Go.Proofs.YtcfgfclapljilaaDoor
open Go.ChangeShapes Go.WideShapes Go.ChangeAt Go.RowKit Go.Deep
set_option linter.unusedVariables false
set_option maxHeartbeats 1000000
/-- Block q is a map that knows just this, c in all. -/
def MapC (w : World) (q c : Nat) (m : Int → Option Value) : Prop := ∃ D : DataW Value, w.ownsMap Tryd.prog 3 heldE q c D ∧ Maps.IsMap D ∧ Maps.size D = c ∧ ∀ k, -9223372036854775808 ≤ k → k ≤ 9223372036854775807 → Maps.has D (keyN k) = (m k).isSome ∧ ∀ v, m k = some v → ∀ z, D.atKey (keyN k) z = .held v
section
variable {w w' : World} {q c : Nat} {m : Int → Option Value}
theorem MapC.v (h : MapC w q c m) : MapV w q c m := by
 obtain ⟨D, h1, h2, _, h3⟩ := h
 exact ⟨D, h1, h2, h3⟩
theorem MapC.keep (h : MapC w q c m) (e : w'.heap[q]? = w.heap[q]?) : MapC w' q c m := by
 obtain ⟨D, ⟨es, clock, hb, r⟩, h2⟩ := h
 exact ⟨D, ⟨es, clock, e.trans hb, r⟩, h2⟩
theorem MapC.lt (h : MapC w q c m) : q < w.heap.size := h.v.lt
theorem MapC.alloc (h : MapC w q c m) (o : Obj) : MapC (w.alloc o) q c m := h.keep (blk_alloc_lt _ _ _ h.lt)
theorem MapC.below (h : MapC w q c m) (k : Below w.heap.size w w') : MapC w' q c m := h.keep (k.block q h.lt)
theorem MapC.made (w : World) : MapC (w.alloc (.map #[] 0)) w.heap.size 0 (fun _ => none) :=
 ⟨.map [], World.ownsMap_made w Tryd.prog 3 heldE, Maps.isMap_empty, rfl, fun k _ _ => ⟨rfl, fun v h => by cases h⟩⟩
theorem MapC.len (h : MapC w q c m) {t e : TypeId} (ht : Tryd.prog.underlying t = some (.map 3 e)) (ty : TypeId) : (Builtin.len_ #[t] ty #[.map (some q)]).run Tryd.prog w = .ok (.int .i64 (c : Int)) w := by
 obtain ⟨D, h1, _, h2, _⟩ := h
 have := h1.len ht ty
 rw [h2] at this
 exact this
/-- One more is put. -/
theorem MapC.put (h : MapC w q c m) {t e : TypeId} (ht : Tryd.prog.underlying t = some (.map 3 e)) (hn : c < maxLen) {k : Int} (hk : -9223372036854775808 ≤ k ∧ k ≤ 9223372036854775807) (hm : m k = none) (v : Value) : ∃ w', (Instr.mapUpdate t (.map (some q)) (.int .i64 k) v).run Tryd.prog w = .ok () w' ∧ MapC w' q (c + 1) (fun j => if j = k then some v else m j) ∧ w.grownBy w' (some q) := by
 obtain ⟨D, h1, h2, h4, h3⟩ := h
 obtain ⟨w', g1, g2, g3⟩ := h1.update (val := v) (d := .held v) (ps := []) int_keyed10 ht hn (Maps.keyOf_int_mk Tryd.underlying3 (keyN_wf hk)) rfl
 have htd := h1.tidy int_keyed10
 have hh : Maps.has D (keyN k) = false := by rw [(h3 k hk.1 hk.2).1, hm]; rfl
 refine ⟨w', g1, ⟨_, g2, h2.put _ _, ?_, fun j j1 j2 => ?_⟩, g3⟩
 ·have h9 := Maps.size_put (k := keyN k) htd (.held v)
  rw [hh] at h9
  rw [h4] at h9
  simpa [keyN] using h9
 ·by_cases e : j = k
  ·subst e
   simp only [if_pos]
   exact ⟨Maps.has_put_same h2 (show WideAt.IsKeyLit (keyN j) from trivial) _, fun u hu z => by
    rw [← Option.some.inj hu]
    exact Maps.atKey_put_same h2 (show WideAt.IsKeyLit (keyN j) from trivial) _ z⟩
  ·simp only [if_neg e]
   have hne : keyN j ≠ keyN k := fun c => e (Lit.int.inj c).2
   obtain ⟨a1, a2⟩ := h3 j j1 j2
   exact ⟨(Maps.has_put_other hne _).trans a1, fun u hu z => (Maps.atKey_put_other hne _ z).trans (a2 u hu z)⟩
end
end Go.Proofs.YtcfgfclapljilaaDoor
