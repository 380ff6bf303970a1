/-
 A map from numbers, more of it: what is looked up without asking whether it is there; what is put anew where something is; all struck. Condition: the map is one that the program has made.
-/
import Derived.Test.YtnebhiaeechpaaaDoorM10Map
namespace Go.Proofs.YtnebhiaeechpaaaDoor
open Go.ChangeShapes Go.WideShapes Go.ChangeAt Go.RowKit Go.Deep
set_option linter.unusedVariables false
set_option linter.unusedSimpArgs false
set_option maxHeartbeats 1000000
section
variable {w w' : World} {q n : Nat} {m : Int → Option Value}
theorem MapV.val_yes (h : MapV w q n m) {t e : TypeId} (ht : Tryd.prog.underlying t = some (.map 3 e)) {z : Value} (hz : (zeroValue e).run Tryd.prog w = .ok z w) {k : Int} (hk : -9223372036854775808 ≤ k ∧ k ≤ 9223372036854775807) {v : Value} (hm : m k = some v) : (Instr.lookup t (.map (some q)) (.int .i64 k) false).run Tryd.prog w = .ok v w := by
 obtain ⟨D, h1, _, h3⟩ := h
 obtain ⟨u, ps, hr, hu⟩ := h1.lookup int_keyed10 ht hz (zd := .held z) (zp := []) rfl (Maps.keyOf_int_mk Tryd.underlying3 (keyN_wf hk))
 obtain ⟨g1, g2⟩ := h3 k hk.1 hk.2
 rw [show (Lit.int .i64 k) = keyN k from rfl, g2 v hm] at hu
 unfold heldE at hu
 simp only [Option.some.injEq, Prod.mk.injEq, DataW.held.injEq] at hu
 rw [hr, hu.1]
theorem MapV.val_no (h : MapV w q n m) {t e : TypeId} (ht : Tryd.prog.underlying t = some (.map 3 e)) {z : Value} (hz : (zeroValue e).run Tryd.prog w = .ok z w) {k : Int} (hk : -9223372036854775808 ≤ k ∧ k ≤ 9223372036854775807) (hm : m k = none) : (Instr.lookup t (.map (some q)) (.int .i64 k) false).run Tryd.prog w = .ok z w := by
 obtain ⟨D, h1, _, h3⟩ := h
 obtain ⟨u, ps, hr, hu⟩ := h1.lookup int_keyed10 ht hz (zd := .held z) (zp := []) rfl (Maps.keyOf_int_mk Tryd.underlying3 (keyN_wf hk))
 obtain ⟨g1, g2⟩ := h3 k hk.1 hk.2
 rw [show (Lit.int .i64 k) = keyN k from rfl] at hu
 rw [hm] at g1
 rw [Maps.atKey_of_not_has g1] at hu
 unfold heldE at hu
 simp only [Option.some.injEq, Prod.mk.injEq, DataW.held.injEq] at hu
 rw [hr, hu.1]
/-- What is put where something is: no more is there. -/
theorem MapV.again (h : MapV w q n m) {t e : TypeId} (ht : Tryd.prog.underlying t = some (.map 3 e)) (hn : n < maxLen) {k : Int} (hk : -9223372036854775808 ≤ k ∧ k ≤ 9223372036854775807) (hm : (m k).isSome = true) (v : Value) : ∃ w', (Instr.mapUpdate t (.map (some q)) (.int .i64 k) v).run Tryd.prog w = .ok () w' ∧ MapV w' q n (fun j => if j = k then some v else m j) ∧ w.grownBy w' (some q) := by
 obtain ⟨D, h1, h2, h3⟩ := h
 have hh : Maps.has D (keyN k) = true := ((h3 k hk.1 hk.2).1).trans hm
 have key : ∃ w', (Instr.mapUpdate t (.map (some q)) (.int .i64 k) v).run Tryd.prog w = .ok () w' ∧ w'.ownsMap Tryd.prog 3 heldE q n (D.put (keyN k) (.held v)) ∧ w.grownBy w' (some q) := by
  obtain ⟨es, clock, hb, F, hs, rfl⟩ := h1
  obtain ⟨es', clock', hrun, F', hput, _⟩ := Maps.fit_store (R' := heldE) int_keyed10 ht hb F (Nat.lt_of_le_of_lt hs hn) (fun _ _ _ _ hz => hz) (Maps.keyOf_int_mk Tryd.underlying3 (keyN_wf hk)) (yv := (.held v, [])) (val := v) rfl
  refine ⟨_, hrun, ⟨es', clock', ChangeMaps.heap_setBlock_same hb _, F', ?_, ?_⟩, ⟨rfl, rfl, rfl, by simp [ChangeMaps.setBlock], fun i _ hi => ChangeMaps.heap_setBlock_other hb _ (fun e => hi (by rw [e]))⟩⟩
  ·have e1 : es'.size = ((es'.toList.map (WideElems.rg Tryd.prog 3 heldE)).foldr DataW.insert []).length := by rw [length_sorted]; simp
   rw [e1, hput]
   unfold ChangeMaps.putKey
   rw [length_insert]
   have e2 : (((es.toList.map (WideElems.rg Tryd.prog 3 heldE)).foldr DataW.insert []).filter (ChangeMaps.notKey (keyN k))).length < ((es.toList.map (WideElems.rg Tryd.prog 3 heldE)).foldr DataW.insert []).length := by
    rw [List.length_filter_lt_length_iff_exists]
    have h5 : ((es.toList.map (WideElems.rg Tryd.prog 3 heldE)).foldr DataW.insert []).any (fun p => p.1.sameKey (keyN k)) = true := hh
    rw [List.any_eq_true] at h5
    obtain ⟨p, hp, hp2⟩ := h5
    refine ⟨p, hp, ?_⟩
    unfold ChangeMaps.notKey
    rw [hp2]
    simp
   rw [length_sorted] at e2
   simp at e2
   show (((es.toList.map (WideElems.rg Tryd.prog 3 heldE)).foldr DataW.insert []).filter (ChangeMaps.notKey (keyN k))).length + 1 ≤ n
   omega
  ·rw [DataW.put_eq, hput]
   rfl
 obtain ⟨w', g1, g2, g3⟩ := key
 refine ⟨w', g1, ⟨_, g2, ?_, fun j j1 j2 => ?_⟩, g3⟩
 ·exact h2.put _ _
 ·by_cases e : j = k
  ·subst e
   simp only [if_pos]
   exact ⟨Maps.has_put_same h2 (show WideAt.IsKeyLit (keyN j) from trivial) _, fun u hu z => by
    rw [← Option.some.inj hu]
    exact Maps.atKey_put_same h2 (show WideAt.IsKeyLit (keyN j) from trivial) _ z⟩
  ·simp only [if_neg e]
   have hne : keyN j ≠ keyN k := fun c => e (Lit.int.inj c).2
   obtain ⟨a1, a2⟩ := h3 j j1 j2
   exact ⟨(Maps.has_put_other hne _).trans a1, fun u hu z => (Maps.atKey_put_other hne _ z).trans (a2 u hu z)⟩
/-- All struck. -/
theorem MapV.clear (h : MapV w q n m) {t e : TypeId} (ht : Tryd.prog.underlying t = some (.map 3 e)) : ∃ w', (∀ ty : TypeId, (Builtin.clear_ #[t] ty #[.map (some q)]).run Tryd.prog w = .ok (.tuple #[]) w') ∧ MapV w' q 0 (fun _ => none) ∧ w.grownBy w' (some q) := by
 obtain ⟨D, ⟨es, clock, hb, F, hs, hD⟩, h2, h3⟩ := h
 refine ⟨ChangeMaps.setBlock w q (.map #[] clock), ?_, ⟨.map [], ⟨#[], clock, ChangeMaps.heap_setBlock_same hb _, ⟨by simp, MapKept.stamped_empty _, by simp⟩, Nat.zero_le _, rfl⟩, Maps.isMap_empty, fun k _ _ => ⟨rfl, fun v h => by cases h⟩⟩, ⟨rfl, rfl, rfl, by simp [ChangeMaps.setBlock], fun i _ hi => ChangeMaps.heap_setBlock_other hb _ (fun e => hi (by rw [e]))⟩⟩
 intro ty
 simp [Builtin.clear_, run_underlying ht, MapKept.run_getObj_map hb, MapKept.run_setObj_map _ hb, Result.andThen]
 rfl
end
end Go.Proofs.YtnebhiaeechpaaaDoor
