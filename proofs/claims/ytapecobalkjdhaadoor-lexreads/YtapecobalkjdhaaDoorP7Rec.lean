/-
  A region in which a deferred call recovers, walked operation by operation. No program is named.
-/
import Derived.Test.YtapecobalkjdhaaDoorP7All
import Derived.Tactics
import Derived.Tactics2
import Derived.Defers
import Derived.Recover
import Derived.Laws.Pointers
namespace Go.Proofs.YtapecobalkjdhaaDoor
open Go.ChangeShapes Go.WideShapes Go.ChangeAt Go.RowKit Go.Deep
set_option linter.unusedVariables false
set_option maxHeartbeats 1000000

/-- The operations of a region that recovers, one behind the other. -/
def wpListS (P : Program) (ops : Array Oper) (Q : Exit → Act → List Frame → World → Prop) : List Oper → Act → List Frame → World → Prop
  | [], a, cs, w => Q .normal a cs w
  | o :: rest, a, cs, w =>
      if Region.wanted o (yielded ops a.tmps) then
        match (execOp a.eval o).run P w with
        | .ok .recover w' =>
          match recoverD cs with
          | some (v, cs') => wpListS P ops Q rest (a.put o.dst v) cs' w'
          | none => wpListS P ops Q rest (a.put o.dst .nilIface) cs w'
        | r => o.upon P a (fun a' w' => wpListS P ops Q rest a' cs w') (fun e a' w' => Q e a' cs w') r
      else wpListS P ops Q rest (a.put o.dst undef) cs w
theorem listS_ops {P : Program} {ops : Array Oper} {Q : Exit → Act → List Frame → World → Prop} : ∀ (L : List Oper) (i : Nat), ops.toList.drop i = L → ∀ (a : Act) (cs : List Frame) (w : World), wpListS P ops Q L a cs w → wpOpsS P ops Q (List.range' i L.length) a cs w
  | [], i, _, a, cs, w, h => h
  | o :: L, i, hL, a, cs, w, h => by
    have ho : ops[i]? = some o := by
      have : ops.toList[i]? = some o := by
        have e : (ops.toList.drop i)[0]? = some o := by rw [hL]; rfl
        rw [List.getElem?_drop] at e
        exact e
      simpa using this
    have hL2 : ops.toList.drop (i + 1) = L := by rw [← List.drop_drop, hL]; rfl
    have ih := listS_ops (P := P) (Q := Q) L (i + 1) hL2
    show wpOpsS P ops Q (i :: List.range' (i + 1) L.length) a cs w
    rw [wpListS] at h
    rw [wpOpsS, ho]
    simp only
    by_cases hw : Region.wanted o (yielded ops a.tmps) = true
    · rw [if_pos hw] at h ⊢
      split at h
      · rename_i w' hr
        rw [hr]
        simp only
        split at h
        · rename_i v cs' hc
          rw [hc]
          exact ih _ _ _ h
        · rename_i hc
          rw [hc]
          exact ih _ _ _ h
      · rename_i r hnot
        have e : ∀ r : Result Next, o.upon P a (fun a' w' => wpListS P ops Q L a' cs w') (fun e a' w' => Q e a' cs w') r → o.upon P a (fun a' w' => wpOpsS P ops Q (List.range' (i + 1) L.length) a' cs w') (fun e a' w' => Q e a' cs w') r := by
          intro r hr
          unfold Oper.upon at hr ⊢
          split at hr <;> first | exact ih _ _ _ hr | skip
          · refine Calls.mono hr (fun e w'' he => ?_)
            cases e with
            | returned v => exact ih _ _ _ he
            | panicked ch => exact he
            | outgrown => exact he
          · refine Rows.mono hr (fun v w'' he => ih _ _ _ he)
          · exact hr
          · exact hr
        generalize (execOp a.eval o).run P w = r' at h hnot ⊢
        split
        · rename_i w' ; exact absurd rfl (hnot w')
        · exact e _ h
    · rw [if_neg hw] at h ⊢
      exact ih _ _ _ h
theorem wpS_region_list {P : Program} {id : Nat} {ops : Array Oper} {Q : Exit → Act → List Frame → World → Prop} {a : Act} {cs : List Frame} {w : World} (h : wpListS P ops Q ops.toList a cs w) : (Code.region id ops false).wpS P Q a cs w := by
  apply wpS_region
  have := listS_ops (P := P) (Q := Q) ops.toList 0 rfl a cs w h
  rw [List.range_eq_range']
  exact this
/-- The same, not to be laid open by chance. -/
structure WL (P : Program) (ops : Array Oper) (Q : Exit → Act → List Frame → World → Prop) (L : List Oper) (a : Act) (cs : List Frame) (w : World) : Prop where
  out : wpListS P ops Q L a cs w
theorem wl_nil {P : Program} {ops : Array Oper} {Q : Exit → Act → List Frame → World → Prop} {a : Act} {cs : List Frame} {w : World} (h : Q .normal a cs w) : WL P ops Q [] a cs w := ⟨h⟩
theorem wpS_region_lit {P : Program} {id : Nat} {l : List Oper} {Q : Exit → Act → List Frame → World → Prop} {a : Act} {cs : List Frame} {w : World} (h : WL P l.toArray Q l a cs w) : (Code.region id l.toArray false).wpS P Q a cs w := wpS_region_list (by simpa using h.out)
section
variable {P : Program} {ops : Array Oper} {Q : Exit → Act → List Frame → World → Prop} {rest : List Oper} {a : Act} {cs cs' : List Frame} {w w' : World} {o : Oper} {v : Value}
theorem opsS_val (hg : o.guard = none) (hr : (execOp a.eval o).run P w = .ok (.value v) w') (h : WL P ops Q rest (a.put o.dst v) cs w') : WL P ops Q (o :: rest) a cs w := by
  have hw : Region.wanted o (yielded ops a.tmps) = true := by simp [Region.wanted, hg]
  refine ⟨?_⟩
  rw [wpListS]
  simp only [hw, if_true, hr]
  exact h.out
theorem opsS_skip (hg : o.guard = none) (hr : (execOp a.eval o).run P w = .ok .skip w') (h : WL P ops Q rest (a.put o.dst undef) cs w') : WL P ops Q (o :: rest) a cs w := by
  have hw : Region.wanted o (yielded ops a.tmps) = true := by simp [Region.wanted, hg]
  refine ⟨?_⟩
  rw [wpListS]
  simp only [hw, if_true, hr]
  exact h.out
theorem opsS_rec (hg : o.guard = none) (hr : (execOp a.eval o).run P w = .ok .recover w) (hc : recoverD cs = some (v, cs')) (h : WL P ops Q rest (a.put o.dst v) cs' w) : WL P ops Q (o :: rest) a cs w := by
  have hw : Region.wanted o (yielded ops a.tmps) = true := by simp [Region.wanted, hg]
  refine ⟨?_⟩
  rw [wpListS]
  simp only [hw, if_true, hr, hc]
  exact h.out
theorem opsS_idle (hg : o.guard = none) (hr : (execOp a.eval o).run P w = .ok .recover w) (hc : recoverD cs = none) (h : WL P ops Q rest (a.put o.dst .nilIface) cs w) : WL P ops Q (o :: rest) a cs w := by
  have hw : Region.wanted o (yielded ops a.tmps) = true := by simp [Region.wanted, hg]
  refine ⟨?_⟩
  rw [wpListS]
  simp only [hw, if_true, hr, hc]
  exact h.out
theorem opsS_move {x : Operand} (hop : o.op = .move x) (hg : o.guard = none) (hv : a.eval x = v) (h : WL P ops Q rest (a.put o.dst v) cs w) : WL P ops Q (o :: rest) a cs w := by
  refine opsS_val (v := v) (w' := w) hg ?_ h
  unfold execOp
  rw [hop]
  simp only [hv]
  rfl
theorem opsS_assign {x : Operand} (hop : o.op = .assign x) (hg : o.guard = none) (hv : a.eval x = v) (h : WL P ops Q rest (a.put o.dst v) cs w) : WL P ops Q (o :: rest) a cs w := by
  refine opsS_val (v := v) (w' := w) hg ?_ h
  unfold execOp
  rw [hop]
  simp only [hv]
  rfl
theorem opsS_extract {x : Operand} {ix : Nat} {vs : Array Value} (hop : o.op = .extract x ix) (hg : o.guard = none) (hv : a.eval x = .tuple vs) (hi : vs[ix]? = some v) (h : WL P ops Q rest (a.put o.dst v) cs w) : WL P ops Q (o :: rest) a cs w := by
  refine opsS_val (v := v) (w' := w) hg ?_ h
  unfold execOp
  rw [hop]
  simp [hv, Instr.extract, hi]
theorem opsS_assert {x : Operand} {u : Value} {t1 t2 : TypeId} {ok : Bool} (hop : o.op = .typeAssert x t1 t2 ok) (hg : o.guard = none) (hv : a.eval x = u) (hr : (Instr.typeAssert u t1 t2 ok).run P w = .ok v w) (h : WL P ops Q rest (a.put o.dst v) cs w) : WL P ops Q (o :: rest) a cs w := by
  refine opsS_val (v := v) (w' := w) hg ?_ h
  unfold execOp
  rw [hop]
  simp [hv, hr]
end
end Go.Proofs.YtapecobalkjdhaaDoor
