/-
  Layer 5: a text alone among the roots is all that is in reach; where there is room for two texts, another one can always be laid. Plain.
-/
import Derived.Test.YtlhcleocdlnbdaaT5Awake
namespace Go.Proofs.Ytlhcleocdlnbdaa
open Go.ChangeShapes Go.WideShapes Go.ChangeAt Go.RowKit Go.Deep
set_option linter.unusedVariables false
set_option maxHeartbeats 1000000

variable {s s' : St} {r r' : RS} {x y i : Int} {l l' : List UInt8}
theorem scans_text {k : Nat} (h0 : visits s r [] [x] = [k]) (hw : wordsOf (blkAt r k) = []) : ∀ m, scans s r [x] m = [k]
  | 0 => h0
  | m + 1 => by
    have ih := scans_text h0 hw m
    unfold scans at ih ⊢
    rw [List.range_succ, List.foldl_append, ih]
    show scan1 s r [k] m = [k]
    unfold scan1
    cases m with
    | zero => show visits s r [k] (wordsOf (blkAt r k)) = _; rw [hw]; rfl
    | succ m => rfl
theorem reach_text (h : Rep s r) (e : textAt s r x = (some l, 0)) : lenG r (reachG s r [x]) = l.length / 8 + 2 := by
  obtain ⟨k, b, hk, hx, hl, hbk, ht, _⟩ := text_is h e
  obtain ⟨t1, t2⟩ := textF_tag ht
  have hv : visits s r [] [x] = [k] := by
    show visit s r [] x = [k]
    rw [visit_new hl (by simp)]
    rfl
  have hw : wordsOf (blkAt r k) = [] := by unfold wordsOf; rw [hbk, if_pos t1]
  have hr : reachG s r [x] = [k] := scans_text hv hw _
  rw [hr]
  show lenB [blkAt r k] = _
  rw [hbk]
  have h3 : lenB [b] = b.F.length + 1 := by simp [lenB]; omega
  rw [h3, t2, fieldsT_len]
theorem lay_always {k : Int} {X : Nat → Int} (l2 : List UInt8) (hg : Good s r) (e : textAt s r (X 0) = (some l, 0)) (h2 : l2.length ≤ 4096) (hn : l.length / 8 + 2 + (l2.length / 8 + 2) ≤ r.n) : (layOf r k 1 X l2).1 = 0 ∧ (layOf r k 1 X l2).2.2.2.1.n = r.n := by
  have hp := pick_good hg
  rw [agree_text hg hp] at e
  have hr := reach_text hp.rep e
  unfold layOf
  rw [if_neg (by omega)]
  by_cases g : (pick r).allocE 202 (sizeT l2) = 0
  · rw [if_pos g]; exact ⟨rfl, rfl⟩
  · rw [if_neg g, if_neg (by rw [show listX X 1 = [X 0] from rfl, hr]; unfold sizeT; omega)]
    exact ⟨rfl, rfl⟩
theorem put_n_r (s : St) (r : RS) (x i : Int) (c : UInt8) : (putR s r x i c).n = r.n := by
  unfold putR
  split
  · split <;> rfl
  · rfl
theorem set_cut (l : List UInt8) {k : Nat} (hk : k < l.length) (c : UInt8) : l.take k ++ [c] ++ l.drop (k + 1) = l.set k c := by
  rw [List.set_eq_take_append_cons_drop, if_pos hk, List.append_assoc]; rfl
end Go.Proofs.Ytlhcleocdlnbdaa
