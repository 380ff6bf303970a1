/-
  What New, Set and Flip of the document's own arena tell and make, where it and the program's arena are in one state. Condition: it lies in memory (Rf), and both are in one state (Rep).
-/
import Derived.Test.YtjnlfnecmiklhaaRefAlloc
namespace Go.Proofs.Ytjnlfnecmiklhaa
open Go.ChangeShapes Go.WideShapes Go.ChangeAt Go.RowKit Go.Deep
set_option linter.unusedVariables false
set_option maxHeartbeats 1000000
variable {w : World} {p : Pl} {s : St} {rb : Nat} {r : RS} {a : Option Addr} {cap : Nat} {V : Nat → Value}

theorem rnew_no (n : Int) (w : World) (h : n < 2 ∨ 32768 < n) :
    Calls Try.prog 30 #[.int .i64 n] w fun e w' => e = .returned (.pointer none) ∧ w' = w := by
  by_cases c : n < 2
  · go_enter Try.func30, Try.ntmps30
    go_wp2
    all_goals go_ret
    all_goals exact ⟨rfl, rfl⟩
  · have c2 : 32768 < n := by omega
    clear h
    go_enter Try.func30, Try.ntmps30
    go_wp2
    all_goals go_ret
    all_goals exact ⟨rfl, rfl⟩
theorem rnew_yes (n : Int) (w : World) (h1 : 2 ≤ n) (h2 : n ≤ 32768) :
    Calls Try.prog 30 #[.int .i64 n] w fun e w' => e = .returned (.pointer (some ⟨w.heap.size, 0, none⟩)) ∧ Rf w' w.heap.size ⟨n.toNat, 0, []⟩ none 0 (fun _ => .slice none 0 0) ∧ Below w.heap.size w w' := by
  go_enter Try.func30, Try.ntmps30
  go_wp2
  go_ret
  refine ⟨rfl, ⟨?_, fun _ => ⟨rfl, rfl⟩, Nat.le_refl _, Nat.zero_le _, fun ad h => by cases h⟩, (Below.refl _ _).alloc (Nat.le_refl _) _⟩
  have e : ((n.toNat : Nat) : Int) = n := by omega
  show _ = some (Obj.cells #[.int .i64 ((n.toNat : Nat) : Int), .int .i64 ((0 : Nat) : Int), .slice none 0 0] 52 (0, 0))
  rw [e]
  exact blk_alloc_new _ _
theorem FieldOf.setRow {w : World} {B ga o : Nat} {v x : Value} {F : List Int} {cur : Array Value} (h : FieldOf w B v F) (hga : w.heap[ga]? = some (.cells cur 57 (0, 0))) : FieldOf (w.setCell ⟨ga, o, none⟩ x) B v F := by
  obtain ⟨a, cap, e, hn, hc⟩ := h
  refine ⟨a, cap, e, hn, fun ad had => ?_⟩
  obtain ⟨g, e2, hb, ho⟩ := hc ad had
  refine ⟨g, e2, hb, ho.of_block (blk_setCell_other _ _ _ _ ?_)⟩
  intro e3
  have e3' : g = ga := e3
  subst e3'
  obtain ⟨c, hc', _⟩ := ho
  rw [hga] at hc'
  simp at hc'
theorem rset_end {w1 w3 : World} {ga k i g2 cap2 : Nat} {b : Blk} {v : Int} (h1 : Both w1 p s rb r (some ⟨ga, 0, none⟩) cap V) (hb : Below w1.heap.size w1 w3) (hk : r.L[k]? = some b) (hi : i < b.F.length)
    (ho : Own w3 g2 b.F.length (fun j => if j = i then v else b.F.getD j 0)) (hg2 : w1.heap.size ≤ g2) :
    Rf (w3.setCell ⟨ga, k * 3 + 2, none⟩ (.slice (some ⟨g2, 0, none⟩) b.F.length cap2)) rb (r.put k b i v) (some ⟨ga, 0, none⟩) cap (fun j => if j = k then .slice (some ⟨g2, 0, none⟩) b.F.length cap2 else V j) ∧
    Only (Rown rb (some ⟨ga, 0, none⟩)) w1 (w3.setCell ⟨ga, k * 3 + 2, none⟩ (.slice (some ⟨g2, 0, none⟩) b.F.length cap2)) ∧ Fresh w1.heap.size r.L.length V (r.put k b i v).L.length (fun j => if j = k then .slice (some ⟨g2, 0, none⟩) b.F.length cap2 else V j) := by
  have hrf := rf_below h1 hb
  have hl := (List.getElem?_eq_some_iff.1 hk).1
  obtain ⟨g, cur, e, hgB, hg, hcs, hcell⟩ := hrf.hl.2.2.2 _ rfl
  have eg : ga = g := by simpa using e
  subst eg
  have hrb := lt_of_some h1.rf.hr
  have hlen : (r.put k b i v).L.length = r.L.length := by simp [RS.put]
  have hf : Fresh w1.heap.size r.L.length V (r.put k b i v).L.length (fun j => if j = k then .slice (some ⟨g2, 0, none⟩) b.F.length cap2 else V j) := by
    rw [hlen]
    intro j hj
    by_cases e : j = k
    · refine Or.inr (fun ad n c e' => ?_)
      have e2 : (if j = k then Value.slice (some ⟨g2, 0, none⟩) b.F.length cap2 else V j) = .slice (some ad) n c := e'
      rw [if_pos e] at e2
      simp only [Value.slice.injEq, Option.some.injEq] at e2
      rw [← e2.1]
      exact hg2
    · exact Or.inl ⟨hj, by show (if j = k then _ else V j) = _; rw [if_neg e]⟩
  refine ⟨⟨?_, ?_⟩, (Only.of_below hb).setCell (Or.inr (Or.inr rfl)) _, hf⟩
  · rw [hlen, blk_setCell_other _ _ _ _ (by show rb ≠ ga; omega)]
    exact hrf.hr
  · refine ⟨fun h => (by cases h), by rw [hlen]; exact hrf.hl.2.1, hrf.hl.2.2.1, fun ad had => ?_⟩
    cases had
    refine ⟨ga, cur.setIfInBounds (k * 3 + 2) (.slice (some ⟨g2, 0, none⟩) b.F.length cap2), rfl, hgB, by simp [World.setCell, Array.getElem?_modify, hg], by simpa using hcs, ?_⟩
    intro j c hc
    have hcl : k * 3 + 2 < cur.size := by have := hrf.hl.2.1; omega
    show _ ∧ _ ∧ _ = some (if j = k then Value.slice (some ⟨g2, 0, none⟩) b.F.length cap2 else V j) ∧ FieldOf _ _ (if j = k then Value.slice (some ⟨g2, 0, none⟩) b.F.length cap2 else V j) _
    rcases set_some hk hc with ⟨rfl, rfl⟩ | ⟨ne, hc'⟩
    · obtain ⟨d1, d2, d3, d4⟩ := hcell j b hk
      refine ⟨?_, ?_, ?_, ?_⟩
      · rw [Array.getElem?_setIfInBounds, if_neg (by omega)]; exact d1
      · rw [Array.getElem?_setIfInBounds, if_neg (by omega)]; exact d2
      · rw [Array.getElem?_setIfInBounds, if_pos rfl, if_pos hcl, if_pos rfl]
      · rw [if_pos rfl]
        refine ⟨some ⟨g2, 0, none⟩, cap2, by simp, fun h => (by cases h), fun ad had => ?_⟩
        cases had
        have hlen2 : (b.F.set i v).length = b.F.length := by simp
        have hgl := lt_of_some h1.rf.hr
        have hga1 : ga < w1.heap.size := h1.rf.top_lt _ rfl
        refine ⟨g2, rfl, by omega, ?_⟩
        show Own _ g2 (b.F.set i v).length (fun j => (b.F.set i v).getD j 0)
        rw [hlen2]
        refine (ho.of_block (blk_setCell_other _ _ _ _ (by show g2 ≠ ga; omega))).congr (fun q hq => ?_)
        show (if q = i then v else b.F.getD q 0) = (b.F.set i v).getD q 0
        rw [List.getD_eq_getElem?_getD, List.getD_eq_getElem?_getD]
        by_cases e : q = i
        · subst e; rw [if_pos rfl, List.getElem?_set_self hi]; rfl
        · rw [if_neg e, List.getElem?_set_ne (fun c => e c.symm)]
    · obtain ⟨d1, d2, d3, d4⟩ := hcell j c hc'
      rw [if_neg ne]
      refine ⟨?_, ?_, ?_, d4.setRow hg⟩
      · rw [Array.getElem?_setIfInBounds, if_neg (by omega)]; exact d1
      · rw [Array.getElem?_setIfInBounds, if_neg (by omega)]; exact d2
      · rw [Array.getElem?_setIfInBounds, if_neg (by omega)]; exact d3
end Go.Proofs.Ytjnlfnecmiklhaa
