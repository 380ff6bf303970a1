/-
  Layer 7, the statements: a list of tokens whose places are written anew, one by one.
-/
import Derived.Test.YtapecobalkjdhaaDoorL7Rows
namespace Go.Proofs.YtapecobalkjdhaaDoor
open Go.ChangeShapes Go.WideShapes Go.ChangeAt Go.RowKit Go.Deep
set_option linter.unusedVariables false
set_option maxHeartbeats 1000000

/-- Tokens in a block that may be written. -/
def MR (w : World) (g : Nat) (L : List TV) : Prop := (∃ cur, w.heap[g]? = some (.cells cur 31 (0, 0))) ∧ TS w (some ⟨g, 0, none⟩) L
theorem MR.frozen {w : World} {g : Nat} {L : List TV} (h : MR w g L) (o : Nat) : w.frozen? ⟨g, o, none⟩ = false := by
  obtain ⟨⟨cur, hc⟩, _⟩ := h
  simp [World.frozen?, hc]
theorem MR.cells {w : World} {g : Nat} {L : List TV} (h : MR w g L) {i : Nat} {t : TV} (ht : L[i]? = some t) : w.cell? ⟨g, i * 4, none⟩ = some (.int .i64 t.kind) ∧ w.cell? ⟨g, i * 4 + 1, none⟩ = some (.int .i64 t.pl) ∧ w.cell? ⟨g, i * 4 + 2, none⟩ = some (.int .i64 t.N) ∧ w.cell? ⟨g, i * 4 + 3, none⟩ = some (.string ⟨t.S.toArray⟩) := by
  obtain ⟨g', e, h0⟩ := h.2.at_ i t ht
  simp only [Option.some.injEq, Addr.mk.injEq, and_true] at e
  rw [e]
  exact h0
theorem cell_set_other (w : World) (g o o' : Nat) (v : Value) (h : o ≠ o') : (w.setCell ⟨g, o, none⟩ v).cell? ⟨g, o', none⟩ = w.cell? ⟨g, o', none⟩ := by
  simp only [World.cell?, World.setCell, Array.getElem?_modify, if_true]
  cases hg : w.heap[g]? with
  | none => rfl
  | some ob =>
    cases ob <;> simp [h]
theorem cell_set_same (w : World) (g o : Nat) (v : Value) {u : Value} (h : w.cell? ⟨g, o, none⟩ = some u) : (w.setCell ⟨g, o, none⟩ v).cell? ⟨g, o, none⟩ = some v := World.cell?_setCell_same w _ v h
/-- A place is written. -/
theorem MR.write {w : World} {g k : Nat} {L M : List TV} {t t' : TV} (h : MR w g (M.take k ++ L.drop k)) (hlen : M.length = L.length) (hL : L[k]? = some t) (hM : M[k]? = some t') (h1 : t'.kind = t.kind) (h2 : t'.N = t.N) (h3 : t'.S = t.S) :
    MR (w.setCell ⟨g, k * 4 + 1, none⟩ (.int .i64 t'.pl)) g (M.take (k + 1) ++ L.drop (k + 1)) := by
  have hk : k < L.length := (List.getElem?_eq_some_iff.1 hL).1
  have htl : (M.take k).length = k := by rw [List.length_take]; omega
  have htl1 : (M.take (k + 1)).length = k + 1 := by rw [List.length_take]; omega
  obtain ⟨⟨cur, hc⟩, ht⟩ := h
  refine ⟨⟨cur.setIfInBounds (k * 4 + 1) (.int .i64 t'.pl), by simp [World.setCell, Array.getElem?_modify, hc]⟩, ⟨fun i u hu => ⟨g, rfl, ?_⟩⟩⟩
  by_cases hik : i = k
  · subst hik
    have hold : (M.take i ++ L.drop i)[i]? = some t := by
      rw [List.getElem?_append_right (by omega), htl, Nat.sub_self, List.getElem?_drop]
      exact hL
    have hu' : u = t' := by
      rw [List.getElem?_append_left (by omega), List.getElem?_take, if_pos (by omega), hM] at hu
      exact (Option.some.inj hu).symm
    subst hu'
    obtain ⟨c0, c1, c2, c3⟩ := MR.cells ⟨⟨cur, hc⟩, ht⟩ hold
    rw [cell_set_other _ _ _ _ _ (by omega), cell_set_same _ _ _ _ c1, cell_set_other _ _ _ _ _ (by omega), cell_set_other _ _ _ _ _ (by omega), h1, h2, h3]
    exact ⟨c0, rfl, c2, c3⟩
  · have hold : (M.take k ++ L.drop k)[i]? = some u := by
      by_cases hlt : i < k
      · rw [List.getElem?_append_left (by omega), List.getElem?_take, if_pos (by omega)] at hu
        rw [List.getElem?_append_left (by omega), List.getElem?_take, if_pos hlt]
        exact hu
      · rw [List.getElem?_append_right (by omega), htl1, List.getElem?_drop] at hu
        rw [List.getElem?_append_right (by omega), htl, List.getElem?_drop]
        rw [show k + (i - k) = k + 1 + (i - (k + 1)) by omega]
        exact hu
    obtain ⟨c0, c1, c2, c3⟩ := MR.cells ⟨⟨cur, hc⟩, ht⟩ hold
    rw [cell_set_other _ _ _ _ _ (by omega), cell_set_other _ _ _ _ _ (by omega), cell_set_other _ _ _ _ _ (by omega), cell_set_other _ _ _ _ _ (by omega)]
    exact ⟨c0, c1, c2, c3⟩
/-- A place stands already. -/
theorem MR.stay {w : World} {g k : Nat} {L M : List TV} {t : TV} (h : MR w g (M.take k ++ L.drop k)) (hL : L[k]? = some t) (hM : M[k]? = some t) : MR w g (M.take (k + 1) ++ L.drop (k + 1)) := by
  have hk : k < L.length := (List.getElem?_eq_some_iff.1 hL).1
  have e : M.take k ++ L.drop k = M.take (k + 1) ++ L.drop (k + 1) := by
    rw [List.take_add_one, hM, List.drop_eq_getElem_cons hk]
    have : L[k] = t := by rw [List.getElem?_eq_getElem hk] at hL; exact Option.some.inj hL
    rw [this]
    simp
  rw [← e]
  exact h
theorem MR.below {w w' : World} {g : Nat} {L : List TV} (h : MR w g L) (b : Below w.heap.size w w') : MR w' g L := ⟨by obtain ⟨⟨cur, hc⟩, _⟩ := h; exact ⟨cur, (b.block g (lt_of_some hc)).trans hc⟩, h.2.below b⟩
theorem MR.lt {w : World} {g : Nat} {L : List TV} (h : MR w g L) : g < w.heap.size := by obtain ⟨⟨cur, hc⟩, _⟩ := h; exact lt_of_some hc
theorem now_at {L M : List TV} {k : Nat} {t : TV} (hlen : M.length = L.length) (hL : L[k]? = some t) : (M.take k ++ L.drop k)[k]? = some t := by
  have hk : k < L.length := (List.getElem?_eq_some_iff.1 hL).1
  have htl : (M.take k).length = k := by rw [List.length_take]; omega
  rw [List.getElem?_append_right (by omega), htl, Nat.sub_self, List.getElem?_drop]
  exact hL
theorem TS.set {w : World} {ao : Option Addr} {L : List TV} (h : TS w ao L) {p : Addr} (hp : ∀ g, ao = some ⟨g, 0, none⟩ → g ≠ p.block) (v : Value) : TS (w.setCell p v) ao L := h.keep (fun g hg => blk_setCell_other _ _ _ _ (hp g hg))
end Go.Proofs.YtapecobalkjdhaaDoor
