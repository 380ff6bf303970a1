/-
  Layer 7, the document's own lex: the language's words, its signs.
-/
import Derived.Test.YtapecobalkjdhabDoorR7Form
import Derived.Below
import Derived.Deep.Heap
namespace Go.Proofs.YtapecobalkjdhabDoor
open Go.ChangeShapes Go.WideShapes Go.ChangeAt Go.RowKit Go.Deep
set_option linter.unusedVariables false
set_option maxHeartbeats 1000000

/-- The language's words. -/
def wordsL : List (List UInt8) := [[97, 110, 100], [97, 115], [98, 101, 103, 105, 110], [100, 111], [100, 111, 110, 101], [100, 111, 119, 110, 116, 111], [101, 108, 115, 101], [101, 110, 100], [101, 120, 99, 101, 112, 116, 105, 111, 110], [102, 97, 108, 115, 101], [102, 111, 114], [102, 117, 110], [102, 117, 110, 99, 116, 105, 111, 110], [105, 102], [105, 110], [108, 101, 116], [109, 97, 116, 99, 104], [109, 111, 100], [109, 117, 116, 97, 98, 108, 101], [110, 111, 116], [111, 102], [114, 97, 105, 115, 101], [114, 101, 99], [116, 104, 101, 110], [116, 111], [116, 114, 117, 101], [116, 114, 121], [116, 121, 112, 101], [119, 104, 101, 110], [119, 104, 105, 108, 101], [119, 105, 116, 104]]
/-- Its signs, the longer ones first. -/
def signsL : List (List UInt8) := [[91, 124], [124, 93], [59, 59], [58, 58], [58, 61], [60, 45], [45, 62], [124, 124], [38, 38], [60, 62], [60, 61], [62, 61], [46, 40], [40], [41], [91], [93], [123], [125], [59], [44], [58], [124], [61], [60], [62], [43], [45], [42], [47], [94], [33], [46]]
def strV (l : List UInt8) : Value := .string ⟨l.toArray⟩
def strsO (L : List (List UInt8)) : Obj := .cells (L.map strV).toArray 9
theorem getD_at {L : List (List UInt8)} {i : Nat} (h : i < L.length) : L.getD i [] = L[i] := by
  rw [List.getD_eq_getElem?_getD, List.getElem?_eq_getElem h]; rfl
theorem strs_cell (w : World) (L : List (List UInt8)) {i : Nat} (h : i < L.length) : (w.alloc (strsO L)).cell? ⟨w.heap.size, i, none⟩ = some (.string ⟨(L.getD i []).toArray⟩) := by
  have e : (L.map strV).toArray[i]? = some (.string ⟨(L.getD i []).toArray⟩) := by
    rw [List.getElem?_toArray, List.getElem?_map, List.getElem?_eq_getElem h, getD_at h]
    rfl
  have hb : (w.alloc (strsO L)).heap[w.heap.size]? = some (.cells (L.map strV).toArray 9 (0, 0)) := blk_alloc_new _ _
  generalize w.alloc (strsO L) = w1 at hb
  generalize (L.map strV).toArray = A at hb e
  simp [World.cell?, hb, e]
theorem str_eq (l : List UInt8) (s : ByteArray) : ((⟨l.toArray⟩ : ByteArray).toList == s.toList) = (l == s.data.toList) := by
  rw [Go.ByteArray.toList_eq, Go.ByteArray.toList_eq]
theorem contains_at {L : List (List UInt8)} {x : List UInt8} {i : Nat} (h : i < L.length) (e : L.getD i [] == x) : L.contains x = true := by
  rw [getD_at h] at e
  rw [List.contains_iff_mem, ← beq_iff_eq.1 e]
  exact List.getElem_mem h
theorem contains_none {L : List (List UInt8)} {x : List UInt8} (h : ∀ i, i < L.length → (L.getD i [] == x) = false) : L.contains x = false := by
  cases c : L.contains x with
  | false => rfl
  | true =>
    rw [List.contains_iff_mem] at c
    obtain ⟨i, hi, e⟩ := List.mem_iff_getElem.1 c
    have := h i hi
    rw [getD_at hi, e] at this
    simp at this
end Go.Proofs.YtapecobalkjdhabDoor
