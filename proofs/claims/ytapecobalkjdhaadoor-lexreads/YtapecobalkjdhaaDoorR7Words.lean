/-
  Layer 7, the document's own lex: the language's words, its signs.
-/
import Derived.Test.YtapecobalkjdhaaDoorR7Form
import Derived.Below
import Derived.Deep.Heap
namespace Go.Proofs.YtapecobalkjdhaaDoor
open Go.ChangeShapes Go.WideShapes Go.ChangeAt Go.RowKit Go.Deep
set_option linter.unusedVariables false
set_option maxHeartbeats 1000000

/-- The language's words. -/
def wordsL : List (List UInt8) := [[97, 110, 100], [97, 115], [98, 101, 103, 105, 110], [100, 111], [100, 111, 110, 101], [100, 111, 119, 110, 116, 111], [101, 108, 115, 101], [101, 110, 100], [101, 120, 99, 101, 112, 116, 105, 111, 110], [102, 97, 108, 115, 101], [102, 111, 114], [102, 117, 110], [102, 117, 110, 99, 116, 105, 111, 110], [105, 102], [105, 110], [108, 101, 116], [109, 97, 116, 99, 104], [109, 111, 100], [109, 117, 116, 97, 98, 108, 101], [110, 111, 116], [111, 102], [114, 97, 105, 115, 101], [114, 101, 99], [116, 104, 101, 110], [116, 111], [116, 114, 117, 101], [116, 114, 121], [116, 121, 112, 101], [119, 104, 101, 110], [119, 104, 105, 108, 101], [119, 105, 116, 104]]
/-- Its signs, the longer ones first. -/
def signsL : List (List UInt8) := [[91, 124], [124, 93], [59, 59], [58, 58], [58, 61], [60, 45], [45, 62], [124, 124], [38, 38], [60, 62], [60, 61], [62, 61], [46, 40], [40], [41], [91], [93], [123], [125], [59], [44], [58], [124], [61], [60], [62], [43], [45], [42], [47], [94], [33], [46]]
def strV (l : List UInt8) : Value := .string ⟨l.toArray⟩
def strsO (L : List (List UInt8)) : Obj := .cells (L.map strV).toArray 9
set_option maxRecDepth 20000 in
theorem words_any (w : World) : Calls Tryd.prog 44 #[] w fun e w' => e = .returned (.slice (some ⟨w.heap.size, 0, none⟩) 31 31) ∧ w' = w.alloc (strsO wordsL) := by
  obtain ⟨Q, hQ⟩ : ∃ Q : Ending → World → Prop, Q = fun e w' => e = .returned (.slice (some ⟨w.heap.size, 0, none⟩) 31 31) ∧ w' = w.alloc (strsO wordsL) := ⟨_, rfl⟩
  rw [← hQ]
  have HQ := hidden hQ
  clear hQ
  go_enter Tryd.func44, Tryd.ntmps44
  go_wp2
  rw [HQ.out]
  exact ⟨rfl, rfl⟩
set_option maxRecDepth 20000 in
theorem signs_any (w : World) : Calls Tryd.prog 30 #[] w fun e w' => e = .returned (.slice (some ⟨w.heap.size, 0, none⟩) 33 33) ∧ w' = w.alloc (strsO signsL) := by
  obtain ⟨Q, hQ⟩ : ∃ Q : Ending → World → Prop, Q = fun e w' => e = .returned (.slice (some ⟨w.heap.size, 0, none⟩) 33 33) ∧ w' = w.alloc (strsO signsL) := ⟨_, rfl⟩
  rw [← hQ]
  have HQ := hidden hQ
  clear hQ
  go_enter Tryd.func30, Tryd.ntmps30
  go_wp2
  rw [HQ.out]
  exact ⟨rfl, rfl⟩
theorem getD_at {L : List (List UInt8)} {i : Nat} (h : i < L.length) : L.getD i [] = L[i] := by
  rw [List.getD_eq_getElem?_getD, List.getElem?_eq_getElem h]; rfl
theorem strs_cell (w : World) (L : List (List UInt8)) {i : Nat} (h : i < L.length) : (w.alloc (strsO L)).cell? ⟨w.heap.size, i, none⟩ = some (.string ⟨(L.getD i []).toArray⟩) := by
  have e : (L.map strV).toArray[i]? = some (.string ⟨(L.getD i []).toArray⟩) := by
    rw [List.getElem?_toArray, List.getElem?_map, List.getElem?_eq_getElem h, getD_at h]
    rfl
  have hb : (w.alloc (strsO L)).heap[w.heap.size]? = some (.cells (L.map strV).toArray 9 (0, 0)) := blk_alloc_new _ _
  generalize w.alloc (strsO L) = w1 at hb
  generalize (L.map strV).toArray = A at hb e
  simp [World.cell?, hb, e]
theorem str_eq (l : List UInt8) (s : ByteArray) : ((⟨l.toArray⟩ : ByteArray).toList == s.toList) = (l == s.data.toList) := by
  rw [Go.ByteArray.toList_eq, Go.ByteArray.toList_eq]
theorem contains_at {L : List (List UInt8)} {x : List UInt8} {i : Nat} (h : i < L.length) (e : L.getD i [] == x) : L.contains x = true := by
  rw [getD_at h] at e
  rw [List.contains_iff_mem, ← beq_iff_eq.1 e]
  exact List.getElem_mem h
theorem contains_none {L : List (List UInt8)} {x : List UInt8} (h : ∀ i, i < L.length → (L.getD i [] == x) = false) : L.contains x = false := by
  cases c : L.contains x with
  | false => rfl
  | true =>
    rw [List.contains_iff_mem] at c
    obtain ⟨i, hi, e⟩ := List.mem_iff_getElem.1 c
    have := h i hi
    rw [getD_at hi, e] at this
    simp at this
theorem isWord_any (s : ByteArray) (w : World) : Calls Tryd.prog 26 #[.string s] w fun e w' => e = .returned (.bool (wordsL.contains s.data.toList)) ∧ Below w.heap.size w w' := by
  obtain ⟨b, hb⟩ : ∃ b, wordsL.contains s.data.toList = b := ⟨_, rfl⟩
  rw [hb]
  have HB := hidden hb
  clear hb
  go_enter Tryd.func26, Tryd.ntmps26
  go_wp2_with (go_at_call 44; refine (words_any _).mono ?_; rintro e w1 ⟨rfl, hw1⟩; have CL := hidden (fun i (h : i < wordsL.length) => hw1 ▸ strs_cell w wordsL h); have BL : Hid (Below w.heap.size w w1) := hw1 ▸ (Below.refl _ _).alloc (Nat.le_refl _) _; clear hw1)
  go_loop [4] (fun iv => ∃ k : Nat, k ≤ 31 ∧ iv = .int .i64 k ∧ ∀ j, j < k → (wordsL.getD j [] == s.data.toList) = false) (fun iv => (31 - intOf iv).toNat)
  case atStart => exact ⟨0, by omega, rfl, fun j h => by omega⟩
  case round =>
    obtain ⟨k, hk, rfl, hj⟩ := hrel
    have HJ := hidden hj
    clear hj
    by_cases hlt : k < 31
    · have z1 : (k : Int) < 31 := by omega
      have c1 := CL.out k hlt
      cases hc : (wordsL.getD k [] == s.data.toList) with
      | true =>
        have HC : Hid (((⟨(wordsL.getD k []).toArray⟩ : ByteArray).toList == s.toList) = true) := by show _ = _; rw [str_eq, hc]
        have HO : Hid (b = true) := by show _ = _; rw [← HB.out]; exact contains_at hlt hc
        clear hc
        generalize (wordsL.getD k []).toArray = t at c1 HC
        have g := HC.out
        go_wp2
        all_goals go_ret
        all_goals exact ⟨ret_bool HO.out.symm, BL.out⟩
      | false =>
        have HC : Hid (((⟨(wordsL.getD k []).toArray⟩ : ByteArray).toList == s.toList) = false) := by show _ = _; rw [str_eq, hc]
        have HJ2 : Hid (∀ j, j < k + 1 → (wordsL.getD j [] == s.data.toList) = false) := fun j h => by
          by_cases e : j = k
          · rw [e]; exact hc
          · exact HJ.out j (by omega)
        clear hc
        generalize (wordsL.getD k []).toArray = t at c1 HC
        have g := HC.out
        go_wp2
        all_goals go_roundw
        case rel => exact ⟨k + 1, by omega, by go_num, HJ2.out⟩
        case measure => simp [intOf]; omega
    · have z1 : ¬ (k : Int) < 31 := by omega
      have HO : Hid (b = false) := by
        show _ = _
        rw [← HB.out]
        exact contains_none fun i h => HJ.out i (by have : wordsL.length = 31 := rfl; omega)
      go_wp2
      all_goals go_ret
      all_goals exact ⟨ret_bool HO.out.symm, BL.out⟩
end Go.Proofs.YtapecobalkjdhaaDoor
