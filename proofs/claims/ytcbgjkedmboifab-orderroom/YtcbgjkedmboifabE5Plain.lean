/-
  Layer 5, the program's way with texts against the document's: bytes of a word, the word of bytes, what a last field says, what a rest begins with. Plain; no program.
-/
import Derived.Test.YtcbgjkedmboifabE5Ends
import Derived.Test.YtcbgjkedmboifabR5Fields
namespace Go.Proofs.Ytcbgjkedmboifab
open Go.RowKit
set_option linter.unusedVariables false
set_option maxHeartbeats 1000000

theorem byteI_next (x : Int) (i : Nat) : byteI (x / 256) i = byteI x (i + 1) := by
  unfold byteI
  rw [pow_next8, Int.ediv_ediv_of_nonneg (by decide)]
theorem bytesN_at : ∀ (k : Nat) (x : Int) (i : Nat), i < k → (bytesN k x)[i]? = some (byteI x i)
  | 0, _, i, h => absurd h (Nat.not_lt_zero _)
  | k + 1, x, 0, _ => by
    show some (UInt8.ofNat (x % 256).toNat) = some (byteI x 0)
    unfold byteI
    simp
  | k + 1, x, i + 1, h => by
    show (bytesN k (x / 256))[i]? = _
    rw [bytesN_at k (x / 256) i (by omega), byteI_next]
/-- Eight bytes as a list. -/
def listF (f : Nat → UInt8) : List UInt8 := [f 0, f 1, f 2, f 3, f 4, f 5, f 6, f 7]
theorem listF_at (f : Nat → UInt8) {i : Nat} (hi : i < 8) : (listF f)[i]? = some (f i) := by
  match i, hi with
  | 0, _ | 1, _ | 2, _ | 3, _ | 4, _ | 5, _ | 6, _ | 7, _ => rfl
theorem listF_eq {f : Nat → UInt8} {l : List UInt8} (hl : l.length = 8) (h : ∀ i, i < 8 → l[i]? = some (f i)) : listF f = l := by
  refine List.ext_getElem? (fun i => ?_)
  by_cases hi : i < 8
  · rw [listF_at f hi, h i hi]
  · rw [List.getElem?_eq_none (show (listF f).length ≤ i from by show 8 ≤ i; omega), List.getElem?_eq_none (by omega)]
theorem listF_bytes (x : Int) : listF (byteI x) = bytesN 8 x := listF_eq (bytesN_len 8 x) (fun i hi => bytesN_at 8 x i hi)
theorem wordK_list (f : Nat → UInt8) : wordK f 8 = wordL (listF f) := by
  simp only [wordK, wordL, listF]
  omega
theorem listF_congr {f g : Nat → UInt8} (h : ∀ i, i < 8 → f i = g i) : listF f = listF g := listF_eq rfl (fun i hi => by rw [listF_at g hi, h i hi])
/-- Byte i of a row of words is a byte of word i / 8. -/
theorem bytesF_at : ∀ (F : List Int) (i : Nat), i < 8 * F.length → (bytesF F)[i]? = some (byteI (F.getD (i / 8) 0) (i % 8))
  | [], i, h => absurd h (Nat.not_lt_zero _)
  | x :: F, i, h => by
    show (bytesN 8 x ++ bytesF F)[i]? = _
    have hl := bytesN_len 8 x
    by_cases e : i < 8
    · rw [List.getElem?_append_left (by omega), bytesN_at 8 x i e, show i / 8 = 0 from by omega, show i % 8 = i from by omega]; rfl
    · rw [List.getElem?_append_right (by omega), hl, bytesF_at F (i - 8) (by rw [List.length_cons] at h; omega), show (i - 8) / 8 = i / 8 - 1 from by omega, show (i - 8) % 8 = i % 8 from by omega]
      have : i / 8 = (i / 8 - 1) + 1 := by omega
      rw [this, List.getD_cons_succ, Nat.add_sub_cancel]
/-- Eight bytes of a row of words are one word's. -/
theorem bytesF_part (F : List Int) {k : Nat} (hk : k < F.length) : ((bytesF F).drop (8 * k)).take 8 = listF (byteI (F.getD k 0)) := by
  have hl := bytesF_len F
  refine (listF_eq (by rw [List.length_take, List.length_drop]; omega) (fun i hi => ?_)).symm
  rw [List.getElem?_take, if_pos hi, List.getElem?_drop, bytesF_at F _ (by omega), show (8 * k + i) / 8 = k from by omega, show (8 * k + i) % 8 = i from by omega]
/-- The last word of a row. -/
def lastF (F : List Int) : Int := F.getD (F.length - 1) 0
theorem last_byte (F : List Int) (h : F.length ≠ 0) : (bytesF F).getD (8 * F.length - 1) 0 = byteI (lastF F) 7 := by
  rw [List.getD_eq_getElem?_getD, bytesF_at F _ (by omega), show (8 * F.length - 1) / 8 = F.length - 1 from by omega, show (8 * F.length - 1) % 8 = 7 from by omega]
  rfl
theorem noneB_iff (f : Nat → UInt8) (n : Nat) : noneB f n = true ↔ ∀ j, j < n → f (7 - n + j) = 0 := by unfold noneB; simp
/-- Which text a row of words holds is said by its last word. -/
theorem read_end (F : List Int) (hF : F.length ≠ 0) (hr : ∀ x, x ∈ F → 0 ≤ x ∧ x ≤ 18446744073709551615) : readT F = if (endB (byteI (lastF F))).2 = true then some ((bytesF F).take (8 * (F.length - 1) + (endB (byteI (lastF F))).1.toNat)) else none := by
  unfold readT endB
  rw [if_neg hF, last_byte F hF]
  have hl := bytesF_len F
  generalize hp : (byteI (lastF F) 7).toNat = p
  by_cases h7 : 7 < p
  · rw [if_pos h7, if_pos h7, if_neg (by simp)]
  · rw [if_neg h7, if_neg h7]
    have hlen : ((bytesF F).take (8 * F.length - 1 - p)).length = 8 * F.length - 1 - p := by rw [List.length_take]; omega
    have key : fieldsT ((bytesF F).take (8 * F.length - 1 - p)) = F ↔ noneB (byteI (lastF F)) p = true := by
      rw [noneB_iff]
      have hb : fieldsT ((bytesF F).take (8 * F.length - 1 - p)) = F ↔ padT ((bytesF F).take (8 * F.length - 1 - p)) = bytesF F := by
        constructor
        · intro e; rw [← fieldsT_bytes, e]
        · intro e
          have : fieldsT ((bytesF F).take (8 * F.length - 1 - p)) = wordsL F.length (bytesF F) := by
            unfold fieldsT
            rw [e, hlen, show (8 * F.length - 1 - p) / 8 + 1 = F.length from by omega]
          rw [this, words_bytes F hr]
      rw [hb]
      have hpad : padT ((bytesF F).take (8 * F.length - 1 - p)) = (bytesF F).take (8 * F.length - 1 - p) ++ (List.replicate p 0 ++ [UInt8.ofNat p]) := by
        unfold padT
        rw [hlen, show 7 - (8 * F.length - 1 - p) % 8 = p from by omega]
      have hat : ∀ j, j < p → (bytesF F)[8 * F.length - 1 - p + j]? = some (byteI (lastF F) (7 - p + j)) := by
        intro j hj
        rw [bytesF_at F _ (by omega), show (8 * F.length - 1 - p + j) / 8 = F.length - 1 from by omega, show (8 * F.length - 1 - p + j) % 8 = 7 - p + j from by omega]
        rfl
      constructor
      · intro e j hj
        have h1 : (padT ((bytesF F).take (8 * F.length - 1 - p)))[8 * F.length - 1 - p + j]? = some 0 := by
          rw [hpad, List.getElem?_append_right (by omega), hlen, List.getElem?_append_left (by rw [List.length_replicate]; omega), List.getElem?_replicate, if_pos (by omega)]
        rw [e, hat j hj] at h1
        exact Option.some.inj h1
      · intro h
        rw [hpad]
        refine List.ext_getElem? (fun i => ?_)
        by_cases c1 : i < 8 * F.length - 1 - p
        · rw [List.getElem?_append_left (by omega), List.getElem?_take, if_pos c1]
        · rw [List.getElem?_append_right (by omega), hlen]
          by_cases c2 : i < 8 * F.length - 1
          · have := hat (i - (8 * F.length - 1 - p)) (by omega)
            rw [show 8 * F.length - 1 - p + (i - (8 * F.length - 1 - p)) = i from by omega, h _ (by omega)] at this
            rw [this, List.getElem?_append_left (by rw [List.length_replicate]; omega), List.getElem?_replicate, if_pos (by omega)]
          · rw [List.getElem?_append_right (by rw [List.length_replicate]; omega), List.length_replicate]
            by_cases c3 : i = 8 * F.length - 1
            · rw [show i - (8 * F.length - 1 - p) - p = 0 from by omega, bytesF_at F i (by omega), c3, show (8 * F.length - 1) / 8 = F.length - 1 from by omega, show (8 * F.length - 1) % 8 = 7 from by omega]
              show some (UInt8.ofNat p) = some (byteI (lastF F) 7)
              rw [← hp, UInt8.ofNat_toNat]
            · rw [List.getElem?_eq_none (by simp; omega), List.getElem?_eq_none (by omega)]
    by_cases hn : noneB (byteI (lastF F)) p = true
    · rw [if_pos (key.2 hn), if_pos hn, if_pos rfl]
      show some _ = some _
      rw [show (7 - (p : Int)).toNat = 7 - p from by omega, show 8 * F.length - 1 - p = 8 * (F.length - 1) + (7 - p) from by omega]
    · rw [if_neg (fun c => hn (key.1 c)), if_neg hn, if_neg (by simp)]
theorem endB_rng (f : Nat → UInt8) : 0 ≤ (endB f).1 ∧ (endB f).1 ≤ 7 := by
  unfold endB
  split
  · exact ⟨Int.le_refl _, by show (0 : Int) ≤ 7; decide⟩
  · split
    · show 0 ≤ 7 - ((f 7).toNat : Int) ∧ 7 - ((f 7).toNat : Int) ≤ 7; omega
    · exact ⟨Int.le_refl _, by show (0 : Int) ≤ 7; decide⟩
/-- What a rest begins with is the word of the text there. -/
theorem begin_word (s t : ByteArray) {k : Nat} (hk : k < s.size / 8 + 1) (ht : t.data.toList = s.data.toList.drop (8 * k)) : wordK (beginF t) 8 = (fieldsT (bytesS s)).getD k 0 := by
  have hs := bytesS_len s
  have hts : t.size = s.size - 8 * k := by
    have h1 : t.data.toList.length = t.size := by rw [Array.length_toList]; rfl
    have h2 : s.data.toList.length = s.size := by rw [Array.length_toList]; rfl
    rw [ht, List.length_drop] at h1
    omega
  unfold fieldsT
  rw [List.getD_eq_getElem?_getD, wordsL_at _ _ k (by rw [hs]; exact hk), wordK_list]
  show wordL _ = wordL _
  congr 1
  have hpl := padT_len (bytesS s)
  have hb : ∀ i, i < t.size → (bytesS s)[8 * k + i]? = some (atS t i) := by
    intro i hi
    unfold atS bytesS
    rw [ht, List.getD_eq_getElem?_getD, List.getElem?_drop, List.getElem?_eq_getElem (by have h2 : s.data.toList.length = s.size := by { rw [Array.length_toList]; rfl }; omega)]
    rfl
  refine listF_eq (by rw [List.length_take, List.length_drop]; omega) (fun i hi => ?_)
  rw [List.getElem?_take, if_pos hi, List.getElem?_drop]
  unfold padT
  by_cases c : i < t.size
  · rw [List.getElem?_append_left (by omega), hb i c]
    unfold beginF
    split
    · rw [if_neg (by omega)]
    · rfl
  · rw [List.getElem?_append_right (by omega), hs]
    have h8 : t.size < 8 := by omega
    have hz : atS t i = 0 := by
      unfold atS
      rw [List.getD_eq_getElem?_getD, List.getElem?_eq_none (by rw [Array.length_toList]; exact Nat.not_lt.1 c)]
      rfl
    unfold beginF
    rw [if_pos h8]
    by_cases c7 : i = 7
    · rw [if_pos c7, List.getElem?_append_right (by rw [List.length_replicate]; omega), List.length_replicate, show 8 * k + i - s.size - (7 - s.size % 8) = 0 from by omega, show 7 - s.size % 8 = 7 - t.size from by omega]
      rfl
    · rw [if_neg c7, hz, List.getElem?_append_left (by rw [List.length_replicate]; omega), List.getElem?_replicate, if_pos (by omega)]
end Go.Proofs.Ytcbgjkedmboifab
