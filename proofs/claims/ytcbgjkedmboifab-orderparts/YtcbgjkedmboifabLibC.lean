/-
  Several small texts in one; each tells at its head what it proves, and on what condition.
-/
import Derived.Test.YtcbgjkedmboifabLibA
import Derived.Deep.AppendLies
import Derived.Laws.IdiomStrings
import Derived.Test.YtcbgjkedmboifabLibB

/-
  Layer 5: texts as bytes, and the fields that hold them: there and back; a byte that is put. Plain; no program.
-/
namespace Go.Proofs.Ytcbgjkedmboifab
open Go.RowKit
set_option linter.unusedVariables false
set_option maxHeartbeats 1000000

/-- Bytes as one number, the lowest first. -/
def wordL : List UInt8 → Int
  | [] => 0
  | b :: l => (b.toNat : Int) + 256 * wordL l
theorem u8_lt (b : UInt8) : b.toNat < 256 := b.toBitVec.isLt
theorem wordL_lo : ∀ l, 0 ≤ wordL l
  | [] => Int.le_refl _
  | b :: l => by have := wordL_lo l; show 0 ≤ (b.toNat : Int) + 256 * wordL l; omega
theorem wordL_hi : ∀ l : List UInt8, wordL l < (256 : Int) ^ l.length
  | [] => by decide
  | b :: l => by
    have h1 := wordL_hi l
    have h2 := u8_lt b
    show (b.toNat : Int) + 256 * wordL l < 256 ^ (l.length + 1)
    rw [Int.pow_succ]
    omega
/-- The k lowest bytes of a number. -/
def bytesN : Nat → Int → List UInt8
  | 0, _ => []
  | k + 1, x => UInt8.ofNat (x % 256).toNat :: bytesN k (x / 256)
theorem bytesN_len : ∀ k x, (bytesN k x).length = k
  | 0, _ => rfl
  | k + 1, x => by show (bytesN k (x / 256)).length + 1 = _; rw [bytesN_len k]
theorem ofNat_mod {x : Int} : ((UInt8.ofNat (x % 256).toNat).toNat : Int) = x % 256 := by
  have h0 : 0 ≤ x % 256 := Int.emod_nonneg _ (by decide)
  have h1 : x % 256 < 256 := Int.emod_lt_of_pos _ (by decide)
  have : (UInt8.ofNat (x % 256).toNat).toNat = (x % 256).toNat := by
    rw [UInt8.toNat_ofNat']
    omega
  rw [this]; omega
theorem word_bytes : ∀ k x, 0 ≤ x → x < (256 : Int) ^ k → wordL (bytesN k x) = x
  | 0, x, h0, h1 => by
    have : x = 0 := by simp at h1; omega
    rw [this]; rfl
  | k + 1, x, h0, h1 => by
    show ((UInt8.ofNat (x % 256).toNat).toNat : Int) + 256 * wordL (bytesN k (x / 256)) = x
    rw [Int.pow_succ] at h1
    rw [word_bytes k (x / 256) (Int.ediv_nonneg h0 (by decide)) (by omega), ofNat_mod]
    omega
theorem bytes_word : ∀ l : List UInt8, bytesN l.length (wordL l) = l
  | [] => rfl
  | b :: l => by
    have h2 := u8_lt b
    have h3 := wordL_lo l
    show UInt8.ofNat (((b.toNat : Int) + 256 * wordL l) % 256).toNat :: bytesN l.length (((b.toNat : Int) + 256 * wordL l) / 256) = b :: l
    have e1 : ((b.toNat : Int) + 256 * wordL l) % 256 = b.toNat := by omega
    have e2 : ((b.toNat : Int) + 256 * wordL l) / 256 = wordL l := by omega
    rw [e1, e2, bytes_word l]
    simp
/-- Words of bytes, eight by eight. -/
def wordsL : Nat → List UInt8 → List Int
  | 0, _ => []
  | m + 1, l => wordL (l.take 8) :: wordsL m (l.drop 8)
theorem wordsL_len : ∀ m l, (wordsL m l).length = m
  | 0, _ => rfl
  | m + 1, l => by show (wordsL m (l.drop 8)).length + 1 = _; rw [wordsL_len m]
theorem wordsL_at : ∀ (m : Nat) (l : List UInt8) (k : Nat), k < m → (wordsL m l)[k]? = some (wordL ((l.drop (8 * k)).take 8))
  | 0, _, k, h => absurd h (Nat.not_lt_zero _)
  | m + 1, l, 0, _ => by simp [wordsL]
  | m + 1, l, k + 1, h => by
    show (wordsL m (l.drop 8))[k]? = _
    rw [wordsL_at m (l.drop 8) k (by omega), List.drop_drop]
    congr 4
    omega
/-- The bytes of words. -/
def bytesF : List Int → List UInt8
  | [] => []
  | x :: F => bytesN 8 x ++ bytesF F
theorem bytesF_len : ∀ F, (bytesF F).length = 8 * F.length
  | [] => rfl
  | x :: F => by show (bytesN 8 x ++ bytesF F).length = _; rw [List.length_append, bytesN_len, bytesF_len F, List.length_cons]; omega
theorem bytes_words : ∀ (m : Nat) (l : List UInt8), l.length = 8 * m → bytesF (wordsL m l) = l
  | 0, l, h => by
    have : l = [] := List.length_eq_zero_iff.1 (by omega)
    rw [this]; rfl
  | m + 1, l, h => by
    show bytesN 8 (wordL (l.take 8)) ++ bytesF (wordsL m (l.drop 8)) = l
    rw [bytes_words m (l.drop 8) (by rw [List.length_drop]; omega)]
    have e : (l.take 8).length = 8 := by rw [List.length_take]; omega
    have h1 := bytes_word (l.take 8)
    rw [e] at h1
    rw [h1, List.take_append_drop]
theorem words_bytes : ∀ (F : List Int), (∀ x, x ∈ F → 0 ≤ x ∧ x ≤ 18446744073709551615) → wordsL F.length (bytesF F) = F
  | [], _ => rfl
  | x :: F, h => by
    show wordL ((bytesN 8 x ++ bytesF F).take 8) :: wordsL F.length ((bytesN 8 x ++ bytesF F).drop 8) = x :: F
    have hl := bytesN_len 8 x
    rw [List.take_append_of_le_length (by omega), List.take_of_length_le (by omega), List.drop_append_of_le_length (by omega), List.drop_of_length_le (by omega), List.nil_append, words_bytes F (fun y hy => h y (List.mem_cons_of_mem _ hy))]
    obtain ⟨h0, h1⟩ := h x List.mem_cons_self
    rw [word_bytes 8 x h0 (by show x < 18446744073709551616; omega)]
/-- A text's bytes, and what stands behind them. -/
def padT (l : List UInt8) : List UInt8 := l ++ (List.replicate (7 - l.length % 8) 0 ++ [UInt8.ofNat (7 - l.length % 8)])
theorem padT_len (l : List UInt8) : (padT l).length = 8 * (l.length / 8 + 1) := by
  unfold padT
  rw [List.length_append, List.length_append, List.length_replicate, List.length_singleton]
  omega
/-- A text's fields. -/
def fieldsT (l : List UInt8) : List Int := wordsL (l.length / 8 + 1) (padT l)
theorem fieldsT_len (l : List UInt8) : (fieldsT l).length = l.length / 8 + 1 := wordsL_len _ _
theorem fieldsT_bytes (l : List UInt8) : bytesF (fieldsT l) = padT l := bytes_words _ _ (padT_len l)
theorem wordsL_rng : ∀ (m : Nat) (l : List UInt8) (x : Int), x ∈ wordsL m l → 0 ≤ x ∧ x ≤ 18446744073709551615
  | 0, _, x, h => by simp [wordsL] at h
  | m + 1, l, x, h => by
    rcases List.mem_cons.1 h with e | e
    · rw [e]
      have h1 := wordL_hi (l.take 8)
      have h2 : (l.take 8).length ≤ 8 := by rw [List.length_take]; omega
      refine ⟨wordL_lo _, ?_⟩
      have h3 : ∀ k : Nat, k < 9 → (256 : Int) ^ k ≤ 18446744073709551616 := by decide
      have h4 := h3 _ (by omega : (l.take 8).length < 9)
      omega
    · exact wordsL_rng m (l.drop 8) x e
theorem fieldsT_rng (l : List UInt8) (x : Int) (h : x ∈ fieldsT l) : 0 ≤ x ∧ x ≤ 18446744073709551615 := wordsL_rng _ _ x h
theorem padT_last (l : List UInt8) : (padT l)[8 * (l.length / 8 + 1) - 1]? = some (UInt8.ofNat (7 - l.length % 8)) := by
  unfold padT
  rw [← List.append_assoc, List.getElem?_append_right (by rw [List.length_append, List.length_replicate]; omega), List.length_append, List.length_replicate]
  have e : 8 * (l.length / 8 + 1) - 1 - (l.length + (7 - l.length % 8)) = 0 := by omega
  rw [e]; rfl
theorem padT_take (l : List UInt8) : (padT l).take l.length = l := by unfold padT; rw [List.take_left]
/-- Which text fields hold. -/
def readT (F : List Int) : Option (List UInt8) :=
  if F.length = 0 then none
  else if 7 < ((bytesF F).getD (8 * F.length - 1) 0).toNat then none
  else if fieldsT ((bytesF F).take (8 * F.length - 1 - ((bytesF F).getD (8 * F.length - 1) 0).toNat)) = F then some ((bytesF F).take (8 * F.length - 1 - ((bytesF F).getD (8 * F.length - 1) 0).toNat)) else none
theorem read_fields (l : List UInt8) : readT (fieldsT l) = some l := by
  unfold readT
  rw [if_neg (by rw [fieldsT_len]; omega), fieldsT_bytes, fieldsT_len]
  have e : ((padT l).getD (8 * (l.length / 8 + 1) - 1) 0).toNat = 7 - l.length % 8 := by
    rw [List.getD_eq_getElem?_getD, padT_last]
    show (UInt8.ofNat (7 - l.length % 8)).toNat = _
    rw [UInt8.toNat_ofNat']
    omega
  rw [e, if_neg (by omega), show 8 * (l.length / 8 + 1) - 1 - (7 - l.length % 8) = l.length from by omega, padT_take, if_pos rfl]
theorem read_some {F : List Int} {l : List UInt8} (h : readT F = some l) : fieldsT l = F := by
  unfold readT at h
  split at h
  · cases h
  · split at h
    · cases h
    · split at h
      · rename_i e
        cases h; exact e
      · cases h
/-- Two texts with the same fields are one. -/
theorem fieldsT_inj {l l' : List UInt8} (h : fieldsT l = fieldsT l') : l = l' := by
  have h1 := read_fields l
  rw [h, read_fields l'] at h1
  cases h1; rfl
theorem padT_set (l : List UInt8) {i : Nat} (hi : i < l.length) (c : UInt8) : padT (l.set i c) = (padT l).set i c := by
  unfold padT
  rw [List.length_set, List.set_append_left _ _ hi]
/-- One byte of words is put. -/
theorem wordsL_set : ∀ (m : Nat) (l : List UInt8) (i : Nat) (c : UInt8), i < 8 * m → i < l.length → wordsL m (l.set i c) = (wordsL m l).set (i / 8) (wordL (((l.drop (8 * (i / 8))).take 8).set (i % 8) c))
  | 0, l, i, c, h, _ => absurd h (by omega)
  | m + 1, l, i, c, h, hl => by
    by_cases e : i < 8
    · have e1 : i / 8 = 0 := by omega
      have e2 : i % 8 = i := by omega
      rw [e1, e2]
      show wordL ((l.set i c).take 8) :: wordsL m ((l.set i c).drop 8) = wordL (((l.drop 0).take 8).set i c) :: wordsL m (l.drop 8)
      rw [List.drop_set_of_lt e, List.drop_zero, List.take_set]
    · have e1 : i / 8 = (i - 8) / 8 + 1 := by omega
      have e2 : i % 8 = (i - 8) % 8 := by omega
      rw [e1, e2]
      show wordL ((l.set i c).take 8) :: wordsL m ((l.set i c).drop 8) = wordL (l.take 8) :: (wordsL m (l.drop 8)).set ((i - 8) / 8) _
      rw [List.take_set_of_le (by omega), List.drop_set, if_neg (by omega), wordsL_set m (l.drop 8) (i - 8) c (by omega) (by rw [List.length_drop]; omega), List.drop_drop]
      congr 4
      congr 2
      omega
theorem fieldsT_set (l : List UInt8) {i : Nat} (hi : i < l.length) (c : UInt8) : fieldsT (l.set i c) = (fieldsT l).set (i / 8) (wordL ((((padT l).drop (8 * (i / 8))).take 8).set (i % 8) c)) := by
  unfold fieldsT
  rw [List.length_set, padT_set l hi c, wordsL_set _ _ _ _ (by omega) (by rw [padT_len]; omega)]
/-- A byte of a number is put: what the number is then. -/
theorem wordL_put : ∀ (l : List UInt8) (i : Nat) (c : UInt8) (h : i < l.length), wordL (l.set i c) = wordL l + ((c.toNat : Int) - (l[i].toNat : Int)) * (256 : Int) ^ i
  | [], i, _, h => absurd h (Nat.not_lt_zero _)
  | b :: l, 0, c, h => by
    show (c.toNat : Int) + 256 * wordL l = (b.toNat : Int) + 256 * wordL l + ((c.toNat : Int) - (b.toNat : Int)) * 1
    omega
  | b :: l, i + 1, c, h => by
    show (b.toNat : Int) + 256 * wordL (l.set i c) = (b.toNat : Int) + 256 * wordL l + ((c.toNat : Int) - ((l[i]'(by simpa using h)).toNat : Int)) * 256 ^ (i + 1)
    rw [wordL_put l i c (by simpa using h), Int.pow_succ, Int.mul_add]
    have e : ((c.toNat : Int) - ((l[i]'(by simpa using h)).toNat : Int)) * (256 ^ i * 256) = 256 * (((c.toNat : Int) - ((l[i]'(by simpa using h)).toNat : Int)) * 256 ^ i) := by
      rw [← Int.mul_assoc, Int.mul_comm]
    rw [e]; omega
end Go.Proofs.Ytcbgjkedmboifab

/-
  Layer 5: rows of bytes that a call owns: made of a text, grown by a byte, made a text again. No condition but that they lie in memory.
-/
namespace Go.Proofs.Ytcbgjkedmboifab
open Go.ChangeShapes Go.WideShapes Go.ChangeAt Go.RowKit Go.Deep
set_option linter.unusedVariables false
set_option maxHeartbeats 1000000

def u8v (b : UInt8) : Value := .int .u8 b.toNat
/-- A row of bytes that lies at B or above; nothing in it is frozen. -/
def BR (w : World) (B : Nat) (v : Value) (l : List UInt8) : Prop := ∃ g cap cur fz, v = .slice (some ⟨g, 0, none⟩) l.length cap ∧ B ≤ g ∧ w.heap[g]? = some (.cells cur 5 fz) ∧ (fz = (0, 0) ∨ cur.size ≤ fz.1) ∧ l.length ≤ cap ∧ cap ≤ maxLen ∧ cur.size = cap ∧ cur.toList.take l.length = l.map u8v
section
variable {w w' : World} {B : Nat} {v : Value} {l : List UInt8}
theorem BR.keep (h : BR w B v l) (hk : ∀ g, v.ownBlock = some g → w'.heap[g]? = w.heap[g]?) : BR w' B v l := by
  obtain ⟨g, cap, cur, fz, e, hb, hg, rest⟩ := h
  exact ⟨g, cap, cur, fz, e, hb, (hk g (by rw [e]; rfl)).trans hg, rest⟩
theorem BR.lt (h : BR w B v l) : ∀ g, v.ownBlock = some g → B ≤ g ∧ g < w.heap.size := by
  obtain ⟨g, cap, cur, fz, e, hb, hg, rest⟩ := h
  intro g' hg'
  rw [e] at hg'
  have : g = g' := by simpa [Value.ownBlock] using hg'
  subst this
  exact ⟨hb, lt_of_some hg⟩
theorem BR.below (h : BR w B v l) (k : Below w.heap.size w w') : BR w' B v l := h.keep (fun g hg => k.block g (h.lt g hg).2)
theorem BR.slice (h : BR w B v l) : ∃ g cap, v = .slice (some ⟨g, 0, none⟩) l.length cap ∧ (∀ i (hi : i < l.length), w.cell? ⟨g, i, none⟩ = some (u8v l[i])) ∧ (∀ i, i < l.length → w.frozen? ⟨g, i, none⟩ = false) ∧ l.length ≤ cap ∧ B ≤ g ∧ g < w.heap.size := by
  obtain ⟨g, cap, cur, fz, e, hb, hg, hf, hc, hm, hs, ht⟩ := h
  refine ⟨g, cap, e, fun i hi => ?_, fun i hi => ?_, hc, hb, lt_of_some hg⟩
  · have h1 : (cur.toList.take l.length)[i]? = some (u8v l[i]) := by rw [ht]; simp [hi]
    rw [List.getElem?_take, if_pos hi] at h1
    have h2 : cur[i]? = some (u8v l[i]) := by simpa using h1
    simp [World.cell?, hg, h2]
  · simp only [World.frozen?, hg]
    rcases hf with rfl | hf
    · simp
    · obtain ⟨lo, hi'⟩ := fz
      simp only at hf
      simp only [Bool.and_eq_false_iff, decide_eq_false_iff_not]
      left
      omega
end
theorem infoU8 : (Try.prog.info? 5).map (fun i => (i.zero, i.size, i.bytes)) = some (some (.int .u8 0), 1, 1) := by kernel_rfl
/-- '[]byte(s)'. -/
theorem run_bytes (s : ByteArray) (hs : s.size ≤ maxLen) (w : World) : ∃ cap C fz, Sem.run Try.prog (convert 9 85 (.string s)) w = .ok (.slice (some ⟨w.heap.size, 0, none⟩) s.size cap) (w.drew.alloc (.cells C 5 fz)) ∧ ∀ B, B ≤ w.heap.size → BR (w.drew.alloc (.cells C 5 fz)) B (.slice (some ⟨w.heap.size, 0, none⟩) s.size cap) s.data.toList := by
  have hl : s.data.toList.length = s.size := by rw [Array.length_toList]; rfl
  have hge := grownCap_ge w s.size 0 5
  have hle := grownCap_le_maxLen w s.size 0 5 hs
  have hsz : (bytesRow s (grownCap w s.size 0 5)).size = grownCap w s.size 0 5 := by
    unfold bytesRow
    have : s.data.size = s.size := rfl
    simp [this]
    omega
  refine ⟨_, _, _, run_bytes_of_string w 9 85 5 s Try.underlying9 Try.underlying85 Try.underlying5, fun B hB => ⟨w.heap.size, _, _, _, by rw [hl], hB, blk_alloc_new _ _, Or.inr (Nat.le_refl _), by rw [hl]; exact hge, hle, hsz, ?_⟩⟩
  unfold bytesRow
  rw [Array.toList_append, List.take_append_of_le_length (by simp), List.take_of_length_le (by simp)]
  simp [u8v]
/-- 'string(b)'. -/
theorem run_string {w : World} {g c : Nat} (l : List UInt8) (h : ∀ i (hi : i < l.length), w.cell? ⟨g, i, none⟩ = some (u8v l[i])) : Sem.run Try.prog (convert 85 9 (.slice (some ⟨g, 0, none⟩) l.length c)) w = .ok (.string ⟨l.toArray⟩) w := by
  refine run_convert_bytes_back w 85 9 5 ⟨g, 0, none⟩ c l Try.underlying85 Try.underlying5 Try.underlying9 (fun j hj => ?_)
  have e : (Addr.mk g 0 none).add j = ⟨g, j, none⟩ := by
    unfold Addr.add
    split
    · rename_i h; rw [h]
    · simp
  rw [e, h j hj]; rfl
/-- One byte more. -/
theorem run_append_byte {w : World} {B : Nat} {v : Value} {l : List UInt8} (ty : TypeId) (h : BR w B v l) (hB : B ≤ w.heap.size) (gx c : Nat) (b : UInt8) (hx : w.cell? ⟨gx, 0, none⟩ = some (u8v b)) (hl : l.length < 1000000) :
    ∃ g cap w', Sem.run Try.prog (Builtin.append_ #[85, 85] ty #[v, .slice (some ⟨gx, 0, none⟩) 1 c]) w = .ok (.slice (some ⟨g, 0, none⟩) (l.length + 1) cap) w' ∧ BR w' B (.slice (some ⟨g, 0, none⟩) (l.length + 1) cap) (l ++ [b]) ∧ w.grownBy w' v.ownBlock := by
  obtain ⟨i0, hi, hz0, hz1, hz2⟩ := info_parts infoU8
  have h0 := h
  obtain ⟨g, cap, cur, fz, rfl, hb, hg, hf, hc, hm, hs, ht⟩ := h
  have hnews : ∀ j u, [u8v b][j]? = some u → w.cell? ((Addr.mk gx 0 none).add j) = some u := by
    intro j u hu
    match j, hu with
    | 0, hu => simp at hu; subst hu; exact hx
  have hlen : (l ++ [b]).length = l.length + 1 := by simp
  by_cases hroom : l.length + 1 ≤ cap
  · have hfr : w.frozen? ⟨g, l.length, none⟩ = false := by
      simp only [World.frozen?, hg]
      rcases hf with rfl | hf
      · simp
      · obtain ⟨lo, hi'⟩ := fz
        simp only at hf
        simp only [Bool.and_eq_false_iff, decide_eq_false_iff_not]
        left
        omega
    have hcell : w.cell? ⟨g, l.length, none⟩ = some cur[l.length] := by simp [World.cell?, hg, show l.length < cur.size by omega]
    have hff := run_firstCells_some (P := Try.prog) w i0.size 1 ⟨gx, 0, none⟩ 1 c [u8v b] (by rw [hz1]; rfl) hnews
    refine ⟨g, cap, w.setCell ⟨g, l.length, none⟩ (u8v b), ?_, ⟨g, cap, cur.setIfInBounds l.length (u8v b), fz, by rw [hlen], hb, by simp [World.setCell, Array.getElem?_modify, hg], by simpa using hf, by rw [hlen]; exact hroom, hm, by simpa using hs, ?_⟩, ?_⟩
    · have hadd : (Addr.mk g l.length none).add 0 = ⟨g, l.length, none⟩ := rfl
      have hst1 : (store ((Addr.mk g l.length none).add 0) (u8v b)).run Try.prog w = .ok () (w.setCell ⟨g, l.length, none⟩ (u8v b)) := by
        rw [hadd, run_store Try.prog w _ (u8v b) _ rfl, hcell]
        simp [hfr]
      have hst : (storeCells ⟨g, l.length, none⟩ [u8v b] 0).run Try.prog w = .ok () (w.setCell ⟨g, l.length, none⟩ (u8v b)) := by
        simp only [storeCells, Sem.run_bind, hst1, Result.andThen_ok]
        rfl
      rw [hz1] at hff
      simp [Builtin.append_, run_underlying Try.underlying85, sizeOf, typeInfo, hi, hz1, Builtin.lenOf, hroom, hff, Addr.add_lit, hst]
    · rw [hlen, Array.toList_setIfInBounds, List.take_add_one, List.take_set_of_le (Nat.le_refl _), ht, List.getElem?_set_self (show l.length < cur.toList.length by have e : cur.toList.length = cur.size := Array.length_toList; omega), List.map_append]
      rfl
    · exact ⟨rfl, rfl, rfl, by simp [World.setCell], fun k _ hk => blk_setCell_other _ _ _ _ (fun e => hk (by simp [Value.ownBlock, e]))⟩
  · have hcl : cap = l.length := by omega
    have holds : ∀ j u, (l.map u8v)[j]? = some u → w.cell? ((Addr.mk g 0 none).add j) = some u := by
      intro j u hu
      have hj : j < l.length := by have := (List.getElem?_eq_some_iff.1 hu).1; simpa using this
      have e : (Addr.mk g 0 none).add j = ⟨g, j, none⟩ := by
        unfold Addr.add
        split
        · rename_i h; rw [h]
        · simp
      obtain ⟨g', cap', e', hc', _⟩ := h0.slice
      simp only [Value.slice.injEq, Option.some.injEq, Addr.mk.injEq, and_true, true_and] at e'
      obtain ⟨rfl, rfl⟩ := e'
      rw [e, hc' j hj]
      simpa [hj] using hu
    have hge := grownCap_ge w (l.length + 1) cap 5
    have hle := grownCap_le_maxLen w (l.length + 1) cap 5 (by unfold maxLen; omega)
    have hrun := run_append_grow (P := Try.prog) w 85 ty 5 i0 (.int .u8 0) Try.underlying85 hi hz0 ⟨g, 0, none⟩ l.length cap (l.map u8v) (by rw [hz1]; simp) holds ⟨gx, 0, none⟩ 1 c [u8v b] (by rw [hz1]; rfl) hnews (by omega) (by omega) (by have := nextslicecap_le (need := l.length + 1) (old := cap) (by omega); rw [hz2]; omega)
    refine ⟨_, _, _, hrun, ⟨w.heap.size, _, _, (0, 0), by rw [hlen], hB, blk_alloc_new _ _, Or.inl rfl, by rw [hlen]; exact hge, hle, ?_, ?_⟩, ?_⟩
    · simp only [Array.size_append, List.size_toArray, List.length_map, List.length_cons, List.length_nil, size_zeroCells]
      show l.length + (0 + 1) + (grownCap w (l.length + 1) cap 5 - (l.length + 1)) * 1 = _
      omega
    · rw [hlen]
      simp only [Array.toList_append]
      rw [List.take_left' (by simp), List.map_append]
      rfl
    · exact ⟨rfl, rfl, rfl, by simp, fun k hk _ => blk_alloc_lt w.drew _ k hk⟩
theorem append_byte {w : World} {ops : Array Oper} {rest : List Oper} {o : Oper} {a : Act} {Q : Exit → Act → World → Prop} (hgd : o.guard = none) (s x : Operand)
    (ho : o.op = .call { callee := .builtin .append, args := #[s, x], argTypes := #[85, 85] }) (B : Nat) (v : Value) (l : List UInt8) (hs : a.eval s = v) (hown : BR w B v l)
    (gx c : Nat) (b : UInt8) (hx : a.eval x = .slice (some ⟨gx, 0, none⟩) 1 c) (hu : w.cell? ⟨gx, 0, none⟩ = some (u8v b)) (hn : l.length < 1000000) (hB : B ≤ w.heap.size)
    (h : ∀ g cap w', BR w' B (.slice (some ⟨g, 0, none⟩) (l.length + 1) cap) (l ++ [b]) → w.grownBy w' v.ownBlock → wpList Try.prog ops Q rest (a.put o.dst (.slice (some ⟨g, 0, none⟩) (l.length + 1) cap)) w') : wpList Try.prog ops Q (o :: rest) a w := by
  refine wpList_plain hgd fun K hK => ?_
  obtain ⟨g, cap, w', hr, h2, h3⟩ := run_append_byte o.type hown hB gx c b hu hn
  unfold Oper.wp execOp
  simp only [ho, resolve, invoke, builtin, Sem.run_bind, Sem.run_pure, Result.andThen_ok, List.map_toArray, List.map_cons, List.map_nil, hs, hx, hr]
  exact hK _ _ (h g cap w' h2 h3)
end Go.Proofs.Ytcbgjkedmboifab

/-
  A collection, told plainly: which block a word leads to; which blocks are in reach, in the order in which they are met; where each lies behind it, and what its words are then. Plain; no program.
-/
namespace Go.Proofs.Ytcbgjkedmboifab
open Go.RowKit Go.Deep
set_option linter.unusedVariables false

/-- Which block a word leads to. -/
def leadI (s : St) (r : RS) (x : Int) : Option Nat := if (s.find x).1 = 0 then none else r.L.findIdx? (fun b => decide ((b.ad : Int) = (s.find x).1))
def visit (s : St) (r : RS) (G : List Nat) (x : Int) : List Nat :=
  match leadI s r x with
  | none => G
  | some i => if i ∈ G then G else G ++ [i]
def visits (s : St) (r : RS) (G : List Nat) (xs : List Int) : List Nat := xs.foldl (visit s r) G
/-- The words of a block. -/
def wordsOf (b : Blk) : List Int := if b.tag = 202 then [] else b.F
def blkAt (r : RS) (i : Nat) : Blk := r.L.getD i ⟨0, 0, []⟩
def scan1 (s : St) (r : RS) (G : List Nat) (k : Nat) : List Nat :=
  match G[k]? with
  | none => G
  | some i => visits s r G (wordsOf (blkAt r i))
def scans (s : St) (r : RS) (xs : List Int) (m : Nat) : List Nat := (List.range m).foldl (scan1 s r) (visits s r [] xs)
/-- The blocks in reach, in the order in which they are met. -/
def reachG (s : St) (r : RS) (xs : List Int) : List Nat := scans s r xs r.L.length
def lenG (r : RS) (G : List Nat) : Nat := lenB (G.map (blkAt r))
/-- Where block k of those that were met lies. -/
def placeG (r : RS) (B : Nat) (G : List Nat) (k : Nat) : Nat := B + lenG r (G.take k) + 1
/-- What a word is now. -/
def newW (s : St) (r : RS) (B : Nat) (G : List Nat) (x : Int) : Int :=
  match leadI s r x with
  | none => x
  | some i => 2 * ((placeG r B G (G.idxOf i) : Nat) + (s.find x).2)
/-- What block k of those that were met is now. -/
def newB (s : St) (r : RS) (B : Nat) (G : List Nat) (k : Nat) : Blk :=
  ⟨placeG r B G k, (blkAt r (G.getD k 0)).tag, if (blkAt r (G.getD k 0)).tag = 202 then (blkAt r (G.getD k 0)).F else (blkAt r (G.getD k 0)).F.map (newW s r B G)⟩
def otherB (r : RS) : Nat := r.n * (1 - r.which)
def collR (s : St) (r : RS) (xs : List Int) : RS := ⟨r.n, 1 - r.which, (List.range (reachG s r xs).length).map (newB s r (otherB r) (reachG s r xs))⟩
def collW (s : St) (r : RS) (xs : List Int) (x : Int) : Int := newW s r (otherB r) (reachG s r xs) x

def listX (X : Nat → Int) (m : Nat) : List Int := (List.range m).map X

/-! ### Which block a word leads to -/
theorem Rep.block {s : St} {r : RS} (h : Rep s r) {x : Int} (g : (s.find x).1 ≠ 0) : ∃ (k : Nat) (b : Blk), r.L[k]? = some b ∧ (s.find x).1 = b.ad := by
  unfold St.find at g ⊢
  split at g
  · rename_i h1
    rw [if_pos h1]
    obtain ⟨i, b, hb, e⟩ := (h.blk _).1 h1
    exact ⟨i, b, hb, e.symm⟩
  · rename_i h1
    rw [if_neg h1]
    split at g
    · exact absurd rfl g
    · rename_i h2
      rw [if_neg h2]
      split at g
      · rename_i h3
        rw [if_pos h3]
        obtain ⟨_, h4⟩ := h3
        unfold St.isInr at h4
        simp only [Bool.and_eq_true] at h4
        obtain ⟨i, b, hb, e⟩ := (h.blk _).1 h4.1.1
        exact ⟨i, b, hb, e.symm⟩
      · exact absurd rfl g
theorem leadI_none {s : St} {r : RS} {x : Int} (g : (s.find x).1 = 0) : leadI s r x = none := by unfold leadI; rw [if_pos g]
theorem leadI_some {s : St} {r : RS} (h : Rep s r) {x : Int} {i : Nat} {b : Blk} (hb : r.L[i]? = some b) (e : (s.find x).1 = b.ad) : leadI s r x = some i := by
  have hin := h.inside hb
  unfold leadI
  rw [if_neg (by rw [e]; omega)]
  rw [List.findIdx?_eq_some_iff_getElem]
  have hi := (List.getElem?_eq_some_iff.1 hb).1
  have hbi := (List.getElem?_eq_some_iff.1 hb).2
  refine ⟨hi, by rw [hbi, e]; simp, fun j hj => ?_⟩
  have hjl : j < r.L.length := by omega
  simp only [decide_eq_true_eq]
  intro e2
  have := h.inj (List.getElem?_eq_getElem hjl) hb (by rw [e] at e2; omega)
  omega
theorem lead_cases {s : St} {r : RS} (h : Rep s r) (x : Int) : ((s.find x).1 = 0 ∧ leadI s r x = none) ∨ ∃ i b, r.L[i]? = some b ∧ (s.find x).1 = b.ad ∧ leadI s r x = some i := by
  by_cases g : (s.find x).1 = 0
  · exact Or.inl ⟨g, leadI_none g⟩
  · obtain ⟨i, b, hb, e⟩ := h.block g
    exact Or.inr ⟨i, b, hb, e, leadI_some h hb e⟩
theorem lead_of {s : St} {r : RS} (h : Rep s r) {x : Int} {i : Nat} (e : leadI s r x = some i) : ∃ b, r.L[i]? = some b ∧ (s.find x).1 = b.ad := by
  rcases lead_cases h x with ⟨_, e2⟩ | ⟨j, b, hb, e1, e2⟩
  · rw [e] at e2; cases e2
  · rw [e] at e2; cases e2; exact ⟨b, hb, e1⟩
theorem lead_lt {s : St} {r : RS} (h : Rep s r) {x : Int} {i : Nat} (e : leadI s r x = some i) : i < r.L.length := by
  obtain ⟨b, hb, _⟩ := lead_of h e
  exact (List.getElem?_eq_some_iff.1 hb).1

/-! ### What is met, and in which order -/
def GoodG (r : RS) (G : List Nat) : Prop := G.Nodup ∧ ∀ i, i ∈ G → i < r.L.length
theorem visit_none {s : St} {r : RS} {G : List Nat} {x : Int} (e : leadI s r x = none) : visit s r G x = G := by unfold visit; rw [e]
theorem visit_old {s : St} {r : RS} {G : List Nat} {x : Int} {i : Nat} (e : leadI s r x = some i) (h : i ∈ G) : visit s r G x = G := by unfold visit; rw [e]; show (if i ∈ G then G else _) = G; rw [if_pos h]
theorem visit_new {s : St} {r : RS} {G : List Nat} {x : Int} {i : Nat} (e : leadI s r x = some i) (h : ¬ i ∈ G) : visit s r G x = G ++ [i] := by unfold visit; rw [e]; show (if i ∈ G then G else _) = _; rw [if_neg h]
theorem visit_ext {s : St} {r : RS} (G : List Nat) (x : Int) : ∃ T, visit s r G x = G ++ T := by
  cases e : leadI s r x with
  | none => exact ⟨[], by rw [visit_none e]; simp⟩
  | some i =>
    by_cases h : i ∈ G
    · exact ⟨[], by rw [visit_old e h]; simp⟩
    · exact ⟨[i], visit_new e h⟩
theorem visit_good {s : St} {r : RS} (hr : Rep s r) {G : List Nat} (h : GoodG r G) (x : Int) : GoodG r (visit s r G x) := by
  cases e : leadI s r x with
  | none => rw [visit_none e]; exact h
  | some i =>
    by_cases hi : i ∈ G
    · rw [visit_old e hi]; exact h
    · rw [visit_new e hi]
      refine ⟨?_, ?_⟩
      · rw [List.nodup_append]
        refine ⟨h.1, by simp, ?_⟩
        intro a ha b hb
        simp at hb
        rintro rfl
        exact hi (hb ▸ ha)
      · intro j hj
        rw [List.mem_append] at hj
        rcases hj with hj | hj
        · exact h.2 j hj
        · simp at hj; subst hj; exact lead_lt hr e
theorem visit_has {s : St} {r : RS} {G : List Nat} {x : Int} {i : Nat} (e : leadI s r x = some i) : i ∈ visit s r G x := by
  by_cases h : i ∈ G
  · rw [visit_old e h]; exact h
  · rw [visit_new e h]; simp
theorem visits_cons (s : St) (r : RS) (G : List Nat) (x : Int) (xs : List Int) : visits s r G (x :: xs) = visits s r (visit s r G x) xs := rfl
theorem visits_append (s : St) (r : RS) (G : List Nat) (xs ys : List Int) : visits s r G (xs ++ ys) = visits s r (visits s r G xs) ys := by unfold visits; rw [List.foldl_append]
theorem visits_ext {s : St} {r : RS} (xs : List Int) : ∀ (G : List Nat), ∃ T, visits s r G xs = G ++ T := by
  induction xs with
  | nil => intro G; exact ⟨[], by simp [visits]⟩
  | cons x xs ih =>
    intro G
    obtain ⟨T1, e1⟩ := visit_ext (s := s) (r := r) G x
    obtain ⟨T2, e2⟩ := ih (visit s r G x)
    exact ⟨T1 ++ T2, by rw [visits_cons, e2, e1, List.append_assoc]⟩
theorem visits_good {s : St} {r : RS} (hr : Rep s r) (xs : List Int) : ∀ {G : List Nat}, GoodG r G → GoodG r (visits s r G xs) := by
  induction xs with
  | nil => intro G h; exact h
  | cons x xs ih => intro G h; rw [visits_cons]; exact ih (visit_good hr h x)
theorem visits_has {s : St} {r : RS} (xs : List Int) : ∀ {G : List Nat} {x : Int} {i : Nat}, x ∈ xs → leadI s r x = some i → i ∈ visits s r G xs := by
  induction xs with
  | nil => intro G x i h; cases h
  | cons y xs ih =>
    intro G x i h e
    rw [visits_cons]
    rcases List.mem_cons.1 h with rfl | h
    · obtain ⟨T, e2⟩ := visits_ext (s := s) (r := r) xs (visit s r G x)
      rw [e2, List.mem_append]
      exact Or.inl (visit_has e)
    · exact ih h e
theorem scan1_ext {s : St} {r : RS} (G : List Nat) (k : Nat) : ∃ T, scan1 s r G k = G ++ T := by
  unfold scan1
  cases G[k]? with
  | none => exact ⟨[], by simp⟩
  | some i => exact visits_ext _ _
theorem scan1_good {s : St} {r : RS} (hr : Rep s r) {G : List Nat} (h : GoodG r G) (k : Nat) : GoodG r (scan1 s r G k) := by
  unfold scan1
  cases G[k]? with
  | none => exact h
  | some i => exact visits_good hr _ h
theorem scans_zero (s : St) (r : RS) (xs : List Int) : scans s r xs 0 = visits s r [] xs := rfl
theorem scans_succ (s : St) (r : RS) (xs : List Int) (m : Nat) : scans s r xs (m + 1) = scan1 s r (scans s r xs m) m := by
  unfold scans; rw [List.range_succ, List.foldl_append]; rfl
theorem goodG_nil (r : RS) : GoodG r [] := ⟨List.nodup_nil, fun i h => by cases h⟩
theorem scans_good {s : St} {r : RS} (hr : Rep s r) (xs : List Int) (m : Nat) : GoodG r (scans s r xs m) := by
  induction m with
  | zero => exact visits_good hr _ (goodG_nil r)
  | succ m ih => rw [scans_succ]; exact scan1_good hr ih m
theorem scans_ext {s : St} {r : RS} (xs : List Int) {m m' : Nat} (h : m ≤ m') : ∃ T, scans s r xs m' = scans s r xs m ++ T := by
  induction m' with
  | zero => have : m = 0 := by omega
            subst this; exact ⟨[], by simp⟩
  | succ m' ih =>
    by_cases e : m = m' + 1
    · subst e; exact ⟨[], by simp⟩
    · obtain ⟨T1, e1⟩ := ih (by omega)
      obtain ⟨T2, e2⟩ := scan1_ext (s := s) (r := r) (scans s r xs m') m'
      exact ⟨T1 ++ T2, by rw [scans_succ, e2, e1, List.append_assoc]⟩
/-- Where the scan has come to its end nothing more is met. -/
theorem scans_end {s : St} {r : RS} (xs : List Int) {m : Nat} (h : (scans s r xs m).length ≤ m) : ∀ m', m ≤ m' → scans s r xs m' = scans s r xs m := by
  intro m' hm
  induction m' with
  | zero => have : m = 0 := by omega
            subst this; rfl
  | succ m' ih =>
    by_cases e : m = m' + 1
    · subst e; rfl
    · have e1 := ih (by omega)
      rw [scans_succ, e1]
      unfold scan1
      rw [List.getElem?_eq_none (by omega)]

/-! ### Sizes -/
def sumN : List Nat → Nat
  | [] => 0
  | x :: l => x + sumN l
theorem sumN_append (a b : List Nat) : sumN (a ++ b) = sumN a + sumN b := by
  induction a with
  | nil => simp [sumN]
  | cons x l ih => simp [sumN, ih]; omega
theorem sum_erase (f : Nat → Nat) (n : Nat) : ∀ G : List Nat, n ∈ G → sumN (G.map f) = f n + sumN ((G.erase n).map f) := by
  intro G
  induction G with
  | nil => intro h; cases h
  | cons x l ih =>
    intro h
    by_cases e : x = n
    · subst e; simp [sumN]
    · have hn : n ∈ l := by
        rcases List.mem_cons.1 h with h | h
        · exact absurd h.symm e
        · exact h
      rw [List.erase_cons_tail (by simpa using e)]
      simp only [List.map_cons, sumN]
      have := ih hn
      omega
theorem sum_le (f : Nat → Nat) : ∀ (n : Nat) (G : List Nat), G.Nodup → (∀ i, i ∈ G → i < n) → sumN (G.map f) ≤ sumN ((List.range n).map f) ∧ G.length ≤ n := by
  intro n
  induction n with
  | zero =>
    intro G _ h2
    cases G with
    | nil => exact ⟨Nat.le_refl _, Nat.le_refl _⟩
    | cons x l => exact absurd (h2 x (by simp)) (by omega)
  | succ n ih =>
    intro G h1 h2
    rw [List.range_succ, List.map_append, sumN_append]
    by_cases h : n ∈ G
    · have h3 := ih (G.erase n) (h1.erase n) (fun i hi => by
        have hi2 := (List.Nodup.mem_erase_iff h1).1 hi
        have := h2 i hi2.2
        have := hi2.1
        omega)
      have h4 := sum_erase f n G h
      have h5 : (G.erase n).length = G.length - 1 := List.length_erase_of_mem h
      have h6 : 0 < G.length := List.length_pos_of_mem h
      simp only [List.map_cons, List.map_nil, sumN]
      omega
    · have h3 := ih G h1 (fun i hi => by
        have := h2 i hi
        have : i ≠ n := fun e => h (e ▸ hi)
        omega)
      omega
theorem lenB_sum (l : List Blk) : lenB l = sumN (l.map fun b => 1 + b.F.length) := by
  induction l with
  | nil => rfl
  | cons b l ih => simp [lenB, sumN, ih]
theorem range_map_blk (r : RS) : (List.range r.L.length).map (blkAt r) = r.L := by
  apply List.ext_getElem
  · simp
  · intro i h1 h2
    simp [blkAt, h2]
theorem goodG_len {r : RS} {G : List Nat} (h : GoodG r G) : lenG r G ≤ lenB r.L ∧ G.length ≤ r.L.length := by
  have := sum_le (fun i => 1 + (blkAt r i).F.length) r.L.length G h.1 h.2
  refine ⟨?_, this.2⟩
  unfold lenG
  rw [lenB_sum, List.map_map, show lenB r.L = lenB ((List.range r.L.length).map (blkAt r)) from by rw [range_map_blk], lenB_sum, List.map_map]
  exact this.1
theorem lenG_append (r : RS) (a b : List Nat) : lenG r (a ++ b) = lenG r a + lenG r b := by unfold lenG; rw [List.map_append, lenB_append]
theorem lenG_one (r : RS) (i : Nat) : lenG r [i] = 1 + (blkAt r i).F.length := by unfold lenG; simp [lenB]
theorem placeG_ext (r : RS) (B : Nat) (G T : List Nat) {k : Nat} (h : k ≤ G.length) : placeG r B (G ++ T) k = placeG r B G k := by
  unfold placeG; rw [List.take_append_of_le_length h]
theorem blkAt_of {r : RS} {i : Nat} {b : Blk} (h : r.L[i]? = some b) : blkAt r i = b := by unfold blkAt; rw [List.getD_eq_getElem?_getD, h]; rfl
/-- What a word is now hangs on those alone that were met till it was met. -/
theorem newW_ext {s : St} {r : RS} (B : Nat) (G T : List Nat) {x : Int} (h : ∀ i, leadI s r x = some i → i ∈ G) : newW s r B (G ++ T) x = newW s r B G x := by
  unfold newW
  cases e : leadI s r x with
  | none => rfl
  | some i =>
    have hi := h i e
    show 2 * _ = 2 * _
    rw [List.idxOf_append, if_pos hi, placeG_ext r B G T (List.idxOf_le_length)]
/-- The scan is at its end: the words of all that was met lead to what was met. -/
theorem reach_end {s : St} {r : RS} (hr : Rep s r) (xs : List Int) : ∀ m, (scans s r xs m).length ≤ m → reachG s r xs = scans s r xs m := by
  intro m hm
  unfold reachG
  by_cases h : m ≤ r.L.length
  · exact scans_end xs hm _ h
  · have := (goodG_len (scans_good hr xs r.L.length)).2
    exact (scans_end xs this m (by omega)).symm
theorem reach_len {s : St} {r : RS} (hr : Rep s r) (xs : List Int) : (reachG s r xs).length ≤ r.L.length := (goodG_len (scans_good hr xs _)).2
theorem reach_good {s : St} {r : RS} (hr : Rep s r) (xs : List Int) : GoodG r (reachG s r xs) := scans_good hr xs _
theorem reach_root {s : St} {r : RS} (hr : Rep s r) {xs : List Int} {x : Int} (hx : x ∈ xs) {i : Nat} (e : leadI s r x = some i) : i ∈ reachG s r xs := by
  obtain ⟨T, e2⟩ := scans_ext (s := s) (r := r) xs (Nat.zero_le r.L.length)
  unfold reachG
  rw [e2, List.mem_append, scans_zero]
  exact Or.inl (visits_has xs hx e)
theorem reach_field {s : St} {r : RS} (hr : Rep s r) {xs : List Int} {k j : Nat} (hk : (reachG s r xs)[k]? = some j) {x : Int} (hx : x ∈ wordsOf (blkAt r j)) {i : Nat} (e : leadI s r x = some i) : i ∈ reachG s r xs := by
  have hkl := (List.getElem?_eq_some_iff.1 hk).1
  have hl := reach_len hr xs
  -- block k was met ahead of step k, or at it the scan is at its end
  by_cases hm : k < (scans s r xs k).length
  · obtain ⟨T, e2⟩ := scans_ext (s := s) (r := r) xs (show k ≤ r.L.length by omega)
    have hj : (scans s r xs k)[k]? = some j := by
      have h2 : reachG s r xs = scans s r xs k ++ T := e2
      rw [h2, List.getElem?_append_left hm] at hk
      exact hk
    obtain ⟨T2, e3⟩ := scans_ext (s := s) (r := r) xs (show k + 1 ≤ r.L.length by omega)
    have h3 : reachG s r xs = scans s r xs (k + 1) ++ T2 := e3
    rw [h3, List.mem_append, scans_succ]
    refine Or.inl ?_
    unfold scan1
    rw [hj]
    exact visits_has _ hx e
  · have := reach_end hr xs k (by omega)
    rw [this] at hkl
    exact absurd hkl hm
end Go.Proofs.Ytcbgjkedmboifab

/-
  Blocks whose fields are filled one behind the other with 1, 2, 3, ..: what holds on the way. Plain; no program.
-/
namespace Go.Proofs.Ytcbgjkedmboifab
open Go.RowKit Go.Deep
set_option linter.unusedVariables false

theorem lenB_congr : ∀ (l l' : List Blk), l.map (fun b => b.F.length) = l'.map (fun b => b.F.length) → lenB l = lenB l' := by
  intro l
  induction l with
  | nil => intro l' h; cases l' with
    | nil => rfl
    | cons b l' => simp at h
  | cons b l ih => intro l' h; cases l' with
    | nil => simp at h
    | cons b' l' =>
      simp at h
      simp [lenB, h.1, ih l' (by simpa using h.2)]
/-- The same blocks, but for what their fields hold. -/
def Shaped (r r' : RS) : Prop := r'.n = r.n ∧ r'.which = r.which ∧ r'.L.map (fun b => (b.ad, b.F.length)) = r.L.map (fun b => (b.ad, b.F.length))
theorem Shaped.refl (r : RS) : Shaped r r := ⟨rfl, rfl, rfl⟩
theorem Shaped.len {r r' : RS} (h : Shaped r r') : r'.L.length = r.L.length := by
  have := congrArg List.length h.2.2
  simpa using this
theorem Shaped.lenB {r r' : RS} (h : Shaped r r') (j : Nat) : lenB (r'.L.take j) = lenB (r.L.take j) := by
  apply lenB_congr
  have := congrArg (List.map Prod.snd) h.2.2
  simp only [List.map_map] at this
  have e : ∀ l : List Blk, l.map (fun b => b.F.length) = l.map (Prod.snd ∘ fun b => (b.ad, b.F.length)) := fun l => rfl
  rw [List.map_take, List.map_take, e, e, this]
theorem Shaped.get {r r' : RS} (h : Shaped r r') {j : Nat} (hj : j < r.L.length) : ∃ b b', r.L[j]? = some b ∧ r'.L[j]? = some b' ∧ b'.ad = b.ad ∧ b'.F.length = b.F.length := by
  have hl := h.len
  refine ⟨r.L[j], r'.L[j], List.getElem?_eq_getElem hj, List.getElem?_eq_getElem (by omega), ?_⟩
  have := congrArg (fun l => l[j]?) h.2.2
  simp only [List.getElem?_map, List.getElem?_eq_getElem hj, List.getElem?_eq_getElem (show j < r'.L.length by omega), Option.map_some] at this
  simp only [Option.some.injEq, Prod.mk.injEq] at this
  exact this
theorem Shaped.put {r r' : RS} (h : Shaped r r') {k i : Nat} {b : Blk} {v : Int} (hk : r'.L[k]? = some b) : Shaped r (r'.put k b i v) := by
  refine ⟨h.1, h.2.1, ?_⟩
  have hl := (List.getElem?_eq_some_iff.1 hk).1
  have hb := (List.getElem?_eq_some_iff.1 hk).2
  show (r'.L.set k ⟨b.ad, b.tag, b.F.set i v⟩).map _ = _
  rw [List.map_set, ← h.2.2]
  apply List.ext_getElem?
  intro q
  by_cases e : q = k
  · subst e
    rw [List.getElem?_set_self (by simpa using hl)]
    rw [List.getElem?_map, hk]
    simp
  · rw [List.getElem?_set_ne (fun c => e c.symm)]
/-- The number that field 0 of block j gets is one more than this. -/
def cntB (r : RS) (j : Nat) : Nat := lenB (r.L.take j) - j
theorem cntB_succ {r : RS} {j : Nat} {b : Blk} (h : r.L[j]? = some b) : cntB r (j + 1) = cntB r j + b.F.length := by
  have h1 := lenB_succ r.L j b h
  have h2 := lenB_length' (r.L.take j)
  have hj := (List.getElem?_eq_some_iff.1 h).1
  rw [List.length_take] at h2
  unfold cntB
  omega
def Done (r r' : RS) (j i : Nat) : Prop := ∀ (q : Nat) (b' : Blk) (e : Nat), r'.L[q]? = some b' → e < b'.F.length → (q < j ∨ (q = j ∧ e < i)) → b'.F[e]? = some (intW ((cntB r q + e + 1 : Nat) : Int))
theorem Done.start (r r' : RS) : Done r r' 0 0 := by
  intro q b' e _ _ h; omega
theorem Done.put {r r' : RS} {j i : Nat} {b : Blk} (h : Done r r' j i) (hj : r'.L[j]? = some b) (hi : i < b.F.length) : Done r (r'.put j b i (intW ((cntB r j + i + 1 : Nat) : Int))) j (i + 1) := by
  intro q b' e hq he hc
  rcases set_some hj hq with ⟨rfl, rfl⟩ | ⟨ne, hq'⟩
  · show (b.F.set i _)[e]? = _
    have he' : e < b.F.length := by have : e < (b.F.set i (intW ((cntB r q + i + 1 : Nat) : Int))).length := he; simpa using this
    by_cases c : e = i
    · subst c; rw [List.getElem?_set_self hi]
    · rw [List.getElem?_set_ne (fun x => c x.symm)]
      exact h q b e hj he' (by omega)
  · exact h q b' e hq' he (by omega)
theorem Done.next {r r' : RS} {j : Nat} {b : Blk} (h : Done r r' j b.F.length) (hj : r'.L[j]? = some b) : Done r r' (j + 1) 0 := by
  intro q b' e hq he hc
  by_cases c : q = j
  · subst c
    rw [hj] at hq
    have : b = b' := by simpa using hq
    subst this
    exact h q b e hj he (Or.inr ⟨rfl, he⟩)
  · exact h q b' e hq he (by omega)
theorem Rep.word {s : St} {r : RS} (h : Rep s r) {j : Nat} {b : Blk} (hj : r.L[j]? = some b) (hs : s.top ≤ 100000) : s.find (2 * (b.ad : Int)) = ((b.ad : Int), 0) ∧ s.size (2 * (b.ad : Int)) = b.F.length := by
  have hin := h.inside hj
  have ea : addrW (2 * (b.ad : Int)) = b.ad := by unfold addrW; rw [if_neg (by omega)]; omega
  have hf := h.find_blk' (x := 2 * (b.ad : Int)) hj ea.symm
  refine ⟨hf, ?_⟩
  unfold St.size
  rw [hf, if_neg (by show ¬ ((b.ad : Int) = 0); omega)]
  exact (h.tagAt hj).2
theorem blkW_eq {s : St} {r : RS} (h : Rep s r) {j : Nat} {b : Blk} (hj : r.L[j]? = some b) : blkW s r j = 2 * (b.ad : Int) := by
  have := h.ad j b hj
  unfold blkW
  omega
theorem Shaped.base {s s' : St} {r r' : RS} (h : Shaped r r') (hs : Rep s r) (hs' : Rep s' r') : s'.base = s.base ∧ s'.top = s.top ∧ s'.n = s.n := by
  have e1 := hs.base; have e2 := hs'.base; have e3 := hs.top; have e4 := hs'.top; have e5 := hs.n; have e6 := hs'.n
  rw [h.1, h.2.1] at e2
  rw [h.1] at e6
  have := h.lenB r.L.length
  have hl := h.len
  rw [List.take_of_length_le (by omega), List.take_of_length_le (by omega)] at this
  omega
end Go.Proofs.Ytcbgjkedmboifab

/-
  What a collection leaves, told plainly: how many blocks, of how many cells. Plain; no program.
-/
namespace Go.Proofs.Ytcbgjkedmboifab
open Go.RowKit Go.Deep
set_option linter.unusedVariables false

theorem newB_len (s : St) (r : RS) (B : Nat) (G : List Nat) (k : Nat) : (newB s r B G k).F.length = (blkAt r (G.getD k 0)).F.length := by
  unfold newB
  show (if _ then _ else _ : List Int).length = _
  split
  · rfl
  · simp
theorem coll_map (s : St) (r : RS) (B : Nat) (G : List Nat) : ((List.range G.length).map (newB s r B G)).map (fun b => b.F.length) = (G.map (blkAt r)).map (fun b => b.F.length) := by
  apply List.ext_getElem
  · simp
  · intro k h1 h2
    simp only [List.length_map, List.length_range] at h1 h2
    simp only [List.getElem_map, List.getElem_range, newB_len]
    rw [List.getD_eq_getElem?_getD, List.getElem?_eq_getElem h2]
    rfl
theorem collR_len (s : St) (r : RS) (xs : List Int) : (collR s r xs).L.length = (reachG s r xs).length := by unfold collR; simp
theorem collR_lenB (s : St) (r : RS) (xs : List Int) : lenB (collR s r xs).L = lenG r (reachG s r xs) := lenB_congr _ _ (coll_map s r _ _)
theorem otherB_ne {s : St} {r : RS} (h : Rep s r) (hn : 1 ≤ s.n) : otherB r ≠ s.base := by
  have h1 := h.n
  have h2 := h.base
  have h3 := h.wh
  unfold otherB
  rcases (show r.which = 0 ∨ r.which = 1 by omega) with e | e <;> rw [e] at h2 ⊢ <;> omega
end Go.Proofs.Ytcbgjkedmboifab

/-
  What is in reach is told nearest first: each block but those that roots lead to is led to by a word of one that was met ahead. Plain; no program.
-/
namespace Go.Proofs.Ytcbgjkedmboifab
open Go.RowKit Go.Deep
set_option linter.unusedVariables false

/-- Each that was met is led to by a root, or by a word of one that was met ahead of it. -/
def Origin (s : St) (r : RS) (xs : List Int) (G : List Nat) : Prop := ∀ (m i : Nat), G[m]? = some i → (∃ x, x ∈ xs ∧ leadI s r x = some i) ∨ ∃ k g, k < m ∧ G[k]? = some g ∧ ∃ x, x ∈ wordsOf (blkAt r g) ∧ leadI s r x = some i
theorem origin_snoc {s : St} {r : RS} {xs : List Int} {G : List Nat} {i : Nat} (h : Origin s r xs G) (hi : (∃ x, x ∈ xs ∧ leadI s r x = some i) ∨ ∃ k g, k < G.length ∧ G[k]? = some g ∧ ∃ x, x ∈ wordsOf (blkAt r g) ∧ leadI s r x = some i) : Origin s r xs (G ++ [i]) := by
  intro m j hj
  rcases snoc_some hj with ⟨hj', hm⟩ | ⟨rfl, rfl⟩
  · rcases h m j hj' with h1 | ⟨k, g, hk, hg, hx⟩
    · exact Or.inl h1
    · exact Or.inr ⟨k, g, hk, by rw [List.getElem?_append_left (by omega)]; exact hg, hx⟩
  · rcases hi with h1 | ⟨k, g, hk, hg, hx⟩
    · exact Or.inl h1
    · exact Or.inr ⟨k, g, hk, by rw [List.getElem?_append_left hk]; exact hg, hx⟩
theorem origin_root {s : St} {r : RS} {xs : List Int} {G : List Nat} (h : Origin s r xs G) {x : Int} (hx : x ∈ xs) : Origin s r xs (visit s r G x) := by
  cases e : leadI s r x with
  | none => rw [visit_none e]; exact h
  | some i =>
    by_cases hi : i ∈ G
    · rw [visit_old e hi]; exact h
    · rw [visit_new e hi]; exact origin_snoc h (Or.inl ⟨x, hx, e⟩)
theorem origin_field {s : St} {r : RS} {xs : List Int} {G : List Nat} (h : Origin s r xs G) {k g : Nat} (hk : G[k]? = some g) {x : Int} (hx : x ∈ wordsOf (blkAt r g)) : Origin s r xs (visit s r G x) := by
  cases e : leadI s r x with
  | none => rw [visit_none e]; exact h
  | some i =>
    by_cases hi : i ∈ G
    · rw [visit_old e hi]; exact h
    · rw [visit_new e hi]; exact origin_snoc h (Or.inr ⟨k, g, (List.getElem?_eq_some_iff.1 hk).1, hk, x, hx, e⟩)
theorem origin_roots {s : St} {r : RS} {xs : List Int} (ys : List Int) : ∀ {G : List Nat}, Origin s r xs G → (∀ y, y ∈ ys → y ∈ xs) → Origin s r xs (visits s r G ys) := by
  induction ys with
  | nil => intro G h _; exact h
  | cons y ys ih => intro G h hy; rw [visits_cons]; exact ih (origin_root h (hy y (by simp))) (fun z hz => hy z (by simp [hz]))
theorem origin_fields {s : St} {r : RS} {xs : List Int} {k g : Nat} (ys : List Int) : ∀ {G : List Nat}, Origin s r xs G → G[k]? = some g → (∀ y, y ∈ ys → y ∈ wordsOf (blkAt r g)) → Origin s r xs (visits s r G ys) := by
  induction ys with
  | nil => intro G h _ _; exact h
  | cons y ys ih =>
    intro G h hk hy
    rw [visits_cons]
    refine ih (origin_field h hk (hy y (by simp))) ?_ (fun z hz => hy z (by simp [hz]))
    obtain ⟨T, e⟩ := visit_ext (s := s) (r := r) G y
    rw [e, List.getElem?_append_left (List.getElem?_eq_some_iff.1 hk).1]; exact hk
theorem origin_scans {s : St} {r : RS} (xs : List Int) (m : Nat) : Origin s r xs (scans s r xs m) := by
  induction m with
  | zero => rw [scans_zero]; exact origin_roots xs (by intro m i h; simp at h) (fun _ h => h)
  | succ m ih =>
    rw [scans_succ]
    unfold scan1
    cases e : (scans s r xs m)[m]? with
    | none => exact ih
    | some g => exact origin_fields _ ih e (fun _ h => h)
theorem reach_origin (s : St) (r : RS) (xs : List Int) : Origin s r xs (reachG s r xs) := origin_scans xs _
/-- What Get, Tag and Leads tell of a block by its word. -/
theorem Rep.fieldOf {s : St} {r : RS} (h : Rep s r) {i : Nat} {b : Blk} (hb : r.L[i]? = some b) (hs : s.top ≤ 100000) {j : Nat} (hj : j < b.F.length) : s.get (2 * (b.ad : Int)) j = b.F.getD j 0 ∧ s.fieldE (2 * (b.ad : Int)) j = 0 := by
  obtain ⟨hf, _⟩ := h.word hb hs
  have hin := h.inside hb
  have hE : s.fieldE (2 * (b.ad : Int)) j = 0 := by
    unfold St.fieldE
    rw [hf, if_neg (by show ¬ ((b.ad : Int) = 0); omega), (h.tagAt hb).2, if_neg (by omega)]
  refine ⟨?_, hE⟩
  unfold St.get
  rw [if_pos hE, hf]
  show s.C ((b.ad : Int) + j).toNat = _
  rw [show ((b.ad : Int) + j).toNat = b.ad + j from by omega, h.fld i b hb j _ (List.getElem?_eq_getElem hj), List.getD_eq_getElem?_getD, List.getElem?_eq_getElem hj]
  rfl
theorem Rep.tagOf {s : St} {r : RS} (h : Rep s r) {i : Nat} {b : Blk} (hb : r.L[i]? = some b) (hs : s.top ≤ 100000) : s.tag (2 * (b.ad : Int)) = b.tag := by
  obtain ⟨hf, _⟩ := h.word hb hs
  have hin := h.inside hb
  unfold St.tag
  rw [hf, if_neg (by show ¬ ((b.ad : Int) = 0); omega)]
  exact (h.tagAt hb).1
theorem blkAt_some {r : RS} {i : Nat} (h : i < r.L.length) : r.L[i]? = some (blkAt r i) := by
  unfold blkAt; rw [List.getD_eq_getElem?_getD, List.getElem?_eq_getElem h]; rfl
theorem lead_ad {s : St} {r : RS} (h : Rep s r) {x : Int} {i : Nat} (e : leadI s r x = some i) : (s.find x).1 = (blkAt r i).ad := by
  obtain ⟨b, hb, hf⟩ := lead_of h e
  rw [blkAt_of hb]; exact hf
end Go.Proofs.Ytcbgjkedmboifab

/-
  What can be seen behind a collection is what could be seen ahead of it: each word leads where it led, at its distance; the blocks are met in the order in which they lie. Plain; no program.
  What is told of each word that can be seen is the same behind a collection; two collections, and three. Plain; no program.
-/
namespace Go.Proofs.Ytcbgjkedmboifab
open Go.RowKit Go.Deep
set_option linter.unusedVariables false

theorem Rep.find0 {s : St} {r : RS} (h : Rep s r) {x : Int} (g : addrW x = 0) : s.find x = (0, 0) := by
  have hb : ¬ s.isBlk 0 = true := by
    rw [h.blk]
    rintro ⟨i, b, hb, e⟩
    have := h.inside hb
    omega
  unfold St.find
  rw [g, if_neg hb, if_pos (by unfold St.inUse; simp; omega)]
/-- A word that leads to a block at a distance leads to an inner slot of it. -/
theorem Rep.inner {s : St} {r : RS} (h : Rep s r) (lo : ∀ i, 0 ≤ s.C i) (hi : ∀ i, s.C i ≤ 18446744073709551615) {x : Int} {i : Nat} {b : Blk} (hb : r.L[i]? = some b) (hf : (s.find x).1 = b.ad) : addrW x = b.ad + (s.find x).2 ∧ ((s.find x).2 = 0 ∨ Rep.hit b (addrW x)) := by
  have hin := h.inside hb
  unfold St.find at hf ⊢
  split at hf
  · rename_i h1
    rw [if_pos h1]
    have hf' : addrW x = b.ad := hf
    exact ⟨by show addrW x = (b.ad : Int) + 0; omega, Or.inl rfl⟩
  · rename_i h1
    rw [if_neg h1]
    split at hf
    · have hf' : (0 : Int) = b.ad := hf
      omega
    · rename_i h2
      rw [if_neg h2]
      split at hf
      · rename_i h3
        rw [if_pos h3]
        have hf' : addrW x - s.sizeAt (addrW x) = b.ad := hf
        refine ⟨by show addrW x = (b.ad : Int) + s.sizeAt (addrW x); omega, Or.inr ?_⟩
        obtain ⟨c1, c2⟩ := h3
        unfold St.isInr at c2
        simp only [Bool.and_eq_true, beq_iff_eq, decide_eq_true_eq] at c2
        obtain ⟨⟨d1, d2⟩, d3⟩ := c2
        rw [hf', (h.tagAt hb).1] at d2
        rw [hf', (h.tagAt hb).2] at d3
        have hz : 0 ≤ s.sizeAt (addrW x) := sizeW_lo _
        have hne : s.sizeAt (addrW x) ≠ 0 := by
          intro e
          apply h1
          rw [h.blk]
          exact ⟨i, b, hb, by omega⟩
        have hback := head_back _ (lo ((addrW x).toNat - 1)) (hi _) 201 c1 (by omega)
        have hlt : (addrW x - b.ad - 1).toNat < b.F.length := by omega
        refine ⟨d2, by omega, by omega, ?_⟩
        have hfl := h.fld i b hb _ _ (List.getElem?_eq_getElem hlt)
        rw [show b.ad + (addrW x - b.ad - 1).toNat = (addrW x).toNat - 1 from by omega] at hfl
        rw [List.getElem?_eq_getElem hlt, ← hfl, hback, show addrW x - (b.ad : Int) = s.sizeAt (addrW x) from by omega]
        rfl
      · have hf' : (0 : Int) = b.ad := hf
        omega
theorem head_addr (t z : Int) : addrW (headW t z) = 0 := by
  unfold headW
  split
  · rfl
  · unfold addrW intW
    rw [if_pos (Or.inl (by omega))]
section
variable {s s' : St} {r : RS} {xs : List Int}
theorem newB_at (k : Nat) (hk : k < (reachG s r xs).length) : (collR s r xs).L[k]? = some (newB s r (otherB r) (reachG s r xs) k) := by
  unfold collR
  simp [hk]
/-- Words that may be seen: the roots, the words of blocks in reach. -/
def Seen (s : St) (r : RS) (xs : List Int) (x : Int) : Prop := x ∈ xs ∨ ∃ (k g : Nat), (reachG s r xs)[k]? = some g ∧ x ∈ wordsOf (blkAt r g)
theorem seen_met (hr : Rep s r) {x : Int} (h : Seen s r xs x) {i : Nat} (e : leadI s r x = some i) : i ∈ reachG s r xs := by
  rcases h with h | ⟨k, g, hk, hx⟩
  · exact reach_root hr h e
  · exact reach_field hr hk hx e
/-- Where a word leads behind the collection. -/
theorem again_lead (hr : Rep s r) (lo : ∀ i, 0 ≤ s.C i) (hi : ∀ i, s.C i ≤ 18446744073709551615) (hr' : Rep s' (collR s r xs)) (ht' : s'.top ≤ 100000) {x : Int} (hx : Seen s r xs x) {i : Nat} (e : leadI s r x = some i) :
    s'.find (newW s r (otherB r) (reachG s r xs) x) = (((placeG r (otherB r) (reachG s r xs) ((reachG s r xs).idxOf i) : Nat) : Int), (s.find x).2) ∧ leadI s' (collR s r xs) (newW s r (otherB r) (reachG s r xs) x) = some ((reachG s r xs).idxOf i) := by
  have hmem := seen_met hr hx e
  have hkl : (reachG s r xs).idxOf i < (reachG s r xs).length := List.idxOf_lt_length_iff.2 hmem
  obtain ⟨b, hb, hf⟩ := lead_of hr e
  have hbk := blkAt_of hb
  have hgk : (reachG s r xs).getD ((reachG s r xs).idxOf i) 0 = i := by
    rw [List.getD_eq_getElem?_getD, List.getElem?_eq_getElem hkl]
    simp
  have hn := newB_at (s := s) (r := r) (xs := xs) _ hkl
  have hnw0 : newW s r (otherB r) (reachG s r xs) x = 2 * ((placeG r (otherB r) (reachG s r xs) ((reachG s r xs).idxOf i) : Nat) + (s.find x).2) := by unfold newW; rw [e]
  generalize (reachG s r xs).idxOf i = k at *
  have hbn : newB s r (otherB r) (reachG s r xs) k = ⟨placeG r (otherB r) (reachG s r xs) k, b.tag, if b.tag = 202 then b.F else b.F.map (newW s r (otherB r) (reachG s r xs))⟩ := by
    unfold newB; rw [hgk, hbk]
  rw [hbn] at hn
  have hin' := hr'.inside hn
  obtain ⟨a1, a2⟩ := hr.inner lo hi hb hf
  have hlen : (if b.tag = 202 then b.F else b.F.map (newW s r (otherB r) (reachG s r xs))).length = b.F.length := by split <;> simp
  have hfl := (hr.tag i b hb).2.2
  rw [hnw0]
  generalize placeG r (otherB r) (reachG s r xs) k = P at *
  have hP1 : s'.base + 1 ≤ P := hin'.1
  have hPt : P + (if b.tag = 202 then b.F else b.F.map (newW s r (otherB r) (reachG s r xs))).length ≤ s'.top := hin'.2
  rw [hlen] at hPt
  have key : s'.find (2 * ((P : Int) + (s.find x).2)) = ((P : Int), (s.find x).2) := by
    rcases a2 with h0 | ⟨q1, q2, q3, q4⟩
    · rw [h0]
      have ea : addrW (2 * ((P : Int) + 0)) = P := by unfold addrW; rw [if_neg (by omega)]; omega
      have := hr'.find_blk' (x := 2 * ((P : Int) + 0)) hn ea.symm
      exact this
    · have ed : addrW x - b.ad = (s.find x).2 := by omega
      rw [ed] at q2 q3 q4
      generalize (s.find x).2 = d at *
      have ea : addrW (2 * ((P : Int) + d)) = P + d := by unfold addrW; rw [if_neg (by omega)]; omega
      have hF : (if b.tag = 202 then b.F else b.F.map (newW s r (otherB r) (reachG s r xs))) = b.F.map (newW s r (otherB r) (reachG s r xs)) := by rw [if_neg (by omega)]
      rw [hF] at hn
      have hno : ∀ (j : Nat) (c : Blk), (collR s r xs).L[j]? = some c → (c.ad : Int) ≠ addrW (2 * ((P : Int) + d)) := by
        intro j c hc e2
        rw [ea] at e2
        rcases Nat.lt_trichotomy j k with hjk | hjk | hjk
        · have h3 := hr'.order hc hn hjk
          have h3' : c.ad + c.F.length + 1 ≤ P := h3
          omega
        · subst hjk
          rw [hn] at hc
          have e4 : c.ad = P := by
            have := (Option.some.inj hc).symm
            rw [this]
          omega
        · have h3 := hr'.order hn hc hjk
          have h3' : P + (b.F.map (newW s r (otherB r) (reachG s r xs))).length + 1 ≤ c.ad := h3
          rw [List.length_map] at h3'
          omega
      have hhit : Rep.hit ⟨P, b.tag, b.F.map (newW s r (otherB r) (reachG s r xs))⟩ (addrW (2 * ((P : Int) + d))) := by
        rw [ea]
        have e5 : (P : Int) + d - (P : Int) = d := by omega
        refine ⟨q1, ?_, ?_, ?_⟩
        · show 1 ≤ (P : Int) + d - (P : Int); omega
        · show (P : Int) + d - (P : Int) < ((b.F.map (newW s r (otherB r) (reachG s r xs))).length : Nat)
          rw [List.length_map]; omega
        · show (b.F.map (newW s r (otherB r) (reachG s r xs)))[((P : Int) + d - (P : Int) - 1).toNat]? = some (headW 201 ((P : Int) + d - (P : Int)))
          rw [e5, List.getElem?_map, q4]
          show some (newW s r (otherB r) (reachG s r xs) (headW 201 d)) = some (headW 201 d)
          have hnone : leadI s r (headW 201 d) = none := leadI_none (by rw [hr.find0 (head_addr 201 d)])
          unfold newW
          rw [hnone]
      have := hr'.find_hit hno hn hhit
      rw [this, ea]
      show ((P : Int), (P : Int) + d - (P : Int)) = _
      rw [show (P : Int) + d - (P : Int) = d from by omega]
  exact ⟨key, leadI_some hr' hn (by rw [key])⟩
/-- A word that leads to nothing, and is a number or 0, leads to nothing behind the collection. -/
theorem again_none {r' : RS} (hr' : Rep s' r') {B : Nat} {G : List Nat} {x : Int} (e : leadI s r x = none) (h0 : addrW x = 0) : newW s r B G x = x ∧ s'.find x = (0, 0) ∧ leadI s' r' x = none := by
  have hf := hr'.find0 h0
  exact ⟨by unfold newW; rw [e], hf, leadI_none (by rw [hf])⟩
/-- No word that may be seen is even and leads to nothing. -/
def NoStray (s : St) (r : RS) (xs : List Int) : Prop := ∀ x, Seen s r xs x → leadI s r x = none → addrW x = 0
theorem take_prefix {G0 T : List Nat} {i : Nat} (h : (G0 ++ T).Nodup) (hi : i ∈ G0 ++ T) : i ∈ G0 ↔ (G0 ++ T).idxOf i < G0.length := by
  rw [List.idxOf_append]
  constructor
  · intro hm
    rw [if_pos hm]
    exact List.idxOf_lt_length_iff.2 hm
  · intro hl
    by_cases hm : i ∈ G0
    · exact hm
    · rw [if_neg hm] at hl; omega
theorem again_visits (hr : Rep s r) (lo : ∀ i, 0 ≤ s.C i) (hi : ∀ i, s.C i ≤ 18446744073709551615) (hr' : Rep s' (collR s r xs)) (ht' : s'.top ≤ 100000) (hns : NoStray s r xs) (ys : List Int) :
    ∀ (G0 T : List Nat), visits s r G0 ys ++ T = reachG s r xs → (∀ y, y ∈ ys → Seen s r xs y) →
      visits s' (collR s r xs) (List.range G0.length) (ys.map (newW s r (otherB r) (reachG s r xs))) = List.range (visits s r G0 ys).length := by
  induction ys with
  | nil => intro G0 T _ _; rfl
  | cons y ys ih =>
    intro G0 T hT hy
    rw [List.map_cons, visits_cons, visits_cons]
    have hT' : visits s r (visit s r G0 y) ys ++ T = reachG s r xs := hT
    have step : visit s' (collR s r xs) (List.range G0.length) (newW s r (otherB r) (reachG s r xs) y) = List.range (visit s r G0 y).length := by
      cases e : leadI s r y with
      | none =>
        obtain ⟨e1, _, e3⟩ := again_none (s := s) (r := r) (B := otherB r) (G := reachG s r xs) hr' e (hns y (hy y (by simp)) e)
        rw [visit_none e, e1, visit_none e3]
      | some i =>
        obtain ⟨_, e2⟩ := again_lead hr lo hi hr' ht' (hy y (by simp)) e
        obtain ⟨T1, hT1⟩ := visits_ext (s := s) (r := r) ys (visit s r G0 y)
        by_cases hm : i ∈ G0
        · rw [visit_old e hm]
          obtain ⟨T2, hT2⟩ := visit_ext (s := s) (r := r) G0 y
          refine visit_old e2 ?_
          rw [List.mem_range]
          have hG : reachG s r xs = G0 ++ (T2 ++ (T1 ++ T)) := by rw [← hT', hT1, hT2]; simp
          rw [hG, List.idxOf_append, if_pos hm]
          exact List.idxOf_lt_length_iff.2 hm
        · have hv := visit_new (G := G0) e hm
          have hG : reachG s r xs = (G0 ++ [i]) ++ (T1 ++ T) := by rw [← hT', hT1, hv]; simp
          have hidx : (reachG s r xs).idxOf i = G0.length := by
            rw [hG, List.idxOf_append, if_pos (by simp), List.idxOf_append, if_neg hm, List.idxOf_cons_self]; omega
          rw [hv]
          rw [hidx] at e2
          rw [visit_new e2 (by simp), List.length_append]
          exact (List.range_succ).symm
    rw [step]
    exact ih _ T hT' (fun z hz => hy z (by simp [hz]))
/-- Behind a collection the blocks are met in the order in which they lie. -/
theorem again_scans (hr : Rep s r) (lo : ∀ i, 0 ≤ s.C i) (hi : ∀ i, s.C i ≤ 18446744073709551615) (hr' : Rep s' (collR s r xs)) (ht' : s'.top ≤ 100000) (hns : NoStray s r xs) (m : Nat) (hm : m ≤ r.L.length) :
    scans s' (collR s r xs) (xs.map (newW s r (otherB r) (reachG s r xs))) m = List.range (scans s r xs m).length := by
  induction m with
  | zero =>
    rw [scans_zero, scans_zero]
    obtain ⟨T, hT⟩ := scans_ext (s := s) (r := r) xs (Nat.zero_le r.L.length)
    rw [scans_zero] at hT
    exact again_visits hr lo hi hr' ht' hns xs [] T hT.symm (fun y h => Or.inl h)
  | succ m ih =>
    have ih' := ih (by omega)
    rw [scans_succ, scans_succ, ih']
    obtain ⟨T, hT⟩ := scans_ext (s := s) (r := r) xs hm
    have hT' : reachG s r xs = scans s r xs (m + 1) ++ T := hT
    rw [scans_succ] at hT'
    unfold scan1 at hT' ⊢
    cases e : (scans s r xs m)[m]? with
    | none =>
      have hl : (scans s r xs m).length ≤ m := by
        by_cases h : m < (scans s r xs m).length
        · rw [List.getElem?_eq_getElem h] at e; cases e
        · omega
      rw [List.getElem?_eq_none (by rw [List.length_range]; exact hl)]
    | some i =>
      rw [e] at hT'
      have hT2 : visits s r (scans s r xs m) (wordsOf (blkAt r i)) ++ T = reachG s r xs := hT'.symm
      have hml := (List.getElem?_eq_some_iff.1 e).1
      obtain ⟨T3, hT3⟩ := scans_ext (s := s) (r := r) xs (show m ≤ r.L.length by omega)
      have hT3' : reachG s r xs = scans s r xs m ++ T3 := hT3
      have hrk : (reachG s r xs)[m]? = some i := by rw [hT3', List.getElem?_append_left hml]; exact e
      have hrl := (List.getElem?_eq_some_iff.1 hrk).1
      have hnb := newB_at (s := s) (r := r) (xs := xs) m hrl
      rw [List.getElem?_eq_getElem (by rw [List.length_range]; exact hml)]
      show visits s' (collR s r xs) _ (wordsOf (blkAt (collR s r xs) ((List.range (scans s r xs m).length)[m]'(by rw [List.length_range]; exact hml)))) = _
      rw [List.getElem_range, blkAt_of hnb]
      have hw : wordsOf (newB s r (otherB r) (reachG s r xs) m) = (wordsOf (blkAt r i)).map (newW s r (otherB r) (reachG s r xs)) := by
        have hg : (reachG s r xs).getD m 0 = i := by rw [List.getD_eq_getElem?_getD, hrk]; rfl
        unfold wordsOf newB
        rw [hg]
        by_cases ht : (blkAt r i).tag = 202
        · simp [ht]
        · simp [ht]
      rw [hw]
      exact again_visits hr lo hi hr' ht' hns _ _ T hT2 (fun y h => Or.inr ⟨m, i, hrk, h⟩)
theorem again_reach (hr : Rep s r) (lo : ∀ i, 0 ≤ s.C i) (hi : ∀ i, s.C i ≤ 18446744073709551615) (hr' : Rep s' (collR s r xs)) (ht' : s'.top ≤ 100000) (hns : NoStray s r xs) :
    reachG s' (collR s r xs) (xs.map (newW s r (otherB r) (reachG s r xs))) = List.range (reachG s r xs).length := by
  have hl := reach_len hr xs
  have h1 := again_scans hr lo hi hr' ht' hns (reachG s r xs).length hl
  have h2 : (scans s r xs (reachG s r xs).length).length ≤ (reachG s r xs).length := by
    obtain ⟨T, hT⟩ := scans_ext (s := s) (r := r) xs hl
    have hT' : reachG s r xs = scans s r xs (reachG s r xs).length ++ T := hT
    have := congrArg List.length hT'
    rw [List.length_append] at this
    omega
  have h3 := reach_end hr xs _ h2
  show scans s' (collR s r xs) _ (collR s r xs).L.length = _
  rw [collR_len, h1, ← h3]
end
end Go.Proofs.Ytcbgjkedmboifab

namespace Go.Proofs.Ytcbgjkedmboifab
open Go.RowKit Go.Deep
set_option linter.unusedVariables false

/-- A word as it is met: its block's place among those that were met, its distance; or the word itself. -/
def gNode (s : St) (r : RS) (G : List Nat) (x : Int) : Int × Int × Int :=
  match leadI s r x with
  | none => (-1, 0, x)
  | some i => (((G.idxOf i : Nat) : Int), (s.find x).2, 0)
theorem gNode_none {s : St} {r : RS} {G : List Nat} {x : Int} (e : leadI s r x = none) : gNode s r G x = (-1, 0, x) := by unfold gNode; rw [e]
theorem gNode_some {s : St} {r : RS} {G : List Nat} {x : Int} {i : Nat} (e : leadI s r x = some i) : gNode s r G x = (((G.idxOf i : Nat) : Int), (s.find x).2, 0) := by unfold gNode; rw [e]
theorem newW_none {s : St} {r : RS} {B : Nat} {G : List Nat} {x : Int} (e : leadI s r x = none) : newW s r B G x = x := by unfold newW; rw [e]
theorem newW_some {s : St} {r : RS} {B : Nat} {G : List Nat} {x : Int} {i : Nat} (e : leadI s r x = some i) : newW s r B G x = 2 * ((placeG r B G (G.idxOf i) : Nat) + (s.find x).2) := by unfold newW; rw [e]
theorem idx_range {k K : Nat} (h : k < K) : (List.range K).idxOf k = k := by
  induction K with
  | zero => omega
  | succ K ih =>
    rw [List.range_succ, List.idxOf_append]
    by_cases e : k < K
    · rw [if_pos (by simpa using e)]; exact ih e
    · have : k = K := by omega
      subst this
      rw [if_neg (by simp), List.idxOf_cons_self]; simp
section
variable {s s' : St} {r : RS} {xs : List Int}
theorem again_node (hr : Rep s r) (lo : ∀ i, 0 ≤ s.C i) (hi : ∀ i, s.C i ≤ 18446744073709551615) (hr' : Rep s' (collR s r xs)) (ht' : s'.top ≤ 100000) (hns : NoStray s r xs) {x : Int} (hx : Seen s r xs x) :
    gNode s' (collR s r xs) (List.range (reachG s r xs).length) (newW s r (otherB r) (reachG s r xs) x) = gNode s r (reachG s r xs) x := by
  cases e : leadI s r x with
  | none =>
    obtain ⟨e1, e2, e3⟩ := again_none (s := s) (r := r) (B := otherB r) (G := reachG s r xs) hr' e (hns x hx e)
    rw [e1, gNode_none e3, gNode_none e]
  | some i =>
    obtain ⟨e1, e2⟩ := again_lead hr lo hi hr' ht' hx e
    have hk : (reachG s r xs).idxOf i < (reachG s r xs).length := List.idxOf_lt_length_iff.2 (seen_met hr hx e)
    rw [gNode_some e2, gNode_some e, idx_range hk, e1]
theorem again_tag {k : Nat} (hk : k < (reachG s r xs).length) : (blkAt (collR s r xs) k).tag = (blkAt r ((reachG s r xs).getD k 0)).tag ∧ (blkAt (collR s r xs) k).F.length = (blkAt r ((reachG s r xs).getD k 0)).F.length ∧
    (blkAt (collR s r xs) k).F = if (blkAt r ((reachG s r xs).getD k 0)).tag = 202 then (blkAt r ((reachG s r xs).getD k 0)).F else (blkAt r ((reachG s r xs).getD k 0)).F.map (newW s r (otherB r) (reachG s r xs)) := by
  rw [blkAt_of (newB_at (s := s) (r := r) (xs := xs) k hk)]
  exact ⟨rfl, newB_len _ _ _ _ _, rfl⟩
/-- What may be seen behind a collection is what words are then that could be seen ahead of it. -/
theorem again_seen (hr : Rep s r) (lo : ∀ i, 0 ≤ s.C i) (hi : ∀ i, s.C i ≤ 18446744073709551615) (hr' : Rep s' (collR s r xs)) (ht' : s'.top ≤ 100000) (hns : NoStray s r xs) {y : Int} (hy : Seen s' (collR s r xs) (xs.map (newW s r (otherB r) (reachG s r xs))) y) : ∃ x, Seen s r xs x ∧ y = newW s r (otherB r) (reachG s r xs) x := by
  rcases hy with hy | ⟨k, g, hk, hw⟩
  · obtain ⟨x, hx, e⟩ := List.mem_map.1 hy
    exact ⟨x, Or.inl hx, e.symm⟩
  · rw [again_reach hr lo hi hr' ht' hns] at hk
    obtain ⟨hl, e⟩ := List.getElem?_eq_some_iff.1 hk
    rw [List.getElem_range] at e
    subst e
    have hkl : k < (reachG s r xs).length := by simpa using hl
    obtain ⟨t1, _, t3⟩ := again_tag (s := s) (r := r) (xs := xs) hkl
    have hgk : (reachG s r xs)[k]? = some ((reachG s r xs).getD k 0) := by rw [List.getD_eq_getElem?_getD, List.getElem?_eq_getElem hkl]; rfl
    unfold wordsOf at hw
    rw [t1, t3] at hw
    split at hw
    · cases hw
    · rename_i ht
      obtain ⟨x, hx, e⟩ := List.mem_map.1 hw
      exact ⟨x, Or.inr ⟨k, _, hgk, by unfold wordsOf; rw [if_neg ht]; exact hx⟩, e.symm⟩
theorem again_noStray (hr : Rep s r) (lo : ∀ i, 0 ≤ s.C i) (hi : ∀ i, s.C i ≤ 18446744073709551615) (hr' : Rep s' (collR s r xs)) (ht' : s'.top ≤ 100000) (hns : NoStray s r xs) : NoStray s' (collR s r xs) (xs.map (newW s r (otherB r) (reachG s r xs))) := by
  intro y hy e
  obtain ⟨x, hx, rfl⟩ := again_seen hr lo hi hr' ht' hns hy
  cases e2 : leadI s r x with
  | none =>
    have h0 := hns x hx e2
    obtain ⟨e1, _, _⟩ := again_none (s := s) (r := r) (B := otherB r) (G := reachG s r xs) hr' e2 h0
    rw [e1]; exact h0
  | some i =>
    obtain ⟨_, e3⟩ := again_lead hr lo hi hr' ht' hx e2
    rw [e3] at e; cases e
theorem lenG_range (r' : RS) (k : Nat) : lenG r' ((List.range r'.L.length).take k) = lenB (r'.L.take k) := by
  unfold lenG
  rw [List.map_take, range_map_blk]
theorem coll_take (s : St) (r : RS) (xs : List Int) (k : Nat) : lenB ((collR s r xs).L.take k) = lenG r ((reachG s r xs).take k) := by
  unfold lenG
  refine lenB_congr _ _ ?_
  rw [List.map_take, List.map_take, List.map_take]
  congr 1
  exact coll_map s r _ _
/-- Behind a second collection all lies as it did behind the first one. -/
theorem again_take (hr : Rep s r) (lo : ∀ i, 0 ≤ s.C i) (hi : ∀ i, s.C i ≤ 18446744073709551615) (hr' : Rep s' (collR s r xs)) (ht' : s'.top ≤ 100000) (hns : NoStray s r xs) (k : Nat) :
    lenB ((collR s' (collR s r xs) (xs.map (newW s r (otherB r) (reachG s r xs)))).L.take k) = lenB ((collR s r xs).L.take k) := by
  rw [coll_take, again_reach hr lo hi hr' ht' hns, ← collR_len, lenG_range]
end
/-- Behind a third collection the roots are what they were behind the first one. -/
theorem thrice {s s1 s2 : St} {r : RS} {xs : List Int} (hr : Rep s r) (lo : ∀ i, 0 ≤ s.C i) (hi : ∀ i, s.C i ≤ 18446744073709551615) (hr1 : Rep s1 (collR s r xs)) (ht1 : s1.top ≤ 100000) (lo1 : ∀ i, 0 ≤ s1.C i) (hi1 : ∀ i, s1.C i ≤ 18446744073709551615)
    (hr2 : Rep s2 (collR s1 (collR s r xs) (xs.map (collW s r xs)))) (ht2 : s2.top ≤ 100000) (hns : NoStray s r xs) {x : Int} (hx : x ∈ xs) :
    collW s2 (collR s1 (collR s r xs) (xs.map (collW s r xs))) ((xs.map (collW s r xs)).map (collW s1 (collR s r xs) (xs.map (collW s r xs)))) (collW s1 (collR s r xs) (xs.map (collW s r xs)) (collW s r xs x)) = collW s r xs x := by
  have eq1 : xs.map (collW s r xs) = xs.map (newW s r (otherB r) (reachG s r xs)) := rfl
  have hns1 : NoStray s1 (collR s r xs) (xs.map (collW s r xs)) := again_noStray hr lo hi hr1 ht1 hns
  have hG1 : reachG s1 (collR s r xs) (xs.map (collW s r xs)) = List.range (reachG s r xs).length := again_reach hr lo hi hr1 ht1 hns
  have hG2 := again_reach hr1 lo1 hi1 hr2 ht2 hns1
  have hx1 : Seen s1 (collR s r xs) (xs.map (collW s r xs)) (collW s r xs x) := Or.inl (List.mem_map.2 ⟨x, hx, rfl⟩)
  cases e : leadI s r x with
  | none =>
    have h0 := hns x (Or.inl hx) e
    obtain ⟨e1, _, e3⟩ := again_none (s := s) (r := r) (B := otherB r) (G := reachG s r xs) hr1 e h0
    have c1 : collW s r xs x = x := e1
    rw [c1]
    obtain ⟨f1, _, f3⟩ := again_none (s := s1) (r := collR s r xs) (B := otherB (collR s r xs)) (G := reachG s1 (collR s r xs) (xs.map (collW s r xs))) hr2 e3 h0
    have c2 : collW s1 (collR s r xs) (xs.map (collW s r xs)) x = x := f1
    rw [c2]
    exact newW_none f3
  | some i =>
    obtain ⟨_, e3⟩ := again_lead hr lo hi hr1 ht1 (Or.inl hx) e
    obtain ⟨g1, g2⟩ := again_lead hr lo hi hr1 ht1 (Or.inl hx) e
    have hk : (reachG s r xs).idxOf i < (reachG s r xs).length := List.idxOf_lt_length_iff.2 (reach_root hr hx e)
    have c1 : collW s r xs x = 2 * ((placeG r (otherB r) (reachG s r xs) ((reachG s r xs).idxOf i) : Nat) + (s.find x).2) := newW_some e
    obtain ⟨p1, p2⟩ := again_lead hr1 lo1 hi1 hr2 ht2 hx1 e3
    generalize (reachG s r xs).idxOf i = k at *
    have e4 : leadI s2 (collR s1 (collR s r xs) (xs.map (collW s r xs))) (collW s1 (collR s r xs) (xs.map (collW s r xs)) (collW s r xs x)) = some k := by
      have := p2
      rw [hG1, idx_range hk] at this
      rw [← hG1] at this
      exact this
    have d2 : (s2.find (collW s1 (collR s r xs) (xs.map (collW s r xs)) (collW s r xs x))).2 = (s.find x).2 := by
      have h3 : s2.find (collW s1 (collR s r xs) (xs.map (collW s r xs)) (collW s r xs x)) = _ := p1
      rw [h3]
      show (s1.find (collW s r xs x)).2 = _
      have h4 : s1.find (collW s r xs x) = _ := g1
      rw [h4]
    have hbase : otherB (collR s1 (collR s r xs) (xs.map (collW s r xs))) = otherB r := by
      unfold otherB
      show r.n * (1 - (1 - (1 - r.which))) = r.n * (1 - r.which)
      have := hr.wh
      rw [show 1 - (1 - (1 - r.which)) = 1 - r.which from by omega]
    have c3 : collW s2 (collR s1 (collR s r xs) (xs.map (collW s r xs))) ((xs.map (collW s r xs)).map (collW s1 (collR s r xs) (xs.map (collW s r xs)))) (collW s1 (collR s r xs) (xs.map (collW s r xs)) (collW s r xs x))
        = 2 * ((placeG (collR s1 (collR s r xs) (xs.map (collW s r xs))) (otherB r) (List.range (reachG s r xs).length) k : Nat) + (s.find x).2) := by
      have hG2' : reachG s2 (collR s1 (collR s r xs) (xs.map (collW s r xs))) ((xs.map (collW s r xs)).map (collW s1 (collR s r xs) (xs.map (collW s r xs)))) = List.range (reachG s r xs).length := by
        have h5 := hG2
        rw [hG1, List.length_range] at h5
        have h6 : (xs.map (collW s r xs)).map (collW s1 (collR s r xs) (xs.map (collW s r xs))) = (xs.map (collW s r xs)).map (newW s1 (collR s r xs) (otherB (collR s r xs)) (List.range (reachG s r xs).length)) := by
          show (xs.map (collW s r xs)).map (newW s1 (collR s r xs) (otherB (collR s r xs)) (reachG s1 (collR s r xs) (xs.map (collW s r xs)))) = _
          rw [hG1]
        rw [h6]; exact h5
      show newW _ _ _ (reachG s2 _ _) _ = _
      rw [hG2', hbase]
      rw [newW_some e4, idx_range hk, d2]
    rw [c3, c1]
    have hlen2 : (reachG s r xs).length = (collR s1 (collR s r xs) (xs.map (collW s r xs))).L.length := by rw [collR_len, hG1, List.length_range]
    have hpl : placeG (collR s1 (collR s r xs) (xs.map (collW s r xs))) (otherB r) (List.range (reachG s r xs).length) k = placeG r (otherB r) (reachG s r xs) k := by
      unfold placeG
      rw [hlen2, lenG_range]
      have h7 := again_take hr lo hi hr1 ht1 hns k
      have h8 := coll_take s r xs k
      rw [← h8, ← h7]
      rfl
    rw [hpl]
end Go.Proofs.Ytcbgjkedmboifab

/-
  An arena's state tells the list of its blocks: two lists that it stands for are one. Plain; no program.
-/
namespace Go.Proofs.Ytcbgjkedmboifab
open Go.RowKit Go.Deep
set_option linter.unusedVariables false

theorem rep_unique {s : St} {r r' : RS} (h : Rep s r) (h' : Rep s r') (hb : s.top ≤ 65536) (hn : 1 ≤ s.n) : r = r' := by
  have take : ∀ k, k ≤ r.L.length → k ≤ r'.L.length → r.L.take k = r'.L.take k := by
    intro k
    induction k with
    | zero => intro _ _; simp
    | succ k ih =>
      intro h1 h2
      have e := ih (by omega) (by omega)
      have g1 : r.L[k]? = some r.L[k] := List.getElem?_eq_getElem (by omega)
      have g2 : r'.L[k]? = some r'.L[k] := List.getElem?_eq_getElem (by omega)
      have a1 := h.ad k _ g1
      have a2 := h'.ad k _ g2
      rw [e] at a1
      have ea : r.L[k].ad = r'.L[k].ad := by omega
      have t1 := h.tagAt g1
      have t2 := h'.tagAt g2
      rw [ea] at t1
      have et : r.L[k].tag = r'.L[k].tag := t1.1.symm.trans t2.1
      have el : r.L[k].F.length = r'.L[k].F.length := by have := t1.2.symm.trans t2.2; omega
      have ef : r.L[k].F = r'.L[k].F := by
        apply List.ext_getElem el
        intro j j1 j2
        have f1 := h.fld k _ g1 j _ (List.getElem?_eq_getElem j1)
        have f2 := h'.fld k _ g2 j _ (List.getElem?_eq_getElem j2)
        rw [ea] at f1
        exact f1.symm.trans f2
      have eb : r.L[k] = r'.L[k] := by
        cases hx : r.L[k] with
        | mk a t f =>
          cases hy : r'.L[k] with
          | mk a' t' f' =>
            rw [hx, hy] at ea et ef
            simp only at ea et ef
            rw [ea, et, ef]
      rw [List.take_succ_eq_append_getElem (by omega), List.take_succ_eq_append_getElem (by omega), e, eb]
  have len : r.L.length = r'.L.length := by
    rcases Nat.lt_trichotomy r.L.length r'.L.length with hl | hl | hl
    · exfalso
      have e := take r.L.length (Nat.le_refl _) (by omega)
      rw [List.take_length] at e
      have t1 := h.top
      have t2 := h'.top
      rw [e] at t1
      have := lenB_succ r'.L r.L.length _ (List.getElem?_eq_getElem hl)
      have := lenB_take_all r'.L (r.L.length + 1)
      omega
    · exact hl
    · exfalso
      have e := take r'.L.length (by omega) (Nat.le_refl _)
      rw [List.take_length] at e
      have t1 := h.top
      have t2 := h'.top
      rw [← e] at t2
      have := lenB_succ r.L r'.L.length _ (List.getElem?_eq_getElem hl)
      have := lenB_take_all r.L (r'.L.length + 1)
      omega
  have eL : r.L = r'.L := by
    have e := take r.L.length (Nat.le_refl _) (by omega)
    rw [List.take_length] at e
    rw [e, len, List.take_length]
  have en : r.n = r'.n := h.n.symm.trans h'.n
  have ew : r.which = r'.which := by
    have b1 := h.base
    have b2 := h'.base
    rw [en] at b1
    have hr : 1 ≤ r'.n := by have := h'.n; omega
    have w1 := h.wh
    have w2 := h'.wh
    rcases (show r.which = 0 ∨ r.which = 1 by omega) with e1 | e1 <;> rcases (show r'.which = 0 ∨ r'.which = 1 by omega) with e2 | e2 <;> rw [e1] at b1 <;> rw [e2] at b2 <;> omega
  cases r; cases r'
  simp only at en ew eL
  subst en; subst ew; subst eL
  rfl
end Go.Proofs.Ytcbgjkedmboifab

/-
  Layer 4: two states of one arena answer alike: what an arena does is told by its blocks alone. No program is named here.
-/
namespace Go.Proofs.Ytcbgjkedmboifab
open Go.RowKit Go.Deep
set_option linter.unusedVariables false
set_option maxHeartbeats 1000000

/-- A state of an arena whose blocks are those. -/
structure Good (s : St) (r : RS) : Prop where
  rep : Rep s r
  lo : ∀ i, 0 ≤ s.C i
  hi : ∀ i, s.C i ≤ 18446744073709551615
  n1 : 2 ≤ s.n
  n2 : s.n ≤ 32768
  t2 : s.top ≤ s.base + s.n
theorem Good.of {w : World} {p : Pl} {s : St} {r : RS} (h : Ar w p s) (hr : Rep s r) : Good s r := ⟨hr, h.lo, h.hi, h.n1, h.n2, h.t2⟩
section
variable {s s' : St} {r : RS}
theorem Good.t1 (h : Good s r) : s.base ≤ s.top := by have := h.rep.top; omega
theorem agree_find (h : Good s r) (h' : Good s' r) (x : Int) : s.find x = s'.find x := by
  by_cases c1 : ∃ (i : Nat) (b : Blk), r.L[i]? = some b ∧ (b.ad : Int) = addrW x
  · obtain ⟨i, b, hb, e⟩ := c1
    rw [h.rep.find_blk' hb e, h'.rep.find_blk' hb e]
  · have hn : ∀ (i : Nat) (b : Blk), r.L[i]? = some b → (b.ad : Int) ≠ addrW x := fun i b hb e => c1 ⟨i, b, hb, e⟩
    by_cases c2 : ∃ (i : Nat) (b : Blk), r.L[i]? = some b ∧ Rep.hit b (addrW x)
    · obtain ⟨i, b, hb, e⟩ := c2
      rw [h.rep.find_hit hn hb e, h'.rep.find_hit hn hb e]
    · have hm : ∀ (i : Nat) (b : Blk), r.L[i]? = some b → ¬ Rep.hit b (addrW x) := fun i b hb e => c2 ⟨i, b, hb, e⟩
      rw [h.rep.find_none h.lo h.hi hn hm, h'.rep.find_none h'.lo h'.hi hn hm]
theorem agree_n (h : Good s r) (h' : Good s' r) : s.n = s'.n := by rw [h.rep.n, h'.rep.n]
theorem agree_base (h : Good s r) (h' : Good s' r) : s.base = s'.base := by rw [h.rep.base, h'.rep.base]
theorem agree_top (h : Good s r) (h' : Good s' r) : s.top = s'.top := by rw [h.rep.top, h'.rep.top, agree_base h h']
theorem agree_at (h : Good s r) (h' : Good s' r) {x : Int} (g : (s.find x).1 ≠ 0) : s.tagAt (s.find x).1 = s'.tagAt (s'.find x).1 ∧ s.sizeAt (s.find x).1 = s'.sizeAt (s'.find x).1 := by
  obtain ⟨k, b, hb, e⟩ := h.rep.block g
  rw [← agree_find h h' x, e, (h.rep.tagAt hb).1, (h.rep.tagAt hb).2, (h'.rep.tagAt hb).1, (h'.rep.tagAt hb).2]
  exact ⟨rfl, rfl⟩
theorem agree_tag (h : Good s r) (h' : Good s' r) (x : Int) : s.tag x = s'.tag x := by
  unfold St.tag
  by_cases g : (s.find x).1 = 0
  · rw [if_pos g, if_pos (by rw [← agree_find h h' x]; exact g)]
  · rw [if_neg g, if_neg (by rw [← agree_find h h' x]; exact g)]; exact (agree_at h h' g).1
theorem agree_size (h : Good s r) (h' : Good s' r) (x : Int) : s.size x = s'.size x := by
  unfold St.size
  by_cases g : (s.find x).1 = 0
  · rw [if_pos g, if_pos (by rw [← agree_find h h' x]; exact g)]
  · rw [if_neg g, if_neg (by rw [← agree_find h h' x]; exact g)]; exact (agree_at h h' g).2
theorem agree_fieldE (h : Good s r) (h' : Good s' r) (x i : Int) : s.fieldE x i = s'.fieldE x i := by
  unfold St.fieldE
  by_cases g : (s.find x).1 = 0
  · rw [if_pos g, if_pos (by rw [← agree_find h h' x]; exact g)]
  · have g' : ¬ (s'.find x).1 = 0 := by rw [← agree_find h h' x]; exact g
    rw [if_neg g, (agree_at h h' g).2, if_neg g']
/-- Which field is asked for. -/
theorem field_is (h : Good s r) {x i : Int} (g : s.fieldE x i = 0) : ∃ (k : Nat) (b : Blk) (v : Int), r.L[k]? = some b ∧ (s.find x).1 = b.ad ∧ 0 ≤ i ∧ i.toNat < b.F.length ∧ b.F[i.toNat]? = some v ∧ leadI s r x = some k := by
  unfold St.fieldE at g
  split at g
  · omega
  · rename_i g1
    obtain ⟨k, b, hb, e⟩ := h.rep.block g1
    split at g
    · omega
    · rename_i g2
      rw [e, (h.rep.tagAt hb).2] at g2
      have hl : i.toNat < b.F.length := by omega
      refine ⟨k, b, b.F[i.toNat], hb, e, by omega, hl, List.getElem?_eq_getElem hl, ?_⟩
      unfold leadI
      rw [if_neg g1]
      have hk := (List.getElem?_eq_some_iff.1 hb)
      obtain ⟨hk1, hk2⟩ := hk
      rw [List.findIdx?_eq_some_iff_getElem]
      refine ⟨hk1, by rw [hk2, e]; simp, fun j hj => ?_⟩
      have hjl : j < r.L.length := by omega
      simp only [decide_eq_true_eq]
      rw [e]
      intro hc
      have := h.rep.inj (i := j) (k := k) (b := r.L[j]) (c := b) (List.getElem?_eq_getElem hjl) hb (by omega)
      omega
theorem agree_get (h : Good s r) (h' : Good s' r) (x i : Int) : s.get x i = s'.get x i := by
  unfold St.get
  rw [← agree_fieldE h h' x i]
  by_cases g : s.fieldE x i = 0
  · rw [if_pos g, if_pos g]
    obtain ⟨k, b, v, hb, e, i0, hl, hv, _⟩ := field_is h g
    rw [← agree_find h h' x, e]
    have e1 : ((b.ad : Int) + i).toNat = b.ad + i.toNat := by omega
    rw [e1, h.rep.fld k b hb i.toNat v hv, h'.rep.fld k b hb i.toNat v hv]
  · rw [if_neg g, if_neg g]
theorem agree_allocE (h : Good s r) (h' : Good s' r) (t z : Int) : s.allocE t z = s'.allocE t z := by unfold St.allocE; rw [agree_base h h', agree_n h h', agree_top h h']
theorem agree_allocW (h : Good s r) (h' : Good s' r) (t z : Int) : s.allocW t z = s'.allocW t z := by unfold St.allocW; rw [agree_allocE h h', agree_top h h']
theorem agree_after (h : Good s r) (h' : Good s' r) (t z : Int) : r.after s t z = r.after s' t z := by unfold RS.after RS.alloc; rw [agree_allocE h h', agree_top h h']
theorem agree_leadI (h : Good s r) (h' : Good s' r) (x : Int) : leadI s r x = leadI s' r x := by unfold leadI; rw [agree_find h h']
theorem agree_visit (h : Good s r) (h' : Good s' r) : visit s r = visit s' r := by funext G x; unfold visit; rw [agree_leadI h h']
theorem agree_reach (h : Good s r) (h' : Good s' r) (xs : List Int) : reachG s r xs = reachG s' r xs := by
  have e1 : visits s r = visits s' r := by funext G ys; unfold visits; rw [agree_visit h h']
  have e2 : scan1 s r = scan1 s' r := by funext G k; unfold scan1; rw [e1]
  unfold reachG scans; rw [e1, e2]
theorem agree_newW (h : Good s r) (h' : Good s' r) (B : Nat) (G : List Nat) : newW s r B G = newW s' r B G := by funext x; unfold newW; rw [agree_leadI h h', agree_find h h']
theorem agree_collR (h : Good s r) (h' : Good s' r) (xs : List Int) : collR s r xs = collR s' r xs := by
  have e1 : newB s r = newB s' r := by funext B G k; unfold newB; rw [agree_newW h h']
  unfold collR; rw [e1, agree_reach h h']
theorem agree_collW (h : Good s r) (h' : Good s' r) (xs : List Int) (x : Int) : collW s r xs x = collW s' r xs x := by unfold collW; rw [agree_newW h h', agree_reach h h']
end
/-- A state whose blocks are those. -/
noncomputable def pick (r : RS) : St := by
  classical
  exact if h : ∃ s, Good s r then h.choose else ⟨0, 0, 0, fun _ => 0, fun _ => false⟩
theorem pick_good {s : St} {r : RS} (h : Good s r) : Good (pick r) r := by
  have hx : ∃ s, Good s r := ⟨s, h⟩
  unfold pick
  rw [dif_pos hx]
  exact hx.choose_spec
/-- What a field is made. -/
noncomputable def RS.setR (r : RS) (x i v : Int) : RS := if (pick r).fieldE x i = 0 then (match leadI (pick r) r x with | none => r | some k => r.put k (blkAt r k) i.toNat v) else r
theorem put_rep {s : St} {r : RS} (h : Good s r) (x i v : Int) : Rep (s.put x i v) (r.setR x i v) := by
  unfold RS.setR
  rw [← agree_fieldE h (pick_good h), ← agree_leadI h (pick_good h)]
  by_cases g : s.fieldE x i = 0
  · obtain ⟨k, b, u, hb, e, i0, hl, _, hk⟩ := field_is h g
    rw [if_pos g, hk]
    have hbk : blkAt r k = b := by unfold blkAt; rw [List.getD_eq_getElem?_getD, hb]; rfl
    have ei : ((i.toNat : Nat) : Int) = i := by omega
    have := (rep_put (v := v) (i := i.toNat) h.rep hb e hl).2
    rw [ei] at this
    show Rep _ (r.put k (blkAt r k) i.toNat v)
    rw [hbk]; exact this
  · rw [if_neg g]
    have : s.put x i v = s := by unfold St.put; rw [if_neg g]
    rw [this]; exact h.rep
end Go.Proofs.Ytcbgjkedmboifab

/-
  A block with other fields, some of one row, some of another; one state has one list of blocks. Plain.
-/
namespace Go.Proofs.Ytcbgjkedmboifab
open Go.ChangeShapes Go.WideShapes Go.ChangeAt Go.RowKit Go.Deep
set_option linter.unusedVariables false
set_option maxHeartbeats 1000000

/-- Block k holds other fields. -/
def RS.withF (r : RS) (k : Nat) (b : Blk) (G : List Int) : RS := ⟨r.n, r.which, r.L.set k ⟨b.ad, b.tag, G⟩⟩
theorem withF_at {r : RS} {k : Nat} (hk : k < r.L.length) (b : Blk) (G : List Int) : (r.withF k b G).L[k]? = some ⟨b.ad, b.tag, G⟩ := by
  show (r.L.set k _)[k]? = _
  rw [List.getElem?_set_self hk]
theorem withF_self {r : RS} {k : Nat} {b : Blk} (hk : r.L[k]? = some b) : r.withF k b b.F = r := by
  obtain ⟨hl, e⟩ := List.getElem?_eq_some_iff.1 hk
  unfold RS.withF
  have : r.L.set k ⟨b.ad, b.tag, b.F⟩ = r.L := by
    show r.L.set k b = r.L
    rw [← e, List.set_getElem_self]
  rw [this]
theorem withF_len (r : RS) (k : Nat) (b : Blk) (G : List Int) : (r.withF k b G).L.length = r.L.length := by show (r.L.set k _).length = _; rw [List.length_set]
theorem withF_put (r : RS) (k : Nat) (b : Blk) (G : List Int) (j : Nat) (v : Int) : (r.withF k b G).put k ⟨b.ad, b.tag, G⟩ j v = r.withF k b (G.set j v) := by
  unfold RS.put RS.withF
  simp
/-- The first j words of one row, the others of another one. -/
def mixG (f F : List Int) (j : Nat) : List Int := f.take j ++ F.drop j
theorem mixG_zero (f F : List Int) : mixG f F 0 = F := by unfold mixG; simp
theorem mixG_all {f F : List Int} (h : f.length = F.length) : mixG f F F.length = f := by unfold mixG; rw [List.drop_length, List.append_nil, ← h, List.take_length]
theorem mixG_len {f F : List Int} (h : f.length = F.length) (j : Nat) : (mixG f F j).length = F.length := by unfold mixG; simp; omega
theorem mixG_set {f F : List Int} (h : f.length = F.length) {j : Nat} (hj : j < F.length) : (mixG f F j).set j (f.getD j 0) = mixG f F (j + 1) := by
  unfold mixG
  have h1 : (f.take j).length = j := by rw [List.length_take]; omega
  have hf : j < f.length := by omega
  have e1 : F.drop j = F[j] :: F.drop (j + 1) := List.drop_eq_getElem_cons hj
  have e2 : f.take (j + 1) = f.take j ++ [f[j]] := by rw [List.take_add_one, List.getElem?_eq_getElem hf]; rfl
  have e3 : f.getD j 0 = f[j] := by rw [List.getD_eq_getElem?_getD, List.getElem?_eq_getElem hf]; rfl
  rw [List.set_append_right _ _ (by omega), h1, Nat.sub_self, e1, e2, e3, List.set_cons_zero, List.append_assoc]
  rfl
theorem good_unique {s : St} {r r' : RS} (gp : Good s r) (hr : Rep s r') : r' = r := by
  have t2 := gp.t2
  have n2 := gp.n2
  have n1 := gp.n1
  have hb := gp.rep.base
  have hw := gp.rep.wh
  have hn := gp.rep.n
  have hb2 : s.base ≤ s.n := by
    rcases Nat.le_one_iff_eq_zero_or_eq_one.1 hw with e | e
    · rw [hb, e]; simp
    · rw [hb, e, hn]; simp
  exact rep_unique hr gp.rep (by omega) (by omega)
end Go.Proofs.Ytcbgjkedmboifab
