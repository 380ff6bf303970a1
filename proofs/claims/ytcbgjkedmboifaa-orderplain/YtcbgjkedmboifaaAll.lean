/-
  Several texts in one; each tells at its head what it proves, and on what condition. The last one: whatever is handed to OrderPlain, it returns true. No condition.
-/
import Derived.Test.YtcbgjkedmboifaaL6Awake
import Derived.Test.YtcbgjkedmboifaaO6Cmp
import Derived.Test.YtcbgjkedmboifaaRows
import Derived.WalkKit
import Derived.ProofKit
import Derived.OpenShut
import Derived.ShutString
import Derived.ChangeOld
import Derived.Below

/-
  Layer 6: where a statement is: its Values' own copies, and the layer, behind some lays. Condition: the Values lie in memory.
-/
namespace Go.Proofs.Ytcbgjkedmboifaa
open Go.ChangeShapes Go.WideShapes Go.ChangeAt Go.RowKit Go.Deep
set_option linter.unusedVariables false
set_option maxHeartbeats 1000000

variable {w w' w0 w1 w2 : World} {lb : Nat} {p : Pl} {rb : Nat} {s : St} {r : RS} {had : List Int} {left : Int} {O : Nat → Prop} {j : Nat}
theorem VOk.below (k : Below w.heap.size w w') : ∀ (d : Nat) {cs : List Value}, VOk w d cs → VOk w' d cs
  | 0, _, _ => trivial
  | d + 1, cs, h => by
    obtain ⟨k', n, s, al, len, cap, h1, h2, h3, h4, h5, h6⟩ := h
    refine ⟨k', n, s, al, len, cap, h1, h2, h3, h4, h5, fun i hi => ?_⟩
    obtain ⟨a, c0, c1, c2, c3, q1, q2, q3, q4, q5, q6⟩ := h6 i hi
    have hc : ∀ {x : Addr} {v : Value}, w.cell? x = some v → w'.cell? x = some v := fun {x v} hx => (k.cell (p := x) (cell_lt hx)).trans hx
    exact ⟨a, c0, c1, c2, c3, q1, hc q2, hc q3, hc q4, hc q5, VOk.below k d q6⟩
/-- The layer lies there, made since w0, behind j lays. -/
structure LawIn (w0 w1 : World) (lb : Nat) (p : Pl) (rb : Nat) (s : St) (r : RS) (j : Nat) : Prop where
  ex : ∃ had left O, LaidIn w1 lb p rb s r had left O ∧ (∀ q, O q → w0.heap.size ≤ q) ∧ left ≤ 200 ∧ -7800 - (j : Int) ≤ phi left ∧ had.length + left.toNat ≤ 200
  below : Below w0.heap.size w0 w1
  p40 : P40 r
theorem LawIn.under (h : LawIn w0 w1 lb p rb s r j) (k : Below w1.heap.size w1 w2) : LawIn w0 w2 lb p rb s r j := by
  obtain ⟨had, left, O, h1, h2⟩ := h.ex
  exact ⟨⟨had, left, O, h1.under k, h2⟩, h.below.trans (k.mono h.below.size), h.p40⟩
theorem LawIn.ar (h : LawIn w0 w1 lb p rb s r j) : Ar w1 p s := by
  obtain ⟨had, left, O, h1, h2⟩ := h.ex
  exact (laid_rep h1).1
theorem LawIn.rep (h : LawIn w0 w1 lb p rb s r j) : Rep s r := by
  obtain ⟨had, left, O, h1, h2⟩ := h.ex
  exact (laid_rep h1).2
theorem LawIn.both (h : LawIn w0 w1 lb p rb s r j) : ∃ a cap V, Both w1 p s rb r a cap V := by
  obtain ⟨had, left, O, ⟨a, cap, V, hv, _, h2, _⟩, _⟩ := h.ex
  exact ⟨a, cap, V, h2.bo⟩
theorem LawIn.c0 (h : LawIn w0 w1 lb p rb s r j) : w1.cell? ⟨lb, 0, none⟩ = some (.pointer (some ⟨p.a, 0, none⟩)) := by
  obtain ⟨had, left, O, h1, h2⟩ := h.ex
  exact h1.cells.1
theorem LawIn.c1 (h : LawIn w0 w1 lb p rb s r j) : w1.cell? ⟨lb, 1, none⟩ = some (.pointer (some ⟨rb, 0, none⟩)) := by
  obtain ⟨had, left, O, h1, h2⟩ := h.ex
  exact h1.cells.2.1
theorem begin_law (w0 w1 : World) (hb : Below w0.heap.size w0 w1) : Calls Try.prog 10 #[] w1 fun e w2 => ∃ lb p rb, e = .returned (.pointer (some ⟨lb, 0, none⟩)) ∧ LawIn w0 w2 lb p rb (St.new 4000) ⟨4000, 0, []⟩ 0 := by
  refine (begin_any w1).mono ?_
  rintro e w2 ⟨lb, p, rb, O, rfl, h1, h2, h3⟩
  exact ⟨lb, p, rb, rfl, ⟨[], 200, O, h1, fun q hq => Nat.le_trans hb.size (h2 q hq), by omega, by decide, by decide⟩, hb.trans (h3.mono hb.size), fun b hb => by cases hb⟩
theorem lay_law {c0 c1 c2 c3 : Value} (w1 : World) (h : LawIn w0 w1 lb p rb s r j) (hv : VOk w0 201 [c0, c1, c2, c3]) (hj : j ≤ 100) :
    Calls Try.prog 11 #[.pointer (some ⟨lb, 0, none⟩), .agg #[c0, c1, c2, c3]] w1 fun e w2 => ∃ x s' r', e = .returned (.int .u64 x) ∧ R64 x ∧ LawIn w0 w2 lb p rb s' r' (j + 1) := by
  obtain ⟨had, left, O, h1, h2, h3, h4, h5⟩ := h.ex
  have ha : Apart w0 (fun q => q < w0.heap.size) w1 O := fun q hq => ⟨h.below.block q hq, fun c => by have := h2 q c; omega, Nat.lt_of_lt_of_le hq h.below.size⟩
  refine (lay_any 200 (by omega) h1 (by omega) (by omega) (by omega) h.p40 (vq_of 201 hv) ha).mono ?_
  rintro e w2 ⟨x, s', r', had', left', O', q1, q2, q3, q4, q5, q6, q7, q8⟩
  exact ⟨x, s', r', q1, q2, ⟨had', left', O', q3, q4.ge h.below.size h2, by omega, by omega, by omega⟩, h.below.trans (q4.below h.below.size h2), q5⟩
/-- A Value's own copy. -/
def BoxAt (w : World) (q : Nat) (k n : Int) (b : ByteArray) (al : Option Addr) (len cap : Nat) : Prop := w.heap[q]? = some (.cells #[.int .i64 k, .int .i64 n, .string b, .slice al len cap] 24 (0, 0))
theorem BoxAt.cells {q : Nat} {k n : Int} {b : ByteArray} {al : Option Addr} {len cap : Nat} (h : BoxAt w0 q k n b al len cap) (hb : Below w0.heap.size w0 w1) : w1.cell? ⟨q, 0, none⟩ = some (.int .i64 k) ∧ w1.cell? ⟨q, 1, none⟩ = some (.int .i64 n) ∧ w1.cell? ⟨q, 2, none⟩ = some (.string b) ∧ w1.cell? ⟨q, 3, none⟩ = some (.slice al len cap) := by
  have h1 := (hb.block q (lt_of_some h)).trans h
  simp [World.cell?, h1]
theorem box_one (w : World) (k n : Int) (b : ByteArray) (al : Option Addr) (len cap : Nat) : BoxAt (w.alloc (.cells #[.int .i64 k, .int .i64 n, .string b, .slice al len cap] 24)) w.heap.size k n b al len cap := blk_alloc_new _ _
theorem BoxAt.alloc {q : Nat} {k n : Int} {b : ByteArray} {al : Option Addr} {len cap : Nat} (h : BoxAt w q k n b al len cap) (o : Obj) : BoxAt (w.alloc o) q k n b al len cap := (blk_alloc_lt _ o _ (lt_of_some h)).trans h
theorem below_alloc (w : World) (o : Obj) : Below w.heap.size w (w.alloc o) := (Below.refl _ _).alloc (Nat.le_refl _) o
/-- Who is less is told by -1, 0 or 1. -/
theorem goC_three (nd : Int → Nd) (room : Int) : ∀ (k : Nat) (ws : List (Int × Int)), (goC nd room k ws).1 = -1 ∨ (goC nd room k ws).1 = 0 ∨ (goC nd room k ws).1 = 1
  | 0, [] => Or.inr (Or.inl rfl)
  | _ + 1, [] => Or.inr (Or.inl rfl)
  | 0, _ :: _ => Or.inr (Or.inl rfl)
  | k + 1, (x, y) :: ws => by
    rw [goC]
    split
    · exact Or.inr (Or.inl rfl)
    · split
      · have : ∀ x y, (pairOut nd x y).2.1 = -1 ∨ (pairOut nd x y).2.1 = 0 ∨ (pairOut nd x y).2.1 = 1 := fun x y => by
          unfold pairOut
          split
          · exact Or.inr (Or.inl rfl)
          · split
            · exact Or.inr (Or.inl rfl)
            · split
              · exact Or.inr (Or.inl rfl)
              · exact sgnL_three _ _
        exact this x y
      · split
        · exact Or.inr (Or.inl rfl)
        · exact goC_three nd room k _
theorem cmpC_three (nd : Int → Nd) (x y room steps : Int) : (cmpC nd x y room steps).1 = -1 ∨ (cmpC nd x y room steps).1 = 0 ∨ (cmpC nd x y room steps).1 = 1 := by
  unfold cmpC
  split
  · exact Or.inr (Or.inl rfl)
  · exact goC_three nd room _ _
/-- What was compared is plain. -/
theorem cmpC_plain {nd : Int → Nd} {x y room steps : Int} (hr : ¬ room < 2) (hs : 0 < steps) (h : (cmpC nd x y room steps).2.2 = 0) : (nd x).wrong = 0 ∧ (nd y).wrong = 0 := by
  unfold cmpC at h
  rw [if_neg hr] at h
  obtain ⟨k, hk⟩ : ∃ k, steps.toNat = k + 1 := ⟨steps.toNat - 1, by omega⟩
  rw [hk, goC] at h
  by_cases c : (pairOut nd x y).1 ≠ 0
  · rw [if_pos c] at h; exact absurd h c
  · exact pair_ok (Classical.byContradiction c)
end Go.Proofs.Ytcbgjkedmboifaa

/-
  Layer 6, plain: one hash for what does not differ; a hash has 30 bits; and the document's own Compare and Hash over the layer. Condition: the layer lies in memory.
-/
namespace Go.Proofs.Ytcbgjkedmboifaa
open Go.ChangeShapes Go.WideShapes Go.ChangeAt Go.RowKit Go.Deep
set_option linter.unusedVariables false
set_option maxHeartbeats 1000000

variable {w w' w0 w1 w2 : World} {lb : Nat} {p : Pl} {rb : Nat} {s : St} {r : RS} {j : Nat}
theorem hashC_same {nd : Int → Nd} {x y room steps S R : Int} (h : cmpC nd x y room steps = (0, S, 0)) : hashC nd x R = hashC nd y R := by
  have ha : Alike nd x y := cmpC_alike (by rw [h]) (by rw [h])
  have e := goH_alike nd mixW R 24 [x] [y] (intW 7) ⟨ha, trivial⟩
  unfold hashC
  rw [e]
theorem and_rng (a : Int) : 0 ≤ numW (intW (andN a (numW (intW 1073741823)))) ∧ numW (intW (andN a (numW (intW 1073741823)))) < 1073741824 := by
  have e : lowN (numW (intW 1073741823)) = 1073741823 := by decide
  have h1 : (lowN a &&& lowN (numW (intW 1073741823))) ≤ 1073741823 := by rw [e]; exact Nat.and_le_right
  unfold andN
  generalize (lowN a &&& lowN (numW (intW 1073741823))) = m at *
  unfold numW intW
  split <;> omega
theorem hashC_rng {nd : Int → Nd} {x room H G : Int} (h : hashC nd x room = (H, G)) : R64 H ∧ (G = 0 → 0 ≤ numW H) ∧ (G = 0 → numW H < 1073741824) := by
  unfold hashC at h
  split at h
  · simp only [Prod.mk.injEq] at h
    obtain ⟨rfl, rfl⟩ := h
    have e : ∀ a b, doV 6 a b = intW (andN (numW a) (numW b)) := fun a b => by simp [doV]
    rw [e]
    exact ⟨intW_rng _, fun _ => (and_rng _).1, fun _ => (and_rng _).2⟩
  · rename_i hn
    simp only [Prod.mk.injEq] at h
    obtain ⟨rfl, rfl⟩ := h
    exact ⟨⟨by decide, by decide⟩, fun c => absurd c hn, fun c => absurd c hn⟩
theorem rnum_is (x a : Int) (w : World) (h : 0 ≤ x) (h' : x ≤ 18446744073709551615) (e : numW x = a) : Calls Try.prog 16 #[.int .u64 x] w fun e w' => e = .returned (.int .i64 a) ∧ w' = w := by
  subst e; exact rnum_any x w h h'
theorem rhash_is {a b : Int} (x room : Int) (w1 : World) (h : LawIn w0 w1 lb p rb s r j) (x0 : 0 ≤ x) (x1 : x ≤ 18446744073709551615) (e : hashC (ndW s r) x room = (a, b)) :
    Calls Try.prog 15 #[.pointer (some ⟨rb, 0, none⟩), .int .u64 x, .int .i64 room] w1 fun e w' => e = .returned (.tuple #[.int .u64 a, .int .i64 b]) ∧ Below w1.heap.size w1 w' := by
  obtain ⟨aa, cap, V, hb⟩ := h.both
  have := rhash_any x room w1 hb x0 x1
  rw [e] at this
  exact this
theorem rcompare_is {a b c : Int} (x y room steps : Int) (w1 : World) (h : LawIn w0 w1 lb p rb s r j) (x0 : 0 ≤ x) (x1 : x ≤ 18446744073709551615) (y0 : 0 ≤ y) (y1 : y ≤ 18446744073709551615) (hs : steps ≤ 10000) (e : cmpC (ndW s r) x y room steps = (a, b, c)) :
    Calls Try.prog 13 #[.pointer (some ⟨rb, 0, none⟩), .int .u64 x, .int .u64 y, .int .i64 room, .int .i64 steps] w1 fun e w' => e = .returned (.tuple #[.int .i64 a, .int .i64 b, .int .i64 c]) ∧ Below w1.heap.size w1 w' := by
  obtain ⟨aa, cap, V, hb⟩ := h.both
  have := rcompare_any x y room steps w1 hb x0 x1 y0 y1 hs
  rw [e] at this
  exact this
end Go.Proofs.Ytcbgjkedmboifaa

/-
  OrderPlain: numbers and texts are in their own order. No condition.
-/
namespace Go.Proofs.Ytcbgjkedmboifaa
open Go.ChangeShapes Go.WideShapes Go.ChangeAt Go.RowKit Go.Deep
set_option linter.unusedVariables false
set_option maxHeartbeats 1000000

variable {w w' : World} {lb : Nat} {p : Pl} {rb : Nat} {s : St} {r : RS} {had : List Int} {left : Int} {O : Nat → Prop}
theorem text_nd (h : Rep s r) {k : Nat} {b : Blk} {l : List UInt8} (hk : r.L[k]? = some b) (hb : b.tag = 202) (hF : b.F = fieldsT l) (hx : (b.ad : Int) ≤ 65536) : ndW s r (2 * (b.ad : Int)) = .txt (bytesI l) := by
  have hin := h.inside hk
  have ha : (b.ad : Int) = addrW (2 * (b.ad : Int)) := by unfold addrW; rw [if_neg (by omega)]; omega
  have hf := h.find_blk' hk ha
  have hl := leadI_some h hk (x := 2 * (b.ad : Int)) (by rw [hf])
  have hbk : blkAt r k = b := by unfold blkAt; rw [List.getD_eq_getElem?_getD, hk]; rfl
  unfold ndW
  rw [if_neg (by unfold isIntW; simp), hl]
  simp only [hbk]
  unfold ndB
  rw [hf, hb, if_neg (by decide), if_neg (Int.lt_irrefl 0), if_pos rfl, hF, read_fields]
/-- One step. -/
theorem cmp_one {nd : Int → Nd} {x y room n : Int} (hr : ¬ room < 2) (h : (pairOut nd x y).1 = 0 ∧ (pairOut nd x y).2.1 = n ∧ (n = 0 → pairOut nd x y = (0, 0, []))) : cmpC nd x y room 1 = (n, 1, 0) := by
  unfold cmpC
  rw [if_neg hr]
  show goC nd room (0 + 1) [(x, y)] = _
  by_cases hn : n = 0
  · rw [goC_next (h.2.2 hn) (fun c => absurd rfl c), hn]; rfl
  · rw [goC_dec h.1 h.2.1 hn]
theorem alloc_text {z : Nat} (hb : s.base = 0) (hn : s.n = 4000) (ht : s.top + z + 1 ≤ 4000) : s.allocE 202 z = 0 := by
  unfold St.allocE
  rw [if_neg (by decide), if_neg (by omega), if_neg (by omega)]
theorem txt6_short {b : ByteArray} (h : b.size ≤ 100) : txt6 b = bytesS b := by unfold txt6; rw [List.take_of_length_le (by rw [bytesS_len]; exact h)]
theorem lay_text {e1 : Option Addr} {x : Int} (b : ByteArray) (w : World) (h : LaidIn w lb p rb s r had left O) (hl : 0 < left) (hl2 : left ≤ 1000000) (hb : b.size ≤ 100) (hh : had.length ≤ 100000) (hbase : s.base = 0) (hn : s.n = 4000) (ht : s.top + 14 ≤ 4000) (hx : 2 * ((s.top : Int) + 1) = x) :
    Calls Try.prog 11 #[.pointer (some ⟨lb, 0, none⟩), .agg #[.int .i64 1, .int .i64 0, .string b, .slice none 0 0]] w fun e w' => e = .returned (.int .u64 x) ∧ ∃ s' O', LaidIn w' lb p rb s' (r.more s 202 (fieldsT (bytesS b))) (had ++ [x]) (left - 1) O' ∧ Grows O O' w w' := by
  have hE : s.allocE 202 (fieldsT (txt6 b)).length = 0 := alloc_text hbase hn (by rw [fieldsT_len, txt6_short hb, bytesS_len]; omega)
  refine (lay_txt w h hl hl2 rfl (by unfold maxLen; omega) hh).mono ?_
  rintro e w' (⟨q1, _⟩ | ⟨q1, q2, s', O', q3, q4⟩)
  · exact absurd hE q1
  · rw [hx] at q2 q3
    rw [txt6_short hb] at q3
    exact ⟨q2, s', O', q3, q4⟩
set_option maxRecDepth 100000 in
set_option maxHeartbeats 20000000 in
theorem plain_long (n m : Int) (a b : ByteArray) (w : World) (ha : a.size ≤ maxLen) (hb : b.size ≤ maxLen) (h : 100 < a.size ∨ 100 < b.size) :
    Calls Try.prog 8 #[.int .i64 n, .int .i64 m, .string a, .string b] w fun e w' => e = .returned (.bool true) ∧ Below w.heap.size w w' := by
  have ha2 : (a.size : Int) ≤ 9223372036854775807 := by unfold maxLen at ha; omega
  have hb2 : (b.size : Int) ≤ 9223372036854775807 := by unfold maxLen at hb; omega
  by_cases h1 : 100 < a.size
  · have h2 : (100 : Int) < (a.size : Int) := by omega
    go_enter Try.func8, Try.ntmps8
    go_wp2_with (go_at_call 9; refine (awake_any _).mono ?_; rintro e w1 ⟨rfl, hb1⟩; have B1 := hidden hb1; clear hb1)
    all_goals go_ret
    all_goals exact ⟨rfl, B1.out⟩
  · have h2 : ¬ (100 : Int) < (a.size : Int) := by omega
    have h3 : (100 : Int) < (b.size : Int) := by omega
    go_enter Try.func8, Try.ntmps8
    go_wp2_with (go_at_call 9; refine (awake_any _).mono ?_; rintro e w1 ⟨rfl, hb1⟩; have B1 := hidden hb1; clear hb1)
    all_goals go_ret
    all_goals exact ⟨rfl, B1.out⟩
theorem more_T (F : List Int) : (⟨4000, 0, []⟩ : RS).more (St.new 4000) 202 F = (⟨4000, 0, [⟨1, 202, F⟩]⟩ : RS) := rfl
theorem lenB_one (ad : Nat) (t : Int) (F : List Int) : lenB [⟨ad, t, F⟩] = F.length + 1 := by unfold lenB lenB; show 1 + F.length + 0 = _; omega
/-- The state behind the two texts. -/
theorem two_texts {s1 s2 : St} {z1 : Nat} {a b : ByteArray} (h1 : Rep s1 (⟨4000, 0, [⟨1, 202, fieldsT (bytesS a)⟩]⟩ : RS)) (h2 : Rep s2 ((⟨4000, 0, [⟨1, 202, fieldsT (bytesS a)⟩]⟩ : RS).more s1 202 (fieldsT (bytesS b)))) (ha : a.size ≤ 100) (hz : s1.top = z1) :
    z1 = (fieldsT (bytesS a)).length + 1 ∧ ndW s2 ((⟨4000, 0, [⟨1, 202, fieldsT (bytesS a)⟩]⟩ : RS).more s1 202 (fieldsT (bytesS b))) 2 = .txt (intsS a) ∧ ndW s2 ((⟨4000, 0, [⟨1, 202, fieldsT (bytesS a)⟩]⟩ : RS).more s1 202 (fieldsT (bytesS b))) (2 * ((z1 : Int) + 1)) = .txt (intsS b) := by
  have htop := h1.top
  have hbase := h1.base
  have hb0 : s1.base = 0 := by rw [hbase]; rfl
  have hl : lenB (⟨4000, 0, [⟨1, 202, fieldsT (bytesS a)⟩]⟩ : RS).L = (fieldsT (bytesS a)).length + 1 := lenB_one _ _ _
  have ez : z1 = (fieldsT (bytesS a)).length + 1 := by omega
  have hlen : (fieldsT (bytesS a)).length ≤ 13 := by rw [fieldsT_len, bytesS_len]; omega
  refine ⟨ez, ?_, ?_⟩
  · exact text_nd h2 (k := 0) (b := ⟨1, 202, fieldsT (bytesS a)⟩) rfl rfl rfl (by show (1 : Int) ≤ 65536; decide)
  · have := text_nd h2 (k := 1) (b := ⟨s1.top + 1, 202, fieldsT (bytesS b)⟩) rfl rfl rfl (by show ((s1.top + 1 : Nat) : Int) ≤ _; omega)
    have e : (2 * (((⟨s1.top + 1, 202, fieldsT (bytesS b)⟩ : Blk).ad : Nat) : Int)) = 2 * ((z1 : Int) + 1) := by show 2 * ((s1.top + 1 : Nat) : Int) = _; rw [hz]; omega
    rw [e] at this
    exact this
set_option maxRecDepth 100000 in
set_option maxHeartbeats 20000000 in
theorem plain_short (n m : Int) (a b : ByteArray) (w : World) (n0 : -9223372036854775808 ≤ n) (n1 : n ≤ 9223372036854775807) (m0 : -9223372036854775808 ≤ m) (m1 : m ≤ 9223372036854775807) (ha : a.size ≤ 100) (hb : b.size ≤ 100) :
    Calls Try.prog 8 #[.int .i64 n, .int .i64 m, .string a, .string b] w fun e w' => e = .returned (.bool true) ∧ Below w.heap.size w w' := by
  have z1 : ¬ (100 : Int) < (a.size : Int) := by omega
  have z2 : ¬ (100 : Int) < (b.size : Int) := by omega
  have HSA := hidden ha
  have HSB := hidden hb
  clear ha hb
  go_enter Try.func8, Try.ntmps8
  go_upto_region 6 with (first
    | (go_at_call 9; refine (awake_any _).mono ?_; rintro e w1 ⟨rfl, hb1⟩; have B1 := hidden hb1; clear hb1)
    | (go_at_call 10; refine (begin_any _).mono ?_; rintro e w2 ⟨lb, p, rb, O, rfl, h2, ho2, hb2⟩; have H2 := hidden h2; have HO2 : Hid (∀ q, O q → w.heap.size ≤ q) := fun q hq => Nat.le_trans B1.out.size (ho2 q hq); have B2 : Hid (Below w.heap.size w w2) := B1.out.trans (hb2.mono B1.out.size); clear h2 ho2 hb2))
  go_upto_region 7 with (go_at_call 11; refine (lay_text (e1 := none) (x := 2) a _ H2.out (by omega) (by omega) HSA.out (by simp) rfl rfl (by show 0 + 14 ≤ 4000; omega) rfl).mono ?_; rintro e w3 ⟨rfl, s3, O3, h3, g3⟩; have H3 := hidden h3; have G3 := hidden g3; clear h3 g3)
  rw [more_T] at H3
  have R3 : Rep s3 (⟨4000, 0, [⟨1, 202, fieldsT (bytesS a)⟩]⟩ : RS) := (laid_rep H3.out).2
  have hlen : (fieldsT (bytesS a)).length ≤ 13 := by rw [fieldsT_len, bytesS_len]; have := HSA.out; omega
  have hb3 : s3.base = 0 := by rw [R3.base]; rfl
  have hn3 : s3.n = 4000 := by rw [R3.n]
  have ht3 : s3.top = (fieldsT (bytesS a)).length + 1 := by rw [R3.top, hb3]; show 0 + lenB [⟨1, 202, fieldsT (bytesS a)⟩] = _; rw [lenB_one]; omega
  obtain ⟨Y, hY⟩ : ∃ Y, 2 * ((s3.top : Int) + 1) = Y := ⟨_, rfl⟩
  have Y0 : Hid (0 ≤ Y ∧ Y ≤ 18446744073709551615) := ⟨by omega, by omega⟩
  have YN : Hid ((2 : Int) ≠ Y) := by show _ ≠ _; omega
  have HS3 : Hid (s3.base = 0 ∧ s3.n = 4000 ∧ s3.top + 14 ≤ 4000) := ⟨hb3, hn3, by omega⟩
  have HY := hidden hY
  have HR3 := hidden R3
  clear R3 hlen hb3 hn3 ht3 hY H2
  go_upto_region 8 with (go_at_call 11; refine (lay_text (e1 := none) (x := Y) b _ H3.out (by omega) (by omega) HSB.out (by simp) HS3.out.1 HS3.out.2.1 HS3.out.2.2 HY.out).mono ?_; rintro e w4 ⟨rfl, s4, O4, h4, g4⟩; have H4 := hidden h4; have G4 := hidden g4; clear h4 g4)
  have R4 := hidden (laid_rep H4.out).2
  have A4 := hidden (laid_rep H4.out).1
  have B4 : Hid (Below w.heap.size w w4) := B2.out.trans ((G3.out.trans G4.out).below B2.out.size HO2.out)
  obtain ⟨_, nx, ny⟩ := two_texts (a := a) (b := b) HR3.out R4.out HSA.out rfl
  rw [HY.out] at ny
  have HC1 := hidden (cmp_one (room := 1048576) (by decide) (po_txt YN.out nx ny))
  have h3 := sgnL_three (intsS a) (intsS b)
  have HL : Hid (Go.Op.bytesLess a.toList b.toList = decide (sgnL (intsS a) (intsS b) = -1)) := by
    show _ = _
    rw [Go.ByteArray.toList_eq, Go.ByteArray.toList_eq]
    exact less_sgn _ _
  have HE : Hid ((a.toList == b.toList) = decide (sgnL (intsS a) (intsS b) = 0)) := by
    show _ = _
    rw [Go.ByteArray.toList_eq, Go.ByteArray.toList_eq]
    exact same_sgn _ _
  clear nx ny
  have HBB : Hid (∀ w5, Below w4.heap.size w4 w5 → w5.cell? ⟨lb, 0, none⟩ = some (.pointer (some ⟨p.a, 0, none⟩))) := fun w5 b5 => (H4.out.under b5).cells.1
  generalize (⟨4000, 0, [⟨1, 202, fieldsT (bytesS a)⟩]⟩ : RS).more s3 202 (fieldsT (bytesS b)) = r4 at *
  generalize sgnL (intsS a) (intsS b) = T at *
  have HC2 := hidden (cmp_one (room := 2) (by decide) (po_num (num_nd s4 r4 n) (num_nd s4 r4 m)))
  obtain ⟨i0, i1⟩ := intW_rng n
  obtain ⟨j0, j1⟩ := intW_rng m
  obtain ⟨NI, hNI⟩ : ∃ i, intW n = i := ⟨_, rfl⟩
  obtain ⟨MI, hMI⟩ : ∃ i, intW m = i := ⟨_, rfl⟩
  rw [hNI] at HC2 i0 i1
  rw [hMI] at HC2 j0 j1
  obtain ⟨NV, hNV⟩ : ∃ i, numW NI = i := ⟨_, rfl⟩
  obtain ⟨MV, hMV⟩ : ∃ i, numW MI = i := ⟨_, rfl⟩
  rw [hNV, hMV] at HC2
  have HNI := hidden hNI
  have HMI := hidden hMI
  have HNV := hidden hNV
  have HMV := hidden hMV
  clear hNI hMI hNV hMV H3 G3 G4 HR3 HS3 HSA HSB z1 z2
  have c0 := HBB.out _ (Below.refl _ _)
  go_upto_region 9 with (go_at_call 12; refine (compare_is 2 Y 1048576 1 _ A4.out R4.out (by omega) (by omega) Y0.out.1 Y0.out.2 (by omega) HC1.out).mono ?_; rintro e w5 ⟨rfl, hb5⟩; have B5 := hidden hb5; clear hb5)
  clear c0
  have e0 := HBB.out _ B5.out
  have B5d : Hid (Below w4.heap.size w4 w5.drew) := B5.out.trans ((below_drews _ 1).mono B5.out.size)
  obtain ⟨SG, hSG⟩ : ∃ t, sgn NV MV = t := ⟨_, rfl⟩
  rw [hSG] at HC2
  have HSG := hidden hSG
  clear hSG
  go_region_held3 (fun w' => w'.cell? ⟨lb, 0, none⟩ = some (.pointer (some ⟨p.a, 0, none⟩))) (go_keep) (first
    | (go_at_call 17; refine (rint_is _ _ (by first | with_reducible exact n0 | with_reducible exact m0) (by first | with_reducible exact n1 | with_reducible exact m1) (by first | with_reducible exact HNI.out | with_reducible exact HMI.out)).mono ?_; rintro e w' ⟨rfl, hw'⟩; rw [hw']; clear hw' w')
    | (go_at_call 12; refine (compare_is NI MI 2 1 _ (A4.out.under B5d.out) R4.out i0 i1 j0 j1 (by omega) HC2.out).mono ?_; rintro e w6 ⟨rfl, hb6⟩; have B6 : Hid (Below w4.heap.size w4 w6) := B5d.out.trans (hb6.mono B5d.out.size); have g0 := HBB.out _ B6.out; clear hb6))
  clear e0
  have BF : Hid (Below w.heap.size w w6) := B4.out.trans (B6.out.mono B4.out.size)
  clear B5 B5d g0 R4 A4 HC1 HC2
  go_upto_region 11 with (first
    | (go_at_call 17; refine (rint_is _ _ (by first | with_reducible exact n0 | with_reducible exact m0) (by first | with_reducible exact n1 | with_reducible exact m1) (by first | with_reducible exact HNI.out | with_reducible exact HMI.out)).mono ?_; rintro e w' ⟨rfl, hw'⟩; rw [hw']; clear hw' w')
    | (go_at_call 16; refine (rnum_is _ _ _ (by first | with_reducible exact i0 | with_reducible exact j0) (by first | with_reducible exact i1 | with_reducible exact j1) (by first | with_reducible exact HNV.out | with_reducible exact HMV.out)).mono ?_; rintro e w' ⟨rfl, hw'⟩; rw [hw']; clear hw' w'))
  have hS : (NV < MV ∧ SG = -1) ∨ (MV < NV ∧ SG = 1) ∨ (NV = MV ∧ SG = 0) := by
    have := HSG.out
    unfold sgn at this
    split at this
    · rename_i c; exact Or.inl ⟨c, this.symm⟩
    · split at this
      · rename_i c; exact Or.inr (Or.inl ⟨c, this.symm⟩)
      · exact Or.inr (Or.inr ⟨by omega, this.symm⟩)
  have HL1 := HL.out
  have HE1 := HE.out
  clear HL HE HSG HBB B6
  rcases h3 with rfl | rfl | rfl
  · have e1 : Go.Op.bytesLess a.toList b.toList = true := HL1
    have e2 : (a.toList == b.toList) = false := HE1
    clear HL1 HE1
    rcases hS with ⟨c, rfl⟩ | ⟨c, rfl⟩ | ⟨rfl, rfl⟩
    · have c2 : (NV == MV) = false := beq_eq_false_iff_ne.2 (by omega)
      go_wp2_with fail
      all_goals go_ret
      all_goals exact ⟨by simp, BF.out⟩
    · have c2 : (NV == MV) = false := beq_eq_false_iff_ne.2 (by omega)
      have c3 : ¬ NV < MV := by omega
      go_wp2_with fail
      all_goals go_ret
      all_goals exact ⟨by simp, BF.out⟩
    · go_wp2_with fail
      all_goals go_ret
      all_goals exact ⟨by simp, BF.out⟩
  · have e1 : Go.Op.bytesLess a.toList b.toList = false := HL1
    have e2 : (a.toList == b.toList) = true := HE1
    clear HL1 HE1
    rcases hS with ⟨c, rfl⟩ | ⟨c, rfl⟩ | ⟨rfl, rfl⟩
    · have c2 : (NV == MV) = false := beq_eq_false_iff_ne.2 (by omega)
      go_wp2_with fail
      all_goals go_ret
      all_goals exact ⟨by simp, BF.out⟩
    · have c2 : (NV == MV) = false := beq_eq_false_iff_ne.2 (by omega)
      have c3 : ¬ NV < MV := by omega
      go_wp2_with fail
      all_goals go_ret
      all_goals exact ⟨by simp, BF.out⟩
    · go_wp2_with fail
      all_goals go_ret
      all_goals exact ⟨by simp, BF.out⟩
  · have e1 : Go.Op.bytesLess a.toList b.toList = false := HL1
    have e2 : (a.toList == b.toList) = false := HE1
    clear HL1 HE1
    rcases hS with ⟨c, rfl⟩ | ⟨c, rfl⟩ | ⟨rfl, rfl⟩
    · have c2 : (NV == MV) = false := beq_eq_false_iff_ne.2 (by omega)
      go_wp2_with fail
      all_goals go_ret
      all_goals exact ⟨by simp, BF.out⟩
    · have c2 : (NV == MV) = false := beq_eq_false_iff_ne.2 (by omega)
      have c3 : ¬ NV < MV := by omega
      go_wp2_with fail
      all_goals go_ret
      all_goals exact ⟨by simp, BF.out⟩
    · go_wp2_with fail
      all_goals go_ret
      all_goals exact ⟨by simp, BF.out⟩
theorem plain_any (n m : Int) (a b : ByteArray) (w : World) (n0 : -9223372036854775808 ≤ n) (n1 : n ≤ 9223372036854775807) (m0 : -9223372036854775808 ≤ m) (m1 : m ≤ 9223372036854775807) (ha : a.size ≤ maxLen) (hb : b.size ≤ maxLen) :
    Calls Try.prog 8 #[.int .i64 n, .int .i64 m, .string a, .string b] w fun e w' => e = .returned (.bool true) ∧ Below w.heap.size w w' := by
  by_cases h : 100 < a.size ∨ 100 < b.size
  · exact plain_long n m a b w ha hb h
  · exact plain_short n m a b w n0 n1 m0 m1 (by omega) (by omega)
end Go.Proofs.Ytcbgjkedmboifaa

/-
  Proved: whatever two numbers and two texts are handed to OrderPlain, it returns true. No condition.
-/
namespace Go.Proofs.Ytcbgjkedmboifaa.orderPlain
open Go.ChangeShapes Go.WideShapes Go.ChangeAt Go.RowKit
open Go.ChangeMaps (open_string shut_string)
set_option linter.unusedVariables false

theorem own : ownKnob Try.prog.godebug = none := by kernel_rfl
theorem laidOut : laidOutB Try.prog = true := by kernel_rfl

theorem walk (a0 : Int) (a1 : Int) (a2 : ByteArray) (a3 : ByteArray) (w : World) (w0 : (Lit.int .i64 a0).wf = true) (w1 : (Lit.int .i64 a1).wf = true) (w2 : a2.size ≤ maxLen) (w3 : a3.size ≤ maxLen) :
    Calls Try.prog 8 #[.int .i64 a0, .int .i64 a1, .string a2, .string a3] w fun e w' => e = .returned (.bool true) ∧ Below w.heap.size w w' := by
  exact plain_any a0 a1 a2 a3 w (bounds_i64 w0).1 (bounds_i64 w0).2 (bounds_i64 w1).1 (bounds_i64 w1).2 w2 w3

set_option maxRecDepth 100000 in
theorem lifted (os : Os) (started : os.Started) (H : Type) (enc : TypeId × Value → H) :
    ReturnsInHanded {} Try.checked os 8 .any (Rows.orderPlainSpec.pre6 enc Try.prog Try.f8 Rows.orderPlainRow.domain false) (Rows.orderPlainSpec.post enc Try.prog Try.f8 false true false false) := by
  refine returnsInHanded_of_change (C := Try.checked) own started (by kernel_rfl) Try.func8
    (ChangeSpec.witness6 (enc := enc) (C := Try.checked) false ⟨#[], #[.int .i64 0, .int .i64 0, .string ByteArray.empty, .string ByteArray.empty], []⟩ 8 (by kernel_rfl) (by kernel_rfl) (by kernel_rfl) (by kernel_rfl)) ?_
  intro W base args ds gs before hval0 hW hcnd _
  have hval : ∀ (j : Nat) t v, Try.f8.params[j]? = some t → args[j]? = some v → Value.okWide Try.prog W .any base t v := hval0
  have hW' := hW
  obtain ⟨p, q, hA0, hV, rfl, hfz, hnd⟩ := hW
  have hA : DataW.TrodAll enc Try.prog W 0 (fun _ => true) true Try.f8.params.toList args.toList ds p := hA0
  rw [Try.params8] at hA hval
  obtain ⟨v0, vs0, d0, ds0, p0, q0, hargs, rfl, rfl, h0, r0⟩ := trodAll_cons hA
  obtain ⟨v1, vs1, d1, ds1, p1, q1, rfl, rfl, rfl, h1, r1⟩ := trodAll_cons r0
  obtain ⟨v2, vs2, d2, ds2, p2, q2, rfl, rfl, rfl, h2, r2⟩ := trodAll_cons r1
  obtain ⟨v3, vs3, d3, ds3, p3, q3, rfl, rfl, rfl, h3, r3⟩ := trodAll_cons r2
  obtain ⟨rfl, rfl, rfl⟩ := trodAll_nil r3
  obtain rfl : args = #[v0, v1, v2, v3] := by cases args; simp_all
  obtain ⟨rfl, rfl⟩ := trodVars_none hV
  obtain ⟨a0, rfl, rfl, rfl, w0⟩ := open_int Try.underlying2 (hval 0 2 v0 rfl rfl) h0
  obtain ⟨a1, rfl, rfl, rfl, w1⟩ := open_int Try.underlying2 (hval 1 2 v1 rfl rfl) h1
  obtain ⟨a2, rfl, rfl, rfl, w2⟩ := open_string Try.underlying9 (hval 2 9 v2 rfl rfl) h2
  obtain ⟨a3, rfl, rfl, rfl, w3⟩ := open_string Try.underlying9 (hval 3 9 v3 rfl rfl) h3
  clear hA0 hval0
  refine (walk a0 a1 a2 a3 W w0 w1 w2 w3).mono fun e W' ⟨he, bel⟩ => ?_
  subst he
  exact ⟨_, rfl, _, _, _, [], _, [], hW', trodAll_mk1 (shut_bool Try.underlying4 _), (trodAll_cons_mk (shut_int Try.underlying2 w0) (trodAll_cons_mk (shut_int Try.underlying2 w1) (trodAll_cons_mk (shut_string Try.underlying9 w2) (trodAll_cons_mk (shut_string Try.underlying9 w3) trodAll_mk0)))), rfl, bel.frame _, fun h => by cases h⟩

theorem over : Rows.orderPlainRow.holds Try.pinned (OpenSpec.ofChange Rows.orderPlainSpec) :=
  OpenClaim.holds_of_wide 8 Try.f8 rfl rfl rfl rfl rfl rfl rfl ⟨rfl, rfl, rfl, rfl, rfl⟩ rfl rfl rfl rfl rfl (by kernel_rfl) Try.func8 (by kernel_rfl)
    (of_decide_eq_true (by kernel_rfl)) (by unfold Func.isWrapper; first | (rw [if_pos (by decide +kernel)]; kernel_rfl) | (rw [if_neg (by decide +kernel)]; exact ⟨rfl, rfl⟩))
    (fun os started H enc _ => lifted os started H enc)
theorem proved : Rows.OrderPlainSaid := over
end Go.Proofs.Ytcbgjkedmboifaa.orderPlain

namespace Go.Proofs.Ytcbgjkedmboifaa
/-- The statement. -/
theorem orderPlain_holds : Rows.OrderPlainSaid := orderPlain.proved
#print axioms orderPlain_holds
end Go.Proofs.Ytcbgjkedmboifaa
