/-
  Several texts in one; each tells at its head what it proves, and on what condition. The last one: whatever is handed to OrderCompares, it returns true. No condition.
-/
import Derived.Test.YtcbgjkedmboifaaL6Awake
import Derived.Test.YtcbgjkedmboifaaO6Cmp
import Derived.Test.YtcbgjkedmboifaaRows
import Derived.WalkKit
import Derived.ProofKit
import Derived.OpenShut
import Derived.ShutString
import Derived.ChangeOld
import Derived.Below

/-
  Layer 6: where a statement is: its Values' own copies, and the layer, behind some lays. Condition: the Values lie in memory.
-/
namespace Go.Proofs.Ytcbgjkedmboifaa
open Go.ChangeShapes Go.WideShapes Go.ChangeAt Go.RowKit Go.Deep
set_option linter.unusedVariables false
set_option maxHeartbeats 1000000

variable {w w' w0 w1 w2 : World} {lb : Nat} {p : Pl} {rb : Nat} {s : St} {r : RS} {had : List Int} {left : Int} {O : Nat → Prop} {j : Nat}
theorem VOk.below (k : Below w.heap.size w w') : ∀ (d : Nat) {cs : List Value}, VOk w d cs → VOk w' d cs
  | 0, _, _ => trivial
  | d + 1, cs, h => by
    obtain ⟨k', n, s, al, len, cap, h1, h2, h3, h4, h5, h6⟩ := h
    refine ⟨k', n, s, al, len, cap, h1, h2, h3, h4, h5, fun i hi => ?_⟩
    obtain ⟨a, c0, c1, c2, c3, q1, q2, q3, q4, q5, q6⟩ := h6 i hi
    have hc : ∀ {x : Addr} {v : Value}, w.cell? x = some v → w'.cell? x = some v := fun {x v} hx => (k.cell (p := x) (cell_lt hx)).trans hx
    exact ⟨a, c0, c1, c2, c3, q1, hc q2, hc q3, hc q4, hc q5, VOk.below k d q6⟩
/-- The layer lies there, made since w0, behind j lays. -/
structure LawIn (w0 w1 : World) (lb : Nat) (p : Pl) (rb : Nat) (s : St) (r : RS) (j : Nat) : Prop where
  ex : ∃ had left O, LaidIn w1 lb p rb s r had left O ∧ (∀ q, O q → w0.heap.size ≤ q) ∧ left ≤ 200 ∧ -7800 - (j : Int) ≤ phi left ∧ had.length + left.toNat ≤ 200
  below : Below w0.heap.size w0 w1
  p40 : P40 r
theorem LawIn.under (h : LawIn w0 w1 lb p rb s r j) (k : Below w1.heap.size w1 w2) : LawIn w0 w2 lb p rb s r j := by
  obtain ⟨had, left, O, h1, h2⟩ := h.ex
  exact ⟨⟨had, left, O, h1.under k, h2⟩, h.below.trans (k.mono h.below.size), h.p40⟩
theorem LawIn.ar (h : LawIn w0 w1 lb p rb s r j) : Ar w1 p s := by
  obtain ⟨had, left, O, h1, h2⟩ := h.ex
  exact (laid_rep h1).1
theorem LawIn.rep (h : LawIn w0 w1 lb p rb s r j) : Rep s r := by
  obtain ⟨had, left, O, h1, h2⟩ := h.ex
  exact (laid_rep h1).2
theorem LawIn.both (h : LawIn w0 w1 lb p rb s r j) : ∃ a cap V, Both w1 p s rb r a cap V := by
  obtain ⟨had, left, O, ⟨a, cap, V, hv, _, h2, _⟩, _⟩ := h.ex
  exact ⟨a, cap, V, h2.bo⟩
theorem LawIn.c0 (h : LawIn w0 w1 lb p rb s r j) : w1.cell? ⟨lb, 0, none⟩ = some (.pointer (some ⟨p.a, 0, none⟩)) := by
  obtain ⟨had, left, O, h1, h2⟩ := h.ex
  exact h1.cells.1
theorem LawIn.c1 (h : LawIn w0 w1 lb p rb s r j) : w1.cell? ⟨lb, 1, none⟩ = some (.pointer (some ⟨rb, 0, none⟩)) := by
  obtain ⟨had, left, O, h1, h2⟩ := h.ex
  exact h1.cells.2.1
theorem begin_law (w0 w1 : World) (hb : Below w0.heap.size w0 w1) : Calls Try.prog 10 #[] w1 fun e w2 => ∃ lb p rb, e = .returned (.pointer (some ⟨lb, 0, none⟩)) ∧ LawIn w0 w2 lb p rb (St.new 4000) ⟨4000, 0, []⟩ 0 := by
  refine (begin_any w1).mono ?_
  rintro e w2 ⟨lb, p, rb, O, rfl, h1, h2, h3⟩
  exact ⟨lb, p, rb, rfl, ⟨[], 200, O, h1, fun q hq => Nat.le_trans hb.size (h2 q hq), by omega, by decide, by decide⟩, hb.trans (h3.mono hb.size), fun b hb => by cases hb⟩
theorem lay_law {c0 c1 c2 c3 : Value} (w1 : World) (h : LawIn w0 w1 lb p rb s r j) (hv : VOk w0 201 [c0, c1, c2, c3]) (hj : j ≤ 100) :
    Calls Try.prog 11 #[.pointer (some ⟨lb, 0, none⟩), .agg #[c0, c1, c2, c3]] w1 fun e w2 => ∃ x s' r', e = .returned (.int .u64 x) ∧ R64 x ∧ LawIn w0 w2 lb p rb s' r' (j + 1) := by
  obtain ⟨had, left, O, h1, h2, h3, h4, h5⟩ := h.ex
  have ha : Apart w0 (fun q => q < w0.heap.size) w1 O := fun q hq => ⟨h.below.block q hq, fun c => by have := h2 q c; omega, Nat.lt_of_lt_of_le hq h.below.size⟩
  refine (lay_any 200 (by omega) h1 (by omega) (by omega) (by omega) h.p40 (vq_of 201 hv) ha).mono ?_
  rintro e w2 ⟨x, s', r', had', left', O', q1, q2, q3, q4, q5, q6, q7, q8⟩
  exact ⟨x, s', r', q1, q2, ⟨had', left', O', q3, q4.ge h.below.size h2, by omega, by omega, by omega⟩, h.below.trans (q4.below h.below.size h2), q5⟩
/-- A Value's own copy. -/
def BoxAt (w : World) (q : Nat) (k n : Int) (b : ByteArray) (al : Option Addr) (len cap : Nat) : Prop := w.heap[q]? = some (.cells #[.int .i64 k, .int .i64 n, .string b, .slice al len cap] 24 (0, 0))
theorem BoxAt.cells {q : Nat} {k n : Int} {b : ByteArray} {al : Option Addr} {len cap : Nat} (h : BoxAt w0 q k n b al len cap) (hb : Below w0.heap.size w0 w1) : w1.cell? ⟨q, 0, none⟩ = some (.int .i64 k) ∧ w1.cell? ⟨q, 1, none⟩ = some (.int .i64 n) ∧ w1.cell? ⟨q, 2, none⟩ = some (.string b) ∧ w1.cell? ⟨q, 3, none⟩ = some (.slice al len cap) := by
  have h1 := (hb.block q (lt_of_some h)).trans h
  simp [World.cell?, h1]
theorem box_one (w : World) (k n : Int) (b : ByteArray) (al : Option Addr) (len cap : Nat) : BoxAt (w.alloc (.cells #[.int .i64 k, .int .i64 n, .string b, .slice al len cap] 24)) w.heap.size k n b al len cap := blk_alloc_new _ _
theorem BoxAt.alloc {q : Nat} {k n : Int} {b : ByteArray} {al : Option Addr} {len cap : Nat} (h : BoxAt w q k n b al len cap) (o : Obj) : BoxAt (w.alloc o) q k n b al len cap := (blk_alloc_lt _ o _ (lt_of_some h)).trans h
theorem below_alloc (w : World) (o : Obj) : Below w.heap.size w (w.alloc o) := (Below.refl _ _).alloc (Nat.le_refl _) o
/-- Who is less is told by -1, 0 or 1. -/
theorem goC_three (nd : Int → Nd) (room : Int) : ∀ (k : Nat) (ws : List (Int × Int)), (goC nd room k ws).1 = -1 ∨ (goC nd room k ws).1 = 0 ∨ (goC nd room k ws).1 = 1
  | 0, [] => Or.inr (Or.inl rfl)
  | _ + 1, [] => Or.inr (Or.inl rfl)
  | 0, _ :: _ => Or.inr (Or.inl rfl)
  | k + 1, (x, y) :: ws => by
    rw [goC]
    split
    · exact Or.inr (Or.inl rfl)
    · split
      · have : ∀ x y, (pairOut nd x y).2.1 = -1 ∨ (pairOut nd x y).2.1 = 0 ∨ (pairOut nd x y).2.1 = 1 := fun x y => by
          unfold pairOut
          split
          · exact Or.inr (Or.inl rfl)
          · split
            · exact Or.inr (Or.inl rfl)
            · split
              · exact Or.inr (Or.inl rfl)
              · exact sgnL_three _ _
        exact this x y
      · split
        · exact Or.inr (Or.inl rfl)
        · exact goC_three nd room k _
theorem cmpC_three (nd : Int → Nd) (x y room steps : Int) : (cmpC nd x y room steps).1 = -1 ∨ (cmpC nd x y room steps).1 = 0 ∨ (cmpC nd x y room steps).1 = 1 := by
  unfold cmpC
  split
  · exact Or.inr (Or.inl rfl)
  · exact goC_three nd room _ _
/-- What was compared is plain. -/
theorem cmpC_plain {nd : Int → Nd} {x y room steps : Int} (hr : ¬ room < 2) (hs : 0 < steps) (h : (cmpC nd x y room steps).2.2 = 0) : (nd x).wrong = 0 ∧ (nd y).wrong = 0 := by
  unfold cmpC at h
  rw [if_neg hr] at h
  obtain ⟨k, hk⟩ : ∃ k, steps.toNat = k + 1 := ⟨steps.toNat - 1, by omega⟩
  rw [hk, goC] at h
  by_cases c : (pairOut nd x y).1 ≠ 0
  · rw [if_pos c] at h; exact absurd h c
  · exact pair_ok (Classical.byContradiction c)
end Go.Proofs.Ytcbgjkedmboifaa

/-
  Layer 6, plain: one hash for what does not differ; a hash has 30 bits; and the document's own Compare and Hash over the layer. Condition: the layer lies in memory.
-/
namespace Go.Proofs.Ytcbgjkedmboifaa
open Go.ChangeShapes Go.WideShapes Go.ChangeAt Go.RowKit Go.Deep
set_option linter.unusedVariables false
set_option maxHeartbeats 1000000

variable {w w' w0 w1 w2 : World} {lb : Nat} {p : Pl} {rb : Nat} {s : St} {r : RS} {j : Nat}
theorem hashC_same {nd : Int → Nd} {x y room steps S R : Int} (h : cmpC nd x y room steps = (0, S, 0)) : hashC nd x R = hashC nd y R := by
  have ha : Alike nd x y := cmpC_alike (by rw [h]) (by rw [h])
  have e := goH_alike nd mixW R 24 [x] [y] (intW 7) ⟨ha, trivial⟩
  unfold hashC
  rw [e]
theorem and_rng (a : Int) : 0 ≤ numW (intW (andN a (numW (intW 1073741823)))) ∧ numW (intW (andN a (numW (intW 1073741823)))) < 1073741824 := by
  have e : lowN (numW (intW 1073741823)) = 1073741823 := by decide
  have h1 : (lowN a &&& lowN (numW (intW 1073741823))) ≤ 1073741823 := by rw [e]; exact Nat.and_le_right
  unfold andN
  generalize (lowN a &&& lowN (numW (intW 1073741823))) = m at *
  unfold numW intW
  split <;> omega
theorem hashC_rng {nd : Int → Nd} {x room H G : Int} (h : hashC nd x room = (H, G)) : R64 H ∧ (G = 0 → 0 ≤ numW H) ∧ (G = 0 → numW H < 1073741824) := by
  unfold hashC at h
  split at h
  · simp only [Prod.mk.injEq] at h
    obtain ⟨rfl, rfl⟩ := h
    have e : ∀ a b, doV 6 a b = intW (andN (numW a) (numW b)) := fun a b => by simp [doV]
    rw [e]
    exact ⟨intW_rng _, fun _ => (and_rng _).1, fun _ => (and_rng _).2⟩
  · rename_i hn
    simp only [Prod.mk.injEq] at h
    obtain ⟨rfl, rfl⟩ := h
    exact ⟨⟨by decide, by decide⟩, fun c => absurd c hn, fun c => absurd c hn⟩
theorem rnum_is (x a : Int) (w : World) (h : 0 ≤ x) (h' : x ≤ 18446744073709551615) (e : numW x = a) : Calls Try.prog 16 #[.int .u64 x] w fun e w' => e = .returned (.int .i64 a) ∧ w' = w := by
  subst e; exact rnum_any x w h h'
theorem rhash_is {a b : Int} (x room : Int) (w1 : World) (h : LawIn w0 w1 lb p rb s r j) (x0 : 0 ≤ x) (x1 : x ≤ 18446744073709551615) (e : hashC (ndW s r) x room = (a, b)) :
    Calls Try.prog 15 #[.pointer (some ⟨rb, 0, none⟩), .int .u64 x, .int .i64 room] w1 fun e w' => e = .returned (.tuple #[.int .u64 a, .int .i64 b]) ∧ Below w1.heap.size w1 w' := by
  obtain ⟨aa, cap, V, hb⟩ := h.both
  have := rhash_any x room w1 hb x0 x1
  rw [e] at this
  exact this
theorem rcompare_is {a b c : Int} (x y room steps : Int) (w1 : World) (h : LawIn w0 w1 lb p rb s r j) (x0 : 0 ≤ x) (x1 : x ≤ 18446744073709551615) (y0 : 0 ≤ y) (y1 : y ≤ 18446744073709551615) (hs : steps ≤ 10000) (e : cmpC (ndW s r) x y room steps = (a, b, c)) :
    Calls Try.prog 13 #[.pointer (some ⟨rb, 0, none⟩), .int .u64 x, .int .u64 y, .int .i64 room, .int .i64 steps] w1 fun e w' => e = .returned (.tuple #[.int .i64 a, .int .i64 b, .int .i64 c]) ∧ Below w1.heap.size w1 w' := by
  obtain ⟨aa, cap, V, hb⟩ := h.both
  have := rcompare_any x y room steps w1 hb x0 x1 y0 y1 hs
  rw [e] at this
  exact this
end Go.Proofs.Ytcbgjkedmboifaa

/-
  OrderCompares: the program's Compare tells what the document's own tells. Condition: the Values lie in memory.
-/
namespace Go.Proofs.Ytcbgjkedmboifaa
open Go.ChangeShapes Go.WideShapes Go.ChangeAt Go.RowKit Go.Deep
set_option linter.unusedVariables false
set_option maxHeartbeats 1000000

set_option maxRecDepth 100000 in
set_option maxHeartbeats 20000000 in
theorem compares_any {k n : Int} {b : ByteArray} {al : Option Addr} {len cap : Nat} {k' n' : Int} {b' : ByteArray} {al' : Option Addr} {len' cap' : Nat} (a2 a3 : Int) (w : World) (hv0 : VOk w 201 [.int .i64 k, .int .i64 n, .string b, .slice al len cap]) (hv1 : VOk w 201 [.int .i64 k', .int .i64 n', .string b', .slice al' len' cap']) :
    Calls Try.prog 3 #[.agg #[.int .i64 k, .int .i64 n, .string b, .slice al len cap], .agg #[.int .i64 k', .int .i64 n', .string b', .slice al' len' cap'], .int .i64 a2, .int .i64 a3] w fun e w' => e = .returned (.bool true) ∧ Below w.heap.size w w' := by
  have X0 := hidden ((box_one w k n b al len cap).alloc (.cells #[.int .i64 k', .int .i64 n', .string b', .slice al' len' cap'] 24))
  have X1 := hidden (box_one (w.alloc (.cells #[.int .i64 k, .int .i64 n, .string b, .slice al len cap] 24)) k' n' b' al' len' cap')
  have B0 : Hid (Below w.heap.size w ((w.alloc (.cells #[.int .i64 k, .int .i64 n, .string b, .slice al len cap] 24)).alloc (.cells #[.int .i64 k', .int .i64 n', .string b', .slice al' len' cap'] 24))) := (below_alloc w _).alloc (by simp only [nblk_alloc]; omega) _
  have HV0 := hidden hv0
  have HV1 := hidden hv1
  clear hv0 hv1
  go_enter Try.func3, Try.ntmps3
  go_upto_region 1 with fail
  rw [nblk_alloc] at X1
  generalize ((w.alloc (.cells #[.int .i64 k, .int .i64 n, .string b, .slice al len cap] 24)).alloc (.cells #[.int .i64 k', .int .i64 n', .string b', .slice al' len' cap'] 24)) = w0 at *
  go_upto_region 4 with (first
    | (go_at_call 9; refine (awake_any _).mono ?_; rintro e w1 ⟨rfl, hb1⟩; have B1 := hidden hb1; clear hb1)
    | (go_at_call 10; refine (begin_law w0 _ B1.out).mono ?_; rintro e w2 ⟨lb, p, rb, rfl, h2⟩; have L2 := hidden h2; clear h2))
  clear B1
  obtain ⟨q0, q1, q2, q3⟩ := X0.out.cells L2.out.below
  go_upto_region 5 with (go_at_call 11; refine (lay_law _ L2.out (VOk.below B0.out 201 HV0.out) (by omega)).mono ?_; rintro e w3 ⟨x0, s3, r3, rfl, ⟨lo0, hi0⟩, h3⟩; have L3 := hidden h3; clear h3)
  clear q0 q1 q2 q3 L2
  obtain ⟨q0, q1, q2, q3⟩ := X1.out.cells L3.out.below
  go_upto_region 6 with (go_at_call 11; refine (lay_law _ L3.out (VOk.below B0.out 201 HV1.out) (by omega)).mono ?_; rintro e w4 ⟨x1, s4, r4, rfl, ⟨lo1, hi1⟩, h4⟩; have L4 := hidden h4; clear h4)
  clear q0 q1 q2 q3 L3
  have RP := hidden L4.out.rep
  have HBB : Hid (∀ wz, Below w4.heap.size w4 wz → wz.cell? ⟨lb, 0, none⟩ = some (.pointer (some ⟨p.a, 0, none⟩)) ∧ Ar wz p s4) := fun wz bz => ⟨(L4.out.under bz).c0, (L4.out.under bz).ar⟩
  have HF : Hid (∀ w7, Below w4.heap.size w4 w7 → Below w.heap.size w w7) := fun w7 b7 => (B0.out.trans (L4.out.below.mono B0.out.size)).trans (b7.mono (Nat.le_trans B0.out.size L4.out.below.size))
  obtain ⟨g0, ar0⟩ := HBB.out _ (Below.refl _ _)
  have AR0 := hidden ar0
  clear ar0
  have W0 := hidden (Below.refl w4.heap.size w4)
  have HL1 : Hid (∀ w5, Below w4.heap.size w4 w5 → w5.cell? ⟨lb, 1, none⟩ = some (.pointer (some ⟨rb, 0, none⟩))) := fun w5 b5 => (L4.out.under b5).c1
  by_cases hst : a3 ≤ 10000
  · have hst2 : ¬ (10000 : Int) < a3 := by omega
    obtain ⟨⟨C, S, E⟩, hC⟩ : ∃ t, cmpC (ndW s4 r4) x0 x1 a2 a3 = t := ⟨_, rfl⟩
    have HC := hidden hC
    clear hC
    go_upto_region 8 with (first | (go_at_call 12; refine (compare_is x0 x1 a2 a3 _ AR0.out RP.out lo0 hi0 lo1 hi1 (by omega) HC.out).mono ?_; rintro e v1 ⟨rfl, hb⟩; have W1 : Hid (Below w4.heap.size w4 v1) := W0.out.trans (hb.mono W0.out.size); obtain ⟨g1, ar⟩ := HBB.out _ W1.out; have AR1 := hidden ar; clear hb ar) | (go_at_call 13; refine (rcompare_is x0 x1 a2 a3 _ (L4.out.under W1.out) lo0 hi0 lo1 hi1 (by omega) HC.out).mono ?_; rintro e v2 ⟨rfl, hb⟩; have W2 : Hid (Below w4.heap.size w4 v2) := W1.out.trans (hb.mono W1.out.size); clear hb))
    have l1 := HL1.out _ W1.out
    go_wp2_with (first | (go_at_call 12; refine (compare_is x0 x1 a2 a3 _ AR0.out RP.out lo0 hi0 lo1 hi1 (by omega) HC.out).mono ?_; rintro e v1 ⟨rfl, hb⟩; have W1 : Hid (Below w4.heap.size w4 v1) := W0.out.trans (hb.mono W0.out.size); obtain ⟨g1, ar⟩ := HBB.out _ W1.out; have AR1 := hidden ar; clear hb ar) | (go_at_call 13; refine (rcompare_is x0 x1 a2 a3 _ (L4.out.under W1.out) lo0 hi0 lo1 hi1 (by omega) HC.out).mono ?_; rintro e v2 ⟨rfl, hb⟩; have W2 : Hid (Below w4.heap.size w4 v2) := W1.out.trans (hb.mono W1.out.size); clear hb))
    all_goals go_ret
    all_goals exact ⟨by simp, HF.out _ W2.out⟩
  · have hst2 : (10000 : Int) < a3 := by omega
    obtain ⟨⟨C, S, E⟩, hC⟩ : ∃ t, cmpC (ndW s4 r4) x0 x1 a2 10000 = t := ⟨_, rfl⟩
    have HC := hidden hC
    clear hC
    go_upto_region 8 with (first | (go_at_call 12; refine (compare_is x0 x1 a2 10000 _ AR0.out RP.out lo0 hi0 lo1 hi1 (by omega) HC.out).mono ?_; rintro e v1 ⟨rfl, hb⟩; have W1 : Hid (Below w4.heap.size w4 v1) := W0.out.trans (hb.mono W0.out.size); obtain ⟨g1, ar⟩ := HBB.out _ W1.out; have AR1 := hidden ar; clear hb ar) | (go_at_call 13; refine (rcompare_is x0 x1 a2 10000 _ (L4.out.under W1.out) lo0 hi0 lo1 hi1 (by omega) HC.out).mono ?_; rintro e v2 ⟨rfl, hb⟩; have W2 : Hid (Below w4.heap.size w4 v2) := W1.out.trans (hb.mono W1.out.size); clear hb))
    have l1 := HL1.out _ W1.out
    go_wp2_with (first | (go_at_call 12; refine (compare_is x0 x1 a2 10000 _ AR0.out RP.out lo0 hi0 lo1 hi1 (by omega) HC.out).mono ?_; rintro e v1 ⟨rfl, hb⟩; have W1 : Hid (Below w4.heap.size w4 v1) := W0.out.trans (hb.mono W0.out.size); obtain ⟨g1, ar⟩ := HBB.out _ W1.out; have AR1 := hidden ar; clear hb ar) | (go_at_call 13; refine (rcompare_is x0 x1 a2 10000 _ (L4.out.under W1.out) lo0 hi0 lo1 hi1 (by omega) HC.out).mono ?_; rintro e v2 ⟨rfl, hb⟩; have W2 : Hid (Below w4.heap.size w4 v2) := W1.out.trans (hb.mono W1.out.size); clear hb))
    all_goals go_ret
    all_goals exact ⟨by simp, HF.out _ W2.out⟩
end Go.Proofs.Ytcbgjkedmboifaa

/-
  Proved: whatever two Values, room and steps are handed to OrderCompares, it returns true. No condition.
-/
namespace Go.Proofs.Ytcbgjkedmboifaa.orderCompares
open Go.ChangeShapes Go.WideShapes Go.ChangeAt Go.RowKit
open Go.ChangeMaps (open_string shut_string)
set_option linter.unusedVariables false

theorem own : ownKnob Try.prog.godebug = none := by kernel_rfl
theorem laidOut : laidOutB Try.prog = true := by kernel_rfl

theorem walk (cs0 : Array Value) (cs1 : Array Value) (a2 : Int) (a3 : Int) (w : World) (vk0 : VOk w 201 cs0.toList) (vk1 : VOk w 201 cs1.toList) (w2 : (Lit.int .i64 a2).wf = true) (w3 : (Lit.int .i64 a3).wf = true) :
    Calls Try.prog 3 #[.agg cs0, .agg cs1, .int .i64 a2, .int .i64 a3] w fun e w' => e = .returned (.bool true) ∧ Below w.heap.size w w' := by
  obtain ⟨k0, n0, b0, al0, len0, cap0, e0, _⟩ := id vk0
  obtain rfl : cs0 = #[.int .i64 k0, .int .i64 n0, .string b0, .slice al0 len0 cap0] := by cases cs0; simpa using e0
  obtain ⟨k1, n1, b1, al1, len1, cap1, e1, _⟩ := id vk1
  obtain rfl : cs1 = #[.int .i64 k1, .int .i64 n1, .string b1, .slice al1 len1 cap1] := by cases cs1; simpa using e1
  exact compares_any a2 a3 w vk0 vk1

set_option maxRecDepth 100000 in
theorem lifted (os : Os) (started : os.Started) (H : Type) (enc : TypeId × Value → H) :
    ReturnsInHanded {} Try.checked os 3 .any (Rows.orderComparesSpec.pre6 enc Try.prog Try.f3 Rows.orderComparesRow.domain false) (Rows.orderComparesSpec.post enc Try.prog Try.f3 false true false false) := by
  refine returnsInHanded_of_change (C := Try.checked) own started (by kernel_rfl) Try.func3
    (ChangeSpec.witness6 (enc := enc) (C := Try.checked) false ⟨#[], #[.agg #[.int .i64 0, .int .i64 0, .string ByteArray.empty, .slice none 0 0], .agg #[.int .i64 0, .int .i64 0, .string ByteArray.empty, .slice none 0 0], .int .i64 0, .int .i64 0], []⟩ 8 (by kernel_rfl) (by kernel_rfl) (by kernel_rfl) (by kernel_rfl)) ?_
  intro W base args ds gs before hval0 hW hcnd _
  have hval : ∀ (j : Nat) t v, Try.f3.params[j]? = some t → args[j]? = some v → Value.okWide Try.prog W .any base t v := hval0
  have hW' := hW
  obtain ⟨p, q, hA0, hV, rfl, hfz, hnd⟩ := hW
  have hA : DataW.TrodAll enc Try.prog W 0 (fun _ => true) true Try.f3.params.toList args.toList ds p := hA0
  rw [Try.params3] at hA hval
  obtain ⟨v0, vs0, d0, ds0, p0, q0, hargs, rfl, rfl, h0, r0⟩ := trodAll_cons hA
  obtain ⟨v1, vs1, d1, ds1, p1, q1, rfl, rfl, rfl, h1, r1⟩ := trodAll_cons r0
  obtain ⟨v2, vs2, d2, ds2, p2, q2, rfl, rfl, rfl, h2, r2⟩ := trodAll_cons r1
  obtain ⟨v3, vs3, d3, ds3, p3, q3, rfl, rfl, rfl, h3, r3⟩ := trodAll_cons r2
  obtain ⟨rfl, rfl, rfl⟩ := trodAll_nil r3
  obtain rfl : args = #[v0, v1, v2, v3] := by cases args; simp_all
  obtain ⟨rfl, rfl⟩ := trodVars_none hV
  obtain ⟨cs0, rfl, _⟩ := okWide_struct Try.underlying24 (hval 0 24 v0 rfl rfl)
  have k0 := h0
  have lt0 : ∀ x ∈ p0, x.block < W.heap.size := by obtain ⟨m, hm⟩ := k0; exact DataW.trod_lt m _ _ _ hm
  have vk0 : VOk W 201 cs0.toList := by obtain ⟨fuel, hf⟩ := h0; exact value_open 201 hf
  obtain ⟨cs1, rfl, _⟩ := okWide_struct Try.underlying24 (hval 1 24 v1 rfl rfl)
  have k1 := h1
  have lt1 : ∀ x ∈ p1, x.block < W.heap.size := by obtain ⟨m, hm⟩ := k1; exact DataW.trod_lt m _ _ _ hm
  have vk1 : VOk W 201 cs1.toList := by obtain ⟨fuel, hf⟩ := h1; exact value_open 201 hf
  obtain ⟨a2, rfl, rfl, rfl, w2⟩ := open_int Try.underlying3 (hval 2 3 v2 rfl rfl) h2
  obtain ⟨a3, rfl, rfl, rfl, w3⟩ := open_int Try.underlying2 (hval 3 2 v3 rfl rfl) h3
  clear hA0 hval0
  refine (walk cs0 cs1 a2 a3 W vk0 vk1 w2 w3).mono fun e W' ⟨he, bel⟩ => ?_
  subst he
  exact ⟨_, rfl, _, _, _, [], _, [], hW', trodAll_mk1 (shut_bool Try.underlying4 _), (trodAll_cons_mk (Below.trod laidOut (by kernel_rfl) (of_decide_eq_true (by kernel_rfl)) k0 bel lt0) (trodAll_cons_mk (Below.trod laidOut (by kernel_rfl) (of_decide_eq_true (by kernel_rfl)) k1 bel lt1) (trodAll_cons_mk (shut_int Try.underlying3 w2) (trodAll_cons_mk (shut_int Try.underlying2 w3) trodAll_mk0)))), rfl, bel.frame _, fun h => by cases h⟩

theorem over : Rows.orderComparesRow.holds Try.pinned (OpenSpec.ofChange Rows.orderComparesSpec) :=
  OpenClaim.holds_of_wide 3 Try.f3 rfl rfl rfl rfl rfl rfl rfl ⟨rfl, rfl, rfl, rfl, rfl⟩ rfl rfl rfl rfl rfl (by kernel_rfl) Try.func3 (by kernel_rfl)
    (of_decide_eq_true (by kernel_rfl)) (by unfold Func.isWrapper; first | (rw [if_pos (by decide +kernel)]; kernel_rfl) | (rw [if_neg (by decide +kernel)]; exact ⟨rfl, rfl⟩))
    (fun os started H enc _ => lifted os started H enc)
theorem proved : Rows.OrderComparesSaid := over
end Go.Proofs.Ytcbgjkedmboifaa.orderCompares

namespace Go.Proofs.Ytcbgjkedmboifaa
/-- The statement. -/
theorem orderCompares_holds : Rows.OrderComparesSaid := orderCompares.proved
#print axioms orderCompares_holds
end Go.Proofs.Ytcbgjkedmboifaa
