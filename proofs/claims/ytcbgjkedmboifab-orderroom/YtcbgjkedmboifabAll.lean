/-
  Several texts in one; each tells at its head what it proves, and on what condition. The last one: whatever is handed to OrderRoom, it returns true. No condition.
-/
import Derived.Test.YtcbgjkedmboifabL6Awake
import Derived.Test.YtcbgjkedmboifabRows
import Derived.WalkKit
import Derived.ProofKit
import Derived.OpenShut
import Derived.ShutString
import Derived.ChangeOld
import Derived.Below

/-
  Layer 6: where a statement is: its Values' own copies, and the layer, behind some lays. Condition: the Values lie in memory.
-/
namespace Go.Proofs.Ytcbgjkedmboifab
open Go.ChangeShapes Go.WideShapes Go.ChangeAt Go.RowKit Go.Deep
set_option linter.unusedVariables false
set_option maxHeartbeats 1000000

variable {w w' w0 w1 w2 : World} {lb : Nat} {p : Pl} {rb : Nat} {s : St} {r : RS} {had : List Int} {left : Int} {O : Nat → Prop} {j : Nat}
theorem VOk.below (k : Below w.heap.size w w') : ∀ (d : Nat) {cs : List Value}, VOk w d cs → VOk w' d cs
  | 0, _, _ => trivial
  | d + 1, cs, h => by
    obtain ⟨k', n, s, al, len, cap, h1, h2, h3, h4, h5, h6⟩ := h
    refine ⟨k', n, s, al, len, cap, h1, h2, h3, h4, h5, fun i hi => ?_⟩
    obtain ⟨a, c0, c1, c2, c3, q1, q2, q3, q4, q5, q6⟩ := h6 i hi
    have hc : ∀ {x : Addr} {v : Value}, w.cell? x = some v → w'.cell? x = some v := fun {x v} hx => (k.cell (p := x) (cell_lt hx)).trans hx
    exact ⟨a, c0, c1, c2, c3, q1, hc q2, hc q3, hc q4, hc q5, VOk.below k d q6⟩
/-- The layer lies there, made since w0, behind j lays. -/
structure LawIn (w0 w1 : World) (lb : Nat) (p : Pl) (rb : Nat) (s : St) (r : RS) (j : Nat) : Prop where
  ex : ∃ had left O, LaidIn w1 lb p rb s r had left O ∧ (∀ q, O q → w0.heap.size ≤ q) ∧ left ≤ 200 ∧ -7800 - (j : Int) ≤ phi left ∧ had.length + left.toNat ≤ 200
  below : Below w0.heap.size w0 w1
  p40 : P40 r
theorem LawIn.under (h : LawIn w0 w1 lb p rb s r j) (k : Below w1.heap.size w1 w2) : LawIn w0 w2 lb p rb s r j := by
  obtain ⟨had, left, O, h1, h2⟩ := h.ex
  exact ⟨⟨had, left, O, h1.under k, h2⟩, h.below.trans (k.mono h.below.size), h.p40⟩
theorem LawIn.ar (h : LawIn w0 w1 lb p rb s r j) : Ar w1 p s := by
  obtain ⟨had, left, O, h1, h2⟩ := h.ex
  exact (laid_rep h1).1
theorem LawIn.rep (h : LawIn w0 w1 lb p rb s r j) : Rep s r := by
  obtain ⟨had, left, O, h1, h2⟩ := h.ex
  exact (laid_rep h1).2
theorem LawIn.both (h : LawIn w0 w1 lb p rb s r j) : ∃ a cap V, Both w1 p s rb r a cap V := by
  obtain ⟨had, left, O, ⟨a, cap, V, hv, _, h2, _⟩, _⟩ := h.ex
  exact ⟨a, cap, V, h2.bo⟩
theorem LawIn.c0 (h : LawIn w0 w1 lb p rb s r j) : w1.cell? ⟨lb, 0, none⟩ = some (.pointer (some ⟨p.a, 0, none⟩)) := by
  obtain ⟨had, left, O, h1, h2⟩ := h.ex
  exact h1.cells.1
theorem LawIn.c1 (h : LawIn w0 w1 lb p rb s r j) : w1.cell? ⟨lb, 1, none⟩ = some (.pointer (some ⟨rb, 0, none⟩)) := by
  obtain ⟨had, left, O, h1, h2⟩ := h.ex
  exact h1.cells.2.1
theorem begin_law (w0 w1 : World) (hb : Below w0.heap.size w0 w1) : Calls Try.prog 7 #[] w1 fun e w2 => ∃ lb p rb, e = .returned (.pointer (some ⟨lb, 0, none⟩)) ∧ LawIn w0 w2 lb p rb (St.new 4000) ⟨4000, 0, []⟩ 0 := by
  refine (begin_any w1).mono ?_
  rintro e w2 ⟨lb, p, rb, O, rfl, h1, h2, h3⟩
  exact ⟨lb, p, rb, rfl, ⟨[], 200, O, h1, fun q hq => Nat.le_trans hb.size (h2 q hq), by omega, by decide, by decide⟩, hb.trans (h3.mono hb.size), fun b hb => by cases hb⟩
theorem lay_law {c0 c1 c2 c3 : Value} (w1 : World) (h : LawIn w0 w1 lb p rb s r j) (hv : VOk w0 201 [c0, c1, c2, c3]) (hj : j ≤ 100) :
    Calls Try.prog 8 #[.pointer (some ⟨lb, 0, none⟩), .agg #[c0, c1, c2, c3]] w1 fun e w2 => ∃ x s' r', e = .returned (.int .u64 x) ∧ R64 x ∧ LawIn w0 w2 lb p rb s' r' (j + 1) := by
  obtain ⟨had, left, O, h1, h2, h3, h4, h5⟩ := h.ex
  have ha : Apart w0 (fun q => q < w0.heap.size) w1 O := fun q hq => ⟨h.below.block q hq, fun c => by have := h2 q c; omega, Nat.lt_of_lt_of_le hq h.below.size⟩
  refine (lay_any 200 (by omega) h1 (by omega) (by omega) (by omega) h.p40 (vq_of 201 hv) ha).mono ?_
  rintro e w2 ⟨x, s', r', had', left', O', q1, q2, q3, q4, q5, q6, q7, q8⟩
  exact ⟨x, s', r', q1, q2, ⟨had', left', O', q3, q4.ge h.below.size h2, by omega, by omega, by omega⟩, h.below.trans (q4.below h.below.size h2), q5⟩
/-- A Value's own copy. -/
def BoxAt (w : World) (q : Nat) (k n : Int) (b : ByteArray) (al : Option Addr) (len cap : Nat) : Prop := w.heap[q]? = some (.cells #[.int .i64 k, .int .i64 n, .string b, .slice al len cap] 24 (0, 0))
theorem BoxAt.cells {q : Nat} {k n : Int} {b : ByteArray} {al : Option Addr} {len cap : Nat} (h : BoxAt w0 q k n b al len cap) (hb : Below w0.heap.size w0 w1) : w1.cell? ⟨q, 0, none⟩ = some (.int .i64 k) ∧ w1.cell? ⟨q, 1, none⟩ = some (.int .i64 n) ∧ w1.cell? ⟨q, 2, none⟩ = some (.string b) ∧ w1.cell? ⟨q, 3, none⟩ = some (.slice al len cap) := by
  have h1 := (hb.block q (lt_of_some h)).trans h
  simp [World.cell?, h1]
theorem box_one (w : World) (k n : Int) (b : ByteArray) (al : Option Addr) (len cap : Nat) : BoxAt (w.alloc (.cells #[.int .i64 k, .int .i64 n, .string b, .slice al len cap] 24)) w.heap.size k n b al len cap := blk_alloc_new _ _
theorem BoxAt.alloc {q : Nat} {k n : Int} {b : ByteArray} {al : Option Addr} {len cap : Nat} (h : BoxAt w q k n b al len cap) (o : Obj) : BoxAt (w.alloc o) q k n b al len cap := (blk_alloc_lt _ o _ (lt_of_some h)).trans h
theorem below_alloc (w : World) (o : Obj) : Below w.heap.size w (w.alloc o) := (Below.refl _ _).alloc (Nat.le_refl _) o
/-- Who is less is told by -1, 0 or 1. -/
theorem goC_three (nd : Int → Nd) (room : Int) : ∀ (k : Nat) (ws : List (Int × Int)), (goC nd room k ws).1 = -1 ∨ (goC nd room k ws).1 = 0 ∨ (goC nd room k ws).1 = 1
  | 0, [] => Or.inr (Or.inl rfl)
  | _ + 1, [] => Or.inr (Or.inl rfl)
  | 0, _ :: _ => Or.inr (Or.inl rfl)
  | k + 1, (x, y) :: ws => by
    rw [goC]
    split
    · exact Or.inr (Or.inl rfl)
    · split
      · have : ∀ x y, (pairOut nd x y).2.1 = -1 ∨ (pairOut nd x y).2.1 = 0 ∨ (pairOut nd x y).2.1 = 1 := fun x y => by
          unfold pairOut
          split
          · exact Or.inr (Or.inl rfl)
          · split
            · exact Or.inr (Or.inl rfl)
            · split
              · exact Or.inr (Or.inl rfl)
              · exact sgnL_three _ _
        exact this x y
      · split
        · exact Or.inr (Or.inl rfl)
        · exact goC_three nd room k _
theorem cmpC_three (nd : Int → Nd) (x y room steps : Int) : (cmpC nd x y room steps).1 = -1 ∨ (cmpC nd x y room steps).1 = 0 ∨ (cmpC nd x y room steps).1 = 1 := by
  unfold cmpC
  split
  · exact Or.inr (Or.inl rfl)
  · exact goC_three nd room _ _
/-- What was compared is plain. -/
theorem cmpC_plain {nd : Int → Nd} {x y room steps : Int} (hr : ¬ room < 2) (hs : 0 < steps) (h : (cmpC nd x y room steps).2.2 = 0) : (nd x).wrong = 0 ∧ (nd y).wrong = 0 := by
  unfold cmpC at h
  rw [if_neg hr] at h
  obtain ⟨k, hk⟩ : ∃ k, steps.toNat = k + 1 := ⟨steps.toNat - 1, by omega⟩
  rw [hk, goC] at h
  by_cases c : (pairOut nd x y).1 ≠ 0
  · rw [if_pos c] at h; exact absurd h c
  · exact pair_ok (Classical.byContradiction c)
end Go.Proofs.Ytcbgjkedmboifab

/-
  Layer 6, plain: with more room, or more steps, what was told is told. No program is named.
-/
namespace Go.Proofs.Ytcbgjkedmboifab
open Go.ChangeShapes Go.WideShapes Go.ChangeAt Go.RowKit Go.Deep
set_option linter.unusedVariables false
set_option maxHeartbeats 1000000

theorem room_ok {nd : Int → Nd} {x y room steps more N S E M T F : Int} (h0 : 0 ≤ steps) (hm : 0 ≤ more) (h1 : cmpC nd x y room steps = (N, S, E)) (h2 : cmpC nd x y (room + more) (steps + more) = (M, T, F)) :
    (E = 11 → F = 13 → S ≤ T) ∧ (E = 13 → S = steps ∧ S ≤ T) ∧ (E ≠ 11 → E ≠ 13 → (N = M ∧ S = T ∧ E = F) ∧ S ≤ steps) := by
  unfold cmpC at h1 h2
  have hk : steps.toNat ≤ (steps + more).toNat := by omega
  have g1 := goC_steps nd room steps.toNat [(x, y)]
  have g2 := goC_steps nd (room + more) (steps + more).toNat [(x, y)]
  have g3 := goC_more nd (show room ≤ room + more by omega) steps.toNat (steps + more).toNat [(x, y)] hk
  by_cases c1 : room < 2
  · rw [if_pos c1] at h1
    simp only [Prod.mk.injEq] at h1
    obtain ⟨rfl, rfl, rfl⟩ := h1
    refine ⟨fun _ hF => ?_, (fun c => by cases c), fun c => absurd rfl c⟩
    by_cases c2 : room + more < 2
    · rw [if_pos c2] at h2
      simp only [Prod.mk.injEq] at h2
      omega
    · rw [if_neg c2] at h2
      rw [h2] at g2
      exact g2.1
  · rw [if_neg c1] at h1
    rw [if_neg (by omega)] at h2
    rw [h1] at g1 g3
    rw [h2] at g2 g3
    simp only at g1 g2 g3
    refine ⟨fun _ hF => ?_, fun hE => ?_, fun hE hE2 => ?_⟩
    · have := (g2.2.2 hF).1
      omega
    · have := (g1.2.2 hE).1
      exact ⟨by omega, g3.2 hE⟩
    · have := g3.1 hE hE2
      simp only [Prod.mk.injEq] at this
      exact ⟨⟨this.1.symm, this.2.1.symm, this.2.2.symm⟩, by omega⟩
end Go.Proofs.Ytcbgjkedmboifab

/-
  OrderRoom: with more room, or more steps, what was told is told. Condition: the Values lie in memory; the room is from 0 to 2^20.
-/
namespace Go.Proofs.Ytcbgjkedmboifab
open Go.ChangeShapes Go.WideShapes Go.ChangeAt Go.RowKit Go.Deep
set_option linter.unusedVariables false
set_option maxHeartbeats 1000000

set_option maxRecDepth 100000 in
set_option maxHeartbeats 20000000 in
theorem room6_any {k n : Int} {b : ByteArray} {al : Option Addr} {len cap : Nat} {k' n' : Int} {b' : ByteArray} {al' : Option Addr} {len' cap' : Nat} (a2 a3 a4 : Int) (w : World) (hv0 : VOk w 201 [.int .i64 k, .int .i64 n, .string b, .slice al len cap]) (hv1 : VOk w 201 [.int .i64 k', .int .i64 n', .string b', .slice al' len' cap']) (s0 : ¬ a2 < 0) (s1 : ¬ 1048576 < a2) (u0 : 0 ≤ a4) (u1 : a4 ≤ 65535) :
    Calls Try.prog 3 #[.agg #[.int .i64 k, .int .i64 n, .string b, .slice al len cap], .agg #[.int .i64 k', .int .i64 n', .string b', .slice al' len' cap'], .int .i64 a2, .int .i64 a3, .int .u16 a4] w fun e w' => e = .returned (.bool true) ∧ Below w.heap.size w w' := by
  have X0 := hidden ((box_one w k n b al len cap).alloc (.cells #[.int .i64 k', .int .i64 n', .string b', .slice al' len' cap'] 24))
  have X1 := hidden (box_one (w.alloc (.cells #[.int .i64 k, .int .i64 n, .string b, .slice al len cap] 24)) k' n' b' al' len' cap')
  have B0 : Hid (Below w.heap.size w ((w.alloc (.cells #[.int .i64 k, .int .i64 n, .string b, .slice al len cap] 24)).alloc (.cells #[.int .i64 k', .int .i64 n', .string b', .slice al' len' cap'] 24))) := (below_alloc w _).alloc (by simp only [nblk_alloc]; omega) _
  have HV0 := hidden hv0
  have HV1 := hidden hv1
  clear hv0 hv1
  go_enter Try.func3, Try.ntmps3
  go_upto_region 1 with fail
  rw [nblk_alloc] at X1
  generalize ((w.alloc (.cells #[.int .i64 k, .int .i64 n, .string b, .slice al len cap] 24)).alloc (.cells #[.int .i64 k', .int .i64 n', .string b', .slice al' len' cap'] 24)) = w0 at *
  go_upto_region 6 with (first
    | (go_at_call 6; refine (awake_any _).mono ?_; rintro e w1 ⟨rfl, hb1⟩; have B1 := hidden hb1; clear hb1)
    | (go_at_call 7; refine (begin_law w0 _ B1.out).mono ?_; rintro e w2 ⟨lb, p, rb, rfl, h2⟩; have L2 := hidden h2; clear h2))
  clear B1
  obtain ⟨q0, q1, q2, q3⟩ := X0.out.cells L2.out.below
  go_upto_region 7 with (go_at_call 8; refine (lay_law _ L2.out (VOk.below B0.out 201 HV0.out) (by omega)).mono ?_; rintro e w3 ⟨x0, s3, r3, rfl, ⟨lo0, hi0⟩, h3⟩; have L3 := hidden h3; clear h3)
  clear q0 q1 q2 q3 L2
  obtain ⟨q0, q1, q2, q3⟩ := X1.out.cells L3.out.below
  go_upto_region 8 with (go_at_call 8; refine (lay_law _ L3.out (VOk.below B0.out 201 HV1.out) (by omega)).mono ?_; rintro e w4 ⟨x1, s4, r4, rfl, ⟨lo1, hi1⟩, h4⟩; have L4 := hidden h4; clear h4)
  clear q0 q1 q2 q3 L3
  have RP := hidden L4.out.rep
  have HBB : Hid (∀ wz, Below w4.heap.size w4 wz → wz.cell? ⟨lb, 0, none⟩ = some (.pointer (some ⟨p.a, 0, none⟩)) ∧ Ar wz p s4) := fun wz bz => ⟨(L4.out.under bz).c0, (L4.out.under bz).ar⟩
  have HF : Hid (∀ w7, Below w4.heap.size w4 w7 → Below w.heap.size w w7) := fun w7 b7 => (B0.out.trans (L4.out.below.mono B0.out.size)).trans (b7.mono (Nat.le_trans B0.out.size L4.out.below.size))
  obtain ⟨g0, ar0⟩ := HBB.out _ (Below.refl _ _)
  have AR0 := hidden ar0
  clear ar0
  have W0 := hidden (Below.refl w4.heap.size w4)
  by_cases hlo : a3 < 0
  · skip
    obtain ⟨⟨C1, S1, E1⟩, hC1⟩ : ∃ t, cmpC (ndW s4 r4) x0 x1 a2 0 = t := ⟨_, rfl⟩
    obtain ⟨⟨C2, S2, E2⟩, hC2⟩ : ∃ t, cmpC (ndW s4 r4) x0 x1 (a2 + a4) a4 = t := ⟨_, rfl⟩
    obtain ⟨q1, q2, q3⟩ := room_ok (by omega) u0 hC1 (show cmpC (ndW s4 r4) x0 x1 (a2 + a4) (0 + a4) = (C2, S2, E2) by rw [Int.zero_add]; exact hC2)
    have HC1 := hidden hC1
    have HC2 := hidden hC2
    have Q1 := hidden q1
    have Q2 := hidden q2
    have Q3 := hidden q3
    clear hC1 hC2 q1 q2 q3
    go_upto_region 11 with (first | (go_at_call 9; refine (compare_is x0 x1 (a2 + a4) a4 _ AR1.out RP.out lo0 hi0 lo1 hi1 (by omega) HC2.out).mono ?_; rintro e v2 ⟨rfl, hb⟩; have W2 : Hid (Below w4.heap.size w4 v2) := W1.out.trans (hb.mono W1.out.size); obtain ⟨g2, ar⟩ := HBB.out _ W2.out; have AR2 := hidden ar; clear hb ar) | (go_at_call 9; refine (compare_is x0 x1 a2 0 _ AR0.out RP.out lo0 hi0 lo1 hi1 (by omega) HC1.out).mono ?_; rintro e v1 ⟨rfl, hb⟩; have W1 : Hid (Below w4.heap.size w4 v1) := W0.out.trans (hb.mono W0.out.size); obtain ⟨g1, ar⟩ := HBB.out _ W1.out; have AR1 := hidden ar; clear hb ar))
    have BF := hidden (HF.out _ W2.out)
    clear HC1 HC2 W1 W2 AR1 AR2 g0 g1 g2 HBB HF AR0 W0
    by_cases e11 : E1 = 11
    · by_cases f13 : E2 = 13
      · have z1 := Q1.out e11 f13
        have b1 : (E1 == 11) = true := by rw [e11]; rfl
        have b2 : (E2 != 13) = false := by rw [f13]; rfl
        clear Q1 Q2 Q3 e11 f13
        go_wp2_with fail
        all_goals go_ret
        all_goals exact ⟨by simp, BF.out⟩
      · have b1 : (E1 == 11) = true := by rw [e11]; rfl
        have b2 : (E2 != 13) = true := by simp [f13]
        clear Q1 Q2 Q3 e11 f13
        go_wp2_with fail
        all_goals go_ret
        all_goals exact ⟨rfl, BF.out⟩
    · have b1 : (E1 == 11) = false := beq_eq_false_iff_ne.2 e11
      by_cases e13 : E1 = 13
      · obtain ⟨z1, z2⟩ := Q2.out e13
        have b2 : (E1 == 13) = true := by rw [e13]; rfl
        have b3 : (S1 == 0) = true := by rw [z1]; simp
        clear Q1 Q2 Q3 e11 e13 z1
        go_wp2_with fail
        all_goals go_ret
        all_goals exact ⟨by simp, BF.out⟩
      · have b2 : (E1 == 13) = false := beq_eq_false_iff_ne.2 e13
        obtain ⟨⟨z1, z2, z3⟩, z4⟩ := Q3.out e11 e13
        clear Q1 Q2 Q3 e11 e13
        subst z1 z2 z3
        go_wp2_with fail
        all_goals go_ret
        all_goals exact ⟨by simp, BF.out⟩
  · by_cases hhi : 10000 < a3
    · skip
      obtain ⟨⟨C1, S1, E1⟩, hC1⟩ : ∃ t, cmpC (ndW s4 r4) x0 x1 a2 10000 = t := ⟨_, rfl⟩
      obtain ⟨⟨C2, S2, E2⟩, hC2⟩ : ∃ t, cmpC (ndW s4 r4) x0 x1 (a2 + a4) (10000 + a4) = t := ⟨_, rfl⟩
      obtain ⟨q1, q2, q3⟩ := room_ok (by omega) u0 hC1 hC2
      have HC1 := hidden hC1
      have HC2 := hidden hC2
      have Q1 := hidden q1
      have Q2 := hidden q2
      have Q3 := hidden q3
      clear hC1 hC2 q1 q2 q3
      go_upto_region 11 with (first | (go_at_call 9; refine (compare_is x0 x1 (a2 + a4) (10000 + a4) _ AR1.out RP.out lo0 hi0 lo1 hi1 (by omega) HC2.out).mono ?_; rintro e v2 ⟨rfl, hb⟩; have W2 : Hid (Below w4.heap.size w4 v2) := W1.out.trans (hb.mono W1.out.size); obtain ⟨g2, ar⟩ := HBB.out _ W2.out; have AR2 := hidden ar; clear hb ar) | (go_at_call 9; refine (compare_is x0 x1 a2 10000 _ AR0.out RP.out lo0 hi0 lo1 hi1 (by omega) HC1.out).mono ?_; rintro e v1 ⟨rfl, hb⟩; have W1 : Hid (Below w4.heap.size w4 v1) := W0.out.trans (hb.mono W0.out.size); obtain ⟨g1, ar⟩ := HBB.out _ W1.out; have AR1 := hidden ar; clear hb ar))
      have BF := hidden (HF.out _ W2.out)
      clear HC1 HC2 W1 W2 AR1 AR2 g0 g1 g2 HBB HF AR0 W0
      by_cases e11 : E1 = 11
      · by_cases f13 : E2 = 13
        · have z1 := Q1.out e11 f13
          have b1 : (E1 == 11) = true := by rw [e11]; rfl
          have b2 : (E2 != 13) = false := by rw [f13]; rfl
          clear Q1 Q2 Q3 e11 f13
          go_wp2_with fail
          all_goals go_ret
          all_goals exact ⟨by simp, BF.out⟩
        · have b1 : (E1 == 11) = true := by rw [e11]; rfl
          have b2 : (E2 != 13) = true := by simp [f13]
          clear Q1 Q2 Q3 e11 f13
          go_wp2_with fail
          all_goals go_ret
          all_goals exact ⟨rfl, BF.out⟩
      · have b1 : (E1 == 11) = false := beq_eq_false_iff_ne.2 e11
        by_cases e13 : E1 = 13
        · obtain ⟨z1, z2⟩ := Q2.out e13
          have b2 : (E1 == 13) = true := by rw [e13]; rfl
          have b3 : (S1 == 10000) = true := by rw [z1]; simp
          clear Q1 Q2 Q3 e11 e13 z1
          go_wp2_with fail
          all_goals go_ret
          all_goals exact ⟨by simp, BF.out⟩
        · have b2 : (E1 == 13) = false := beq_eq_false_iff_ne.2 e13
          obtain ⟨⟨z1, z2, z3⟩, z4⟩ := Q3.out e11 e13
          clear Q1 Q2 Q3 e11 e13
          subst z1 z2 z3
          go_wp2_with fail
          all_goals go_ret
          all_goals exact ⟨by simp, BF.out⟩
    · skip
      obtain ⟨⟨C1, S1, E1⟩, hC1⟩ : ∃ t, cmpC (ndW s4 r4) x0 x1 a2 a3 = t := ⟨_, rfl⟩
      obtain ⟨⟨C2, S2, E2⟩, hC2⟩ : ∃ t, cmpC (ndW s4 r4) x0 x1 (a2 + a4) (a3 + a4) = t := ⟨_, rfl⟩
      obtain ⟨q1, q2, q3⟩ := room_ok (by omega) u0 hC1 hC2
      have HC1 := hidden hC1
      have HC2 := hidden hC2
      have Q1 := hidden q1
      have Q2 := hidden q2
      have Q3 := hidden q3
      clear hC1 hC2 q1 q2 q3
      go_upto_region 11 with (first | (go_at_call 9; refine (compare_is x0 x1 (a2 + a4) (a3 + a4) _ AR1.out RP.out lo0 hi0 lo1 hi1 (by omega) HC2.out).mono ?_; rintro e v2 ⟨rfl, hb⟩; have W2 : Hid (Below w4.heap.size w4 v2) := W1.out.trans (hb.mono W1.out.size); obtain ⟨g2, ar⟩ := HBB.out _ W2.out; have AR2 := hidden ar; clear hb ar) | (go_at_call 9; refine (compare_is x0 x1 a2 a3 _ AR0.out RP.out lo0 hi0 lo1 hi1 (by omega) HC1.out).mono ?_; rintro e v1 ⟨rfl, hb⟩; have W1 : Hid (Below w4.heap.size w4 v1) := W0.out.trans (hb.mono W0.out.size); obtain ⟨g1, ar⟩ := HBB.out _ W1.out; have AR1 := hidden ar; clear hb ar))
      have BF := hidden (HF.out _ W2.out)
      clear HC1 HC2 W1 W2 AR1 AR2 g0 g1 g2 HBB HF AR0 W0
      by_cases e11 : E1 = 11
      · by_cases f13 : E2 = 13
        · have z1 := Q1.out e11 f13
          have b1 : (E1 == 11) = true := by rw [e11]; rfl
          have b2 : (E2 != 13) = false := by rw [f13]; rfl
          clear Q1 Q2 Q3 e11 f13
          go_wp2_with fail
          all_goals go_ret
          all_goals exact ⟨by simp, BF.out⟩
        · have b1 : (E1 == 11) = true := by rw [e11]; rfl
          have b2 : (E2 != 13) = true := by simp [f13]
          clear Q1 Q2 Q3 e11 f13
          go_wp2_with fail
          all_goals go_ret
          all_goals exact ⟨rfl, BF.out⟩
      · have b1 : (E1 == 11) = false := beq_eq_false_iff_ne.2 e11
        by_cases e13 : E1 = 13
        · obtain ⟨z1, z2⟩ := Q2.out e13
          have b2 : (E1 == 13) = true := by rw [e13]; rfl
          have b3 : (S1 == a3) = true := by rw [z1]; simp
          clear Q1 Q2 Q3 e11 e13 z1
          go_wp2_with fail
          all_goals go_ret
          all_goals exact ⟨by simp, BF.out⟩
        · have b2 : (E1 == 13) = false := beq_eq_false_iff_ne.2 e13
          obtain ⟨⟨z1, z2, z3⟩, z4⟩ := Q3.out e11 e13
          clear Q1 Q2 Q3 e11 e13
          subst z1 z2 z3
          go_wp2_with fail
          all_goals go_ret
          all_goals exact ⟨by simp, BF.out⟩
end Go.Proofs.Ytcbgjkedmboifab

/-
  OrderRoom: with more room, or more steps, what was told is told. Condition: the Values lie in memory.
-/
namespace Go.Proofs.Ytcbgjkedmboifab
open Go.ChangeShapes Go.WideShapes Go.ChangeAt Go.RowKit Go.Deep
set_option linter.unusedVariables false
set_option maxHeartbeats 1000000

set_option maxRecDepth 100000 in
set_option maxHeartbeats 8000000 in
theorem room_out {k n : Int} {b : ByteArray} {al : Option Addr} {len cap : Nat} {k' n' : Int} {b' : ByteArray} {al' : Option Addr} {len' cap' : Nat} (a2 a3 a4 : Int) (w : World) (h : a2 < 0 ∨ 1048576 < a2) :
    Calls Try.prog 3 #[.agg #[.int .i64 k, .int .i64 n, .string b, .slice al len cap], .agg #[.int .i64 k', .int .i64 n', .string b', .slice al' len' cap'], .int .i64 a2, .int .i64 a3, .int .u16 a4] w fun e w' => e = .returned (.bool true) ∧ Below w.heap.size w w' := by
  have B0 : Hid (Below w.heap.size w ((w.alloc (.cells #[.int .i64 k, .int .i64 n, .string b, .slice al len cap] 24)).alloc (.cells #[.int .i64 k', .int .i64 n', .string b', .slice al' len' cap'] 24))) := (below_alloc w _).alloc (by simp only [nblk_alloc]; omega) _
  by_cases h1 : a2 < 0
  · go_enter Try.func3, Try.ntmps3
    go_upto_region 1 with fail
    generalize (w.alloc (.cells #[.int .i64 k, .int .i64 n, .string b, .slice al len cap] 24)).alloc (.cells #[.int .i64 k', .int .i64 n', .string b', .slice al' len' cap'] 24) = w0 at *
    go_wp2_with (go_at_call 6; refine (awake_any _).mono ?_; rintro e w1 ⟨rfl, hb1⟩; have B1 := hidden hb1; clear hb1)
    all_goals go_ret
    all_goals exact ⟨rfl, B0.out.trans (B1.out.mono B0.out.size)⟩
  · have h2 : 1048576 < a2 := by omega
    go_enter Try.func3, Try.ntmps3
    go_upto_region 1 with fail
    generalize (w.alloc (.cells #[.int .i64 k, .int .i64 n, .string b, .slice al len cap] 24)).alloc (.cells #[.int .i64 k', .int .i64 n', .string b', .slice al' len' cap'] 24) = w0 at *
    go_wp2_with (go_at_call 6; refine (awake_any _).mono ?_; rintro e w1 ⟨rfl, hb1⟩; have B1 := hidden hb1; clear hb1)
    all_goals go_ret
    all_goals exact ⟨rfl, B0.out.trans (B1.out.mono B0.out.size)⟩
theorem roomAll_any {k n : Int} {b : ByteArray} {al : Option Addr} {len cap : Nat} {k' n' : Int} {b' : ByteArray} {al' : Option Addr} {len' cap' : Nat} (a2 a3 a4 : Int) (w : World) (hv0 : VOk w 201 [.int .i64 k, .int .i64 n, .string b, .slice al len cap]) (hv1 : VOk w 201 [.int .i64 k', .int .i64 n', .string b', .slice al' len' cap']) (u0 : 0 ≤ a4) (u1 : a4 ≤ 65535) :
    Calls Try.prog 3 #[.agg #[.int .i64 k, .int .i64 n, .string b, .slice al len cap], .agg #[.int .i64 k', .int .i64 n', .string b', .slice al' len' cap'], .int .i64 a2, .int .i64 a3, .int .u16 a4] w fun e w' => e = .returned (.bool true) ∧ Below w.heap.size w w' := by
  by_cases h : a2 < 0 ∨ 1048576 < a2
  · exact room_out a2 a3 a4 w h
  · exact room6_any a2 a3 a4 w hv0 hv1 (fun c => h (Or.inl c)) (fun c => h (Or.inr c)) u0 u1
end Go.Proofs.Ytcbgjkedmboifab

/-
  Proved: whatever two Values, room, steps and more are handed to OrderRoom, it returns true. No condition.
-/
namespace Go.Proofs.Ytcbgjkedmboifab.orderRoom
open Go.ChangeShapes Go.WideShapes Go.ChangeAt Go.RowKit
open Go.ChangeMaps (open_string shut_string)
set_option linter.unusedVariables false

theorem own : ownKnob Try.prog.godebug = none := by kernel_rfl
theorem laidOut : laidOutB Try.prog = true := by kernel_rfl

theorem walk (cs0 : Array Value) (cs1 : Array Value) (a2 : Int) (a3 : Int) (a4 : Int) (w : World) (vk0 : VOk w 201 cs0.toList) (vk1 : VOk w 201 cs1.toList) (w2 : (Lit.int .i64 a2).wf = true) (w3 : (Lit.int .i64 a3).wf = true) (w4 : (Lit.int .u16 a4).wf = true) :
    Calls Try.prog 3 #[.agg cs0, .agg cs1, .int .i64 a2, .int .i64 a3, .int .u16 a4] w fun e w' => e = .returned (.bool true) ∧ Below w.heap.size w w' := by
  obtain ⟨k0, n0, b0, al0, len0, cap0, e0, _⟩ := id vk0
  obtain rfl : cs0 = #[.int .i64 k0, .int .i64 n0, .string b0, .slice al0 len0 cap0] := by cases cs0; simpa using e0
  obtain ⟨k1, n1, b1, al1, len1, cap1, e1, _⟩ := id vk1
  obtain rfl : cs1 = #[.int .i64 k1, .int .i64 n1, .string b1, .slice al1 len1 cap1] := by cases cs1; simpa using e1
  exact roomAll_any a2 a3 a4 w vk0 vk1 (bounds_u16 w4).1 (bounds_u16 w4).2

set_option maxRecDepth 100000 in
theorem lifted (os : Os) (started : os.Started) (H : Type) (enc : TypeId × Value → H) :
    ReturnsInHanded {} Try.checked os 3 .any (Rows.orderRoomSpec.pre6 enc Try.prog Try.f3 Rows.orderRoomRow.domain false) (Rows.orderRoomSpec.post enc Try.prog Try.f3 false true false false) := by
  refine returnsInHanded_of_change (C := Try.checked) own started (by kernel_rfl) Try.func3
    (ChangeSpec.witness6 (enc := enc) (C := Try.checked) false ⟨#[], #[.agg #[.int .i64 0, .int .i64 0, .string ByteArray.empty, .slice none 0 0], .agg #[.int .i64 0, .int .i64 0, .string ByteArray.empty, .slice none 0 0], .int .i64 0, .int .i64 0, .int .u16 0], []⟩ 8 (by kernel_rfl) (by kernel_rfl) (by kernel_rfl) (by kernel_rfl)) ?_
  intro W base args ds gs before hval0 hW hcnd _
  have hval : ∀ (j : Nat) t v, Try.f3.params[j]? = some t → args[j]? = some v → Value.okWide Try.prog W .any base t v := hval0
  have hW' := hW
  obtain ⟨p, q, hA0, hV, rfl, hfz, hnd⟩ := hW
  have hA : DataW.TrodAll enc Try.prog W 0 (fun _ => true) true Try.f3.params.toList args.toList ds p := hA0
  rw [Try.params3] at hA hval
  obtain ⟨v0, vs0, d0, ds0, p0, q0, hargs, rfl, rfl, h0, r0⟩ := trodAll_cons hA
  obtain ⟨v1, vs1, d1, ds1, p1, q1, rfl, rfl, rfl, h1, r1⟩ := trodAll_cons r0
  obtain ⟨v2, vs2, d2, ds2, p2, q2, rfl, rfl, rfl, h2, r2⟩ := trodAll_cons r1
  obtain ⟨v3, vs3, d3, ds3, p3, q3, rfl, rfl, rfl, h3, r3⟩ := trodAll_cons r2
  obtain ⟨v4, vs4, d4, ds4, p4, q4, rfl, rfl, rfl, h4, r4⟩ := trodAll_cons r3
  obtain ⟨rfl, rfl, rfl⟩ := trodAll_nil r4
  obtain rfl : args = #[v0, v1, v2, v3, v4] := by cases args; simp_all
  obtain ⟨rfl, rfl⟩ := trodVars_none hV
  obtain ⟨cs0, rfl, _⟩ := okWide_struct Try.underlying24 (hval 0 24 v0 rfl rfl)
  have k0 := h0
  have lt0 : ∀ x ∈ p0, x.block < W.heap.size := by obtain ⟨m, hm⟩ := k0; exact DataW.trod_lt m _ _ _ hm
  have vk0 : VOk W 201 cs0.toList := by obtain ⟨fuel, hf⟩ := h0; exact value_open 201 hf
  obtain ⟨cs1, rfl, _⟩ := okWide_struct Try.underlying24 (hval 1 24 v1 rfl rfl)
  have k1 := h1
  have lt1 : ∀ x ∈ p1, x.block < W.heap.size := by obtain ⟨m, hm⟩ := k1; exact DataW.trod_lt m _ _ _ hm
  have vk1 : VOk W 201 cs1.toList := by obtain ⟨fuel, hf⟩ := h1; exact value_open 201 hf
  obtain ⟨a2, rfl, rfl, rfl, w2⟩ := open_int Try.underlying3 (hval 2 3 v2 rfl rfl) h2
  obtain ⟨a3, rfl, rfl, rfl, w3⟩ := open_int Try.underlying2 (hval 3 2 v3 rfl rfl) h3
  obtain ⟨a4, rfl, rfl, rfl, w4⟩ := open_int Try.underlying25 (hval 4 25 v4 rfl rfl) h4
  clear hA0 hval0
  refine (walk cs0 cs1 a2 a3 a4 W vk0 vk1 w2 w3 w4).mono fun e W' ⟨he, bel⟩ => ?_
  subst he
  exact ⟨_, rfl, _, _, _, [], _, [], hW', trodAll_mk1 (shut_bool Try.underlying4 _), (trodAll_cons_mk (Below.trod laidOut (by kernel_rfl) (of_decide_eq_true (by kernel_rfl)) k0 bel lt0) (trodAll_cons_mk (Below.trod laidOut (by kernel_rfl) (of_decide_eq_true (by kernel_rfl)) k1 bel lt1) (trodAll_cons_mk (shut_int Try.underlying3 w2) (trodAll_cons_mk (shut_int Try.underlying2 w3) (trodAll_cons_mk (shut_int Try.underlying25 w4) trodAll_mk0))))), rfl, bel.frame _, fun h => by cases h⟩

theorem over : Rows.orderRoomRow.holds Try.pinned (OpenSpec.ofChange Rows.orderRoomSpec) :=
  OpenClaim.holds_of_wide 3 Try.f3 rfl rfl rfl rfl rfl rfl rfl ⟨rfl, rfl, rfl, rfl, rfl⟩ rfl rfl rfl rfl rfl (by kernel_rfl) Try.func3 (by kernel_rfl)
    (of_decide_eq_true (by kernel_rfl)) (by unfold Func.isWrapper; first | (rw [if_pos (by decide +kernel)]; kernel_rfl) | (rw [if_neg (by decide +kernel)]; exact ⟨rfl, rfl⟩))
    (fun os started H enc _ => lifted os started H enc)
theorem proved : Rows.OrderRoomSaid := over
end Go.Proofs.Ytcbgjkedmboifab.orderRoom

namespace Go.Proofs.Ytcbgjkedmboifab
/-- The statement. -/
theorem orderRoom_holds : Rows.OrderRoomSaid := orderRoom.proved
#print axioms orderRoom_holds
end Go.Proofs.Ytcbgjkedmboifab
