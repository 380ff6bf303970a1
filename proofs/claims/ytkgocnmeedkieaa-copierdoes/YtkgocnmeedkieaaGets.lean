/-
  What Leads, Tag, Size, field and Get tell, by plain arithmetic over the arena's state; the world is as it was but for draws of an order. Condition: the arena lies in memory (Ar), a word's argument is one.
-/
import Derived.Test.YtkgocnmeedkieaaFinds
namespace Go.Proofs.Ytkgocnmeedkieaa
open Go.ChangeShapes Go.WideShapes Go.ChangeAt Go.RowKit Go.Deep
set_option linter.unusedVariables false
set_option maxHeartbeats 400000

theorem ret_two {k l : IntKind} {a b c d : Int} (h1 : a = c) (h2 : b = d) : Ending.returned (.tuple #[.int k a, .int l b]) = .returned (.tuple #[.int k c, .int l d]) := by rw [h1, h2]
theorem find_blk {s : St} {x : Int} (g : (s.find x).1 ≠ 0) : s.isBlk (s.find x).1 = true := by
  revert g
  unfold St.find
  split
  · intro _; assumption
  · split
    · intro g; exact absurd rfl g
    · split
      · rename_i h; intro _
        have := h.2
        unfold St.isInr at this
        simp at this
        exact this.1.1
      · intro g; exact absurd rfl g
theorem find_rng {w : World} {p : Pl} {s : St} (h : Ar w p s) (x : Int) : 0 ≤ (s.find x).1 ∧ (s.find x).1 ≤ 2 * s.n := by
  by_cases g : (s.find x).1 = 0
  · rw [g]; omega
  · have := blk_rng h (find_blk g); omega
theorem leads_any {p : Pl} {s : St} (x : Int) (w : World) (h : Ar w p s) (h0 : 0 ≤ x) (h1 : x ≤ 18446744073709551615) :
    Calls Try.prog 26 #[.pointer (some ⟨p.a, 0, none⟩), .int .u64 x] w fun e w' => e = .returned (.tuple #[.int .u64 (2 * (s.find x).1), .int .i64 (s.find x).2]) ∧ ∃ m, w' = w.drewN m := by
  obtain ⟨r0, r1⟩ := find_rng h x
  have n2 := h.n2
  have HP : Hid (ptrW (s.find x).1 = 2 * (s.find x).1) := by show _ = _; unfold ptrW; rw [if_neg (by omega)]
  go_enter Try.func26, Try.ntmps26
  go_wp2_with (first | (go_at_call 46; refine (orNone_any _ h).mono ?_; rintro e w' ⟨rfl, rfl⟩) | (go_at_call 49; refine (find_any x _ h h0 h1).mono ?_; rintro e w' ⟨rfl, m, rfl⟩) | (go_at_call 48; refine (ptr_any _ _ (by omega) (by omega)).mono ?_; rintro e w' ⟨rfl, rfl⟩))
  all_goals go_ret2
  all_goals exact ⟨ret_two HP.out rfl, _, rfl⟩
theorem tag_of {p : Pl} {s : St} (x : Int) (w : World) (h : Ar w p s) (h0 : 0 ≤ x) (h1 : x ≤ 18446744073709551615) :
    Calls Try.prog 27 #[.pointer (some ⟨p.a, 0, none⟩), .int .u64 x] w fun e w' => e = .returned (.int .i64 (s.tag x)) ∧ ∃ m, w' = w.drewN m := by
  obtain ⟨r0, r1⟩ := find_rng h x
  by_cases g : (s.find x).1 = 0
  · have HV : Hid (s.tag x = -1) := by show _ = _; unfold St.tag; rw [if_pos g]
    have G : ((s.find x).1 == 0) = true := by rw [beq_iff_eq]; exact g
    clear g
    go_enter Try.func27, Try.ntmps27
    go_wp2_with (first | (go_at_call 46; refine (orNone_any _ h).mono ?_; rintro e w' ⟨rfl, rfl⟩) | (go_at_call 49; refine (find_any x _ h h0 h1).mono ?_; rintro e w' ⟨rfl, m, rfl⟩))
    all_goals go_ret
    all_goals exact ⟨ret_int HV.out.symm, _, rfl⟩
  · have HV : Hid (s.tag x = s.tagAt (s.find x).1) := by show _ = _; unfold St.tag; rw [if_neg g]
    have G : ((s.find x).1 == 0) = false := beq_eq_false_iff_ne.2 g
    have g1 : 1 ≤ (s.find x).1 := by omega
    clear g
    go_enter Try.func27, Try.ntmps27
    go_wp2_with (first | (go_at_call 46; refine (orNone_any _ h).mono ?_; rintro e w' ⟨rfl, rfl⟩) | (go_at_call 49; refine (find_any x _ h h0 h1).mono ?_; rintro e w' ⟨rfl, m, rfl⟩) | (go_at_call 50; refine (tagAt_any _ _ (h.drewN _) g1 r1).mono ?_; rintro e w' ⟨rfl, rfl⟩))
    all_goals go_ret
    all_goals exact ⟨ret_int HV.out.symm, _, rfl⟩
theorem size_of {p : Pl} {s : St} (x : Int) (w : World) (h : Ar w p s) (h0 : 0 ≤ x) (h1 : x ≤ 18446744073709551615) :
    Calls Try.prog 25 #[.pointer (some ⟨p.a, 0, none⟩), .int .u64 x] w fun e w' => e = .returned (.int .i64 (s.size x)) ∧ ∃ m, w' = w.drewN m := by
  obtain ⟨r0, r1⟩ := find_rng h x
  by_cases g : (s.find x).1 = 0
  · have HV : Hid (s.size x = -1) := by show _ = _; unfold St.size; rw [if_pos g]
    have G : ((s.find x).1 == 0) = true := by rw [beq_iff_eq]; exact g
    clear g
    go_enter Try.func25, Try.ntmps25
    go_wp2_with (first | (go_at_call 46; refine (orNone_any _ h).mono ?_; rintro e w' ⟨rfl, rfl⟩) | (go_at_call 49; refine (find_any x _ h h0 h1).mono ?_; rintro e w' ⟨rfl, m, rfl⟩))
    all_goals go_ret
    all_goals exact ⟨ret_int HV.out.symm, _, rfl⟩
  · have HV : Hid (s.size x = s.sizeAt (s.find x).1) := by show _ = _; unfold St.size; rw [if_neg g]
    have G : ((s.find x).1 == 0) = false := beq_eq_false_iff_ne.2 g
    have g1 : 1 ≤ (s.find x).1 := by omega
    clear g
    go_enter Try.func25, Try.ntmps25
    go_wp2_with (first | (go_at_call 46; refine (orNone_any _ h).mono ?_; rintro e w' ⟨rfl, rfl⟩) | (go_at_call 49; refine (find_any x _ h h0 h1).mono ?_; rintro e w' ⟨rfl, m, rfl⟩) | (go_at_call 47; refine (sizeAt_any _ _ (h.drewN _) g1 r1).mono ?_; rintro e w' ⟨rfl, rfl⟩))
    all_goals go_ret
    all_goals exact ⟨ret_int HV.out.symm, _, rfl⟩
/-- The cell of a field; 0 where there is none. -/
def St.fieldC (s : St) (x i : Int) : Int := if s.fieldE x i = 0 then (s.find x).1 + i else 0
theorem field_any {p : Pl} {s : St} (x i : Int) (w : World) (h : Ar w p s) (h0 : 0 ≤ x) (h1 : x ≤ 18446744073709551615) :
    Calls Try.prog 51 #[.pointer (some ⟨p.a, 0, none⟩), .int .u64 x, .int .i64 i] w fun e w' => e = .returned (.tuple #[.int .i64 (s.fieldC x i), .int .i64 (s.fieldE x i)]) ∧ ∃ m, w' = w.drewN m := by
  obtain ⟨r0, r1⟩ := find_rng h x
  have n2 := h.n2
  have s1 : s.sizeAt (s.find x).1 ≤ 2147483647 := sizeW_hi _
  by_cases g : (s.find x).1 = 0
  · have HV : Hid (s.fieldE x i = 6) := by show _ = _; unfold St.fieldE; rw [if_pos g]
    have HC : Hid (s.fieldC x i = 0) := by show _ = _; unfold St.fieldC; rw [if_neg (by rw [HV.out]; omega)]
    have G : ((s.find x).1 == 0) = true := by rw [beq_iff_eq]; exact g
    clear g
    go_enter Try.func51, Try.ntmps51
    go_wp2_with (first | (go_at_call 49; refine (find_any x _ h h0 h1).mono ?_; rintro e w' ⟨rfl, m, rfl⟩))
    all_goals go_ret2
    all_goals exact ⟨ret_two HC.out.symm HV.out.symm, _, rfl⟩
  · have G : ((s.find x).1 == 0) = false := beq_eq_false_iff_ne.2 g
    have g1 : 1 ≤ (s.find x).1 := by omega
    by_cases c1 : i < 0
    · have HV : Hid (s.fieldE x i = 2) := by show _ = _; unfold St.fieldE; rw [if_neg g, if_pos (Or.inl c1)]
      have HC : Hid (s.fieldC x i = 0) := by show _ = _; unfold St.fieldC; rw [if_neg (by rw [HV.out]; omega)]
      clear g
      go_enter Try.func51, Try.ntmps51
      go_wp2_with (first | (go_at_call 49; refine (find_any x _ h h0 h1).mono ?_; rintro e w' ⟨rfl, m, rfl⟩))
      all_goals go_ret2
      all_goals exact ⟨ret_two HC.out.symm HV.out.symm, _, rfl⟩
    · by_cases c2 : s.sizeAt (s.find x).1 ≤ i
      · have HV : Hid (s.fieldE x i = 2) := by show _ = _; unfold St.fieldE; rw [if_neg g, if_pos (Or.inr c2)]
        have HC : Hid (s.fieldC x i = 0) := by show _ = _; unfold St.fieldC; rw [if_neg (by rw [HV.out]; omega)]
        clear g
        go_enter Try.func51, Try.ntmps51
        go_wp2_with (first | (go_at_call 49; refine (find_any x _ h h0 h1).mono ?_; rintro e w' ⟨rfl, m, rfl⟩) | (go_at_call 47; refine (sizeAt_any _ _ (h.drewN _) g1 r1).mono ?_; rintro e w' ⟨rfl, rfl⟩))
        all_goals go_ret2
        all_goals exact ⟨ret_two HC.out.symm HV.out.symm, _, rfl⟩
      · have HV : Hid (s.fieldE x i = 0) := by show _ = _; unfold St.fieldE; rw [if_neg g, if_neg (by omega)]
        have HC : Hid (s.fieldC x i = (s.find x).1 + i) := by show _ = _; unfold St.fieldC; rw [if_pos HV.out]
        clear g
        go_enter Try.func51, Try.ntmps51
        go_wp2_with (first | (go_at_call 49; refine (find_any x _ h h0 h1).mono ?_; rintro e w' ⟨rfl, m, rfl⟩) | (go_at_call 47; refine (sizeAt_any _ _ (h.drewN _) g1 r1).mono ?_; rintro e w' ⟨rfl, rfl⟩))
        all_goals go_ret2
        all_goals exact ⟨ret_two HC.out.symm HV.out.symm, _, rfl⟩
theorem blk_head {w : World} {p : Pl} {s : St} (h : Ar w p s) {a : Int} (g : s.isBlk a = true) : (s.base : Int) + 1 ≤ a ∧ a ≤ s.top := by
  unfold St.isBlk St.inUse at g
  simp at g
  omega
/-- The blocks lie within what is in use. -/
def St.Fits (s : St) : Prop := ∀ a : Int, s.isBlk a = true → a + s.sizeAt a ≤ s.top
theorem field_rng {w : World} {p : Pl} {s : St} (h : Ar w p s) (hf : s.Fits) {x i : Int} (g : s.fieldE x i = 0) : 1 ≤ s.fieldC x i ∧ s.fieldC x i < 2 * s.n ∧ 0 ≤ i ∧ 1 ≤ (s.find x).1 := by
  unfold St.fieldC
  rw [if_pos g]
  unfold St.fieldE at g
  split at g
  · exact absurd g (by decide)
  · rename_i c
    split at g
    · exact absurd g (by decide)
    · rename_i c2
      have := find_rng h x
      have f := hf _ (find_blk c)
      have := h.b1; have := h.t2
      omega
theorem get_any {p : Pl} {s : St} (x i : Int) (w : World) (h : Ar w p s) (hf : s.Fits) (h0 : 0 ≤ x) (h1 : x ≤ 18446744073709551615) :
    Calls Try.prog 28 #[.pointer (some ⟨p.a, 0, none⟩), .int .u64 x, .int .i64 i] w fun e w' => e = .returned (.tuple #[.int .u64 (s.get x i), .int .i64 (s.fieldE x i)]) ∧ ∃ m, w' = w.drewN m := by
  obtain ⟨c0, c1, c2, c3, c4, c5, c6⟩ := h.cells
  by_cases g : s.fieldE x i = 0
  · have HV : Hid (s.get x i = s.C (s.fieldC x i).toNat) := by show _ = _; unfold St.get St.fieldC; rw [if_pos g, if_pos g]
    have HE : Hid (s.fieldE x i = 0) := g
    have G : (s.fieldE x i != 0) = false := by rw [g]; rfl
    obtain ⟨f0, f1, f2, f3⟩ := field_rng h hf g
    have cc := h.cellC (s.fieldC x i).toNat (by omega)
    clear g
    go_enter Try.func28, Try.ntmps28
    go_wp2_with (first | (go_at_call 46; refine (orNone_any _ h).mono ?_; rintro e w' ⟨rfl, rfl⟩) | (go_at_call 51; refine (field_any x i _ h h0 h1).mono ?_; rintro e w' ⟨rfl, m, rfl⟩))
    all_goals go_ret2
    all_goals exact ⟨ret_two HV.out.symm HE.out.symm, _, rfl⟩
  · have HV : Hid (s.get x i = 0) := by show _ = _; unfold St.get; rw [if_neg g]
    have G : (s.fieldE x i != 0) = true := by rw [bne_iff_ne]; exact g
    clear g
    go_enter Try.func28, Try.ntmps28
    go_wp2_with (first | (go_at_call 46; refine (orNone_any _ h).mono ?_; rintro e w' ⟨rfl, rfl⟩) | (go_at_call 51; refine (field_any x i _ h h0 h1).mono ?_; rintro e w' ⟨rfl, m, rfl⟩))
    all_goals go_ret2
    all_goals exact ⟨ret_two HV.out.symm rfl, _, rfl⟩
end Go.Proofs.Ytkgocnmeedkieaa
