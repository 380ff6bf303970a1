/-
  What find, Leads, Tag, Size, field and Get tell, by plain arithmetic over the arena's state; the world is as it was but for draws of an order. Condition: the arena lies in memory (Ar), a word's argument is one.
-/
import Derived.Test.YtkgocnmeedkieaaReads
namespace Go.Proofs.Ytkgocnmeedkieaa
open Go.ChangeShapes Go.WideShapes Go.ChangeAt Go.RowKit Go.Deep
set_option linter.unusedVariables false
set_option maxHeartbeats 400000

theorem blk_rng {w : World} {p : Pl} {s : St} (h : Ar w p s) {a : Int} (g : s.isBlk a = true) : 1 ≤ a ∧ a ≤ 2 * s.n := by
  have := h.b1; have := h.t1; have := h.t2
  unfold St.isBlk St.inUse at g
  simp at g
  omega
theorem use_rng {w : World} {p : Pl} {s : St} (h : Ar w p s) {a : Int} (g : s.inUse a = true) : 0 ≤ a ∧ a < 2 * s.n := by
  have := h.b1; have := h.t1; have := h.t2
  unfold St.inUse at g
  simp at g
  omega
theorem addrW_lo (x : Int) (h : 0 ≤ x) : 0 ≤ addrW x := by unfold addrW; split <;> omega
theorem addrW_hi (x : Int) : addrW x ≤ 2147483647 := by unfold addrW; split <;> omega
theorem sizeW_lo (x : Int) : 0 ≤ sizeW x := by
  unfold sizeW; split
  · rename_i h; unfold isHeadW at h; simp at h; omega
  · omega
theorem sizeW_hi (x : Int) : sizeW x ≤ 2147483647 := by
  unfold sizeW; split
  · rename_i h; unfold isHeadW at h; simp at h; omega
  · omega
theorem isInner_any {p : Pl} {s : St} (a d : Int) (w : World) (h : Ar w p s) (h0 : -4294967296 ≤ a) (h1 : a ≤ 4294967296) :
    Calls Try.prog 73 #[.pointer (some ⟨p.a, 0, none⟩), .int .i64 a, .int .i64 d] w fun e w' => e = .returned (.bool (s.isInr a d)) ∧ ∃ m, w' = w.drewN m := by
  cases g : s.isBlk a
  · have HV : Hid (s.isInr a d = false) := by show _ = _; unfold St.isInr; rw [g]; rfl
    go_enter Try.func73, Try.ntmps73
    go_wp2_with (go_at_call 70; refine (isBlock_at a false _ h h0 h1 g).mono ?_; rintro e w' ⟨rfl, m, rfl⟩)
    go_ret
    exact ⟨ret_bool HV.out.symm, _, rfl⟩
  · obtain ⟨r1, r2⟩ := blk_rng h g
    by_cases g2 : s.tagAt a = 200
    · have HV : Hid (s.isInr a d = decide (d < s.sizeAt a)) := by show _ = _; unfold St.isInr; rw [g, g2]; simp
      have G2 : (s.tagAt a == 200) = true := by rw [beq_iff_eq]; exact g2
      clear g2
      go_enter Try.func73, Try.ntmps73
      go_wp2_with (first | (go_at_call 70; refine (isBlock_at a true _ h h0 h1 g).mono ?_; rintro e w' ⟨rfl, m, rfl⟩) | (go_at_call 50; refine (tagAt_any a _ (h.drewN _) r1 r2).mono ?_; rintro e w' ⟨rfl, rfl⟩) | (go_at_call 47; refine (sizeAt_any a _ (h.drewN _) r1 r2).mono ?_; rintro e w' ⟨rfl, rfl⟩))
      all_goals go_ret
      all_goals exact ⟨ret_bool HV.out.symm, _, rfl⟩
    · have HV : Hid (s.isInr a d = false) := by show _ = _; unfold St.isInr; rw [g, beq_eq_false_iff_ne.2 g2]; simp
      have G2 : (s.tagAt a == 200) = false := beq_eq_false_iff_ne.2 g2
      clear g2
      go_enter Try.func73, Try.ntmps73
      go_wp2_with (first | (go_at_call 70; refine (isBlock_at a true _ h h0 h1 g).mono ?_; rintro e w' ⟨rfl, m, rfl⟩) | (go_at_call 50; refine (tagAt_any a _ (h.drewN _) r1 r2).mono ?_; rintro e w' ⟨rfl, rfl⟩))
      all_goals go_ret
      all_goals exact ⟨ret_bool HV.out.symm, _, rfl⟩
theorem isInner_at {p : Pl} {s : St} (a d : Int) (b : Bool) (w : World) (h : Ar w p s) (h0 : -4294967296 ≤ a) (h1 : a ≤ 4294967296) (g : s.isInr a d = b) :
    Calls Try.prog 73 #[.pointer (some ⟨p.a, 0, none⟩), .int .i64 a, .int .i64 d] w fun e w' => e = .returned (.bool b) ∧ ∃ m, w' = w.drewN m := by
  subst g; exact isInner_any a d w h h0 h1
theorem ret_pair {k l : IntKind} {a b c d : Int} {q : Int × Int} (h : q = (c, d)) (h1 : a = c) (h2 : b = d) : Ending.returned (.tuple #[.int k a, .int l b]) = .returned (.tuple #[.int k q.1, .int l q.2]) := by rw [h, h1, h2]
theorem find_any {p : Pl} {s : St} (x : Int) (w : World) (h : Ar w p s) (h0 : 0 ≤ x) (h1 : x ≤ 18446744073709551615) :
    Calls Try.prog 49 #[.pointer (some ⟨p.a, 0, none⟩), .int .u64 x] w fun e w' => e = .returned (.tuple #[.int .i64 (s.find x).1, .int .i64 (s.find x).2]) ∧ ∃ m, w' = w.drewN m := by
  obtain ⟨c0, c1, c2, c3, c4, c5, c6⟩ := h.cells
  have n2 := h.n2
  have a0 := addrW_lo x h0
  have a1 := addrW_hi x
  cases g : s.isBlk (addrW x)
  · cases g2 : s.inUse (addrW x - 1)
    · have HV : Hid (s.find x = (0, 0)) := by show _ = _; unfold St.find; rw [if_neg (by rw [g]; simp), if_pos g2]
      go_enter Try.func49, Try.ntmps49
      go_wp2_with (first | (go_at_call 69; refine (addr_any x _ h0 h1).mono ?_; rintro e w' ⟨rfl, rfl⟩) | (go_at_call 70; refine (isBlock_at _ false _ h (by omega) (by omega) g).mono ?_; rintro e w' ⟨rfl, m, rfl⟩) | (go_at_call 71; refine (inUse_at _ false _ (h.drewN _) g2).mono ?_; rintro e w' ⟨rfl, rfl⟩))
      all_goals go_ret2
      all_goals exact ⟨ret_pair HV.out rfl rfl, _, rfl⟩
    · obtain ⟨u1, u2⟩ := use_rng h g2
      have cc := h.cellC ((addrW x).toNat - 1) (by omega)
      have lo := h.lo ((addrW x).toNat - 1)
      have hi := h.hi ((addrW x).toNat - 1)
      have s0 := sizeW_lo (s.C ((addrW x).toNat - 1))
      have s1 := sizeW_hi (s.C ((addrW x).toNat - 1))
      by_cases g3 : s.tagAt (addrW x) = 201
      · have G3 : (tagW (s.C ((addrW x).toNat - 1)) == 201) = true := by rw [beq_iff_eq]; exact g3
        have G3' : (tagW (s.C ((addrW x).toNat - 1)) != 201) = false := by rw [bne, G3]; rfl
        cases g4 : s.isInr (addrW x - sizeW (s.C ((addrW x).toNat - 1))) (sizeW (s.C ((addrW x).toNat - 1)))
        · have HV : Hid (s.find x = (0, 0)) := by show _ = _; unfold St.find; rw [if_neg (by rw [g]; simp), if_neg (by rw [g2]; simp), if_neg (by rintro ⟨_, e⟩; unfold St.sizeAt at e; rw [g4] at e; cases e)]
          clear g3
          go_enter Try.func49, Try.ntmps49
          go_wp2_with (first | (go_at_call 69; refine (addr_any x _ h0 h1).mono ?_; rintro e w' ⟨rfl, rfl⟩) | (go_at_call 70; refine (isBlock_at _ false _ h (by omega) (by omega) g).mono ?_; rintro e w' ⟨rfl, m, rfl⟩) | (go_at_call 71; refine (inUse_at _ true _ (h.drewN _) g2).mono ?_; rintro e w' ⟨rfl, rfl⟩) | (go_at_call 68; refine (size_any _ _ (by omega) (by omega)).mono ?_; rintro e w' ⟨rfl, rfl⟩) | (go_at_call 72; refine (tag_any _ _ (by omega) (by omega)).mono ?_; rintro e w' ⟨rfl, rfl⟩) | (go_at_call 73; refine (isInner_at _ _ false _ (h.drewN _) (by omega) (by omega) g4).mono ?_; rintro e w' ⟨rfl, m', rfl⟩))
          all_goals go_ret2
          all_goals exact ⟨ret_pair HV.out rfl rfl, _, rfl⟩
        · have HV : Hid (s.find x = (addrW x - sizeW (s.C ((addrW x).toNat - 1)), sizeW (s.C ((addrW x).toNat - 1)))) := by show _ = _; unfold St.find; rw [if_neg (by rw [g]; simp), if_neg (by rw [g2]; simp), if_pos ⟨g3, g4⟩]; rfl
          clear g3
          go_enter Try.func49, Try.ntmps49
          go_wp2_with (first | (go_at_call 69; refine (addr_any x _ h0 h1).mono ?_; rintro e w' ⟨rfl, rfl⟩) | (go_at_call 70; refine (isBlock_at _ false _ h (by omega) (by omega) g).mono ?_; rintro e w' ⟨rfl, m, rfl⟩) | (go_at_call 71; refine (inUse_at _ true _ (h.drewN _) g2).mono ?_; rintro e w' ⟨rfl, rfl⟩) | (go_at_call 68; refine (size_any _ _ (by omega) (by omega)).mono ?_; rintro e w' ⟨rfl, rfl⟩) | (go_at_call 72; refine (tag_any _ _ (by omega) (by omega)).mono ?_; rintro e w' ⟨rfl, rfl⟩) | (go_at_call 73; refine (isInner_at _ _ true _ (h.drewN _) (by omega) (by omega) g4).mono ?_; rintro e w' ⟨rfl, m', rfl⟩))
          all_goals go_ret2
          all_goals exact ⟨ret_pair HV.out rfl rfl, _, rfl⟩
      · have HV : Hid (s.find x = (0, 0)) := by show _ = _; unfold St.find; rw [if_neg (by rw [g]; simp), if_neg (by rw [g2]; simp), if_neg (fun e => g3 e.1)]
        have G3 : (tagW (s.C ((addrW x).toNat - 1)) == 201) = false := beq_eq_false_iff_ne.2 g3
        have G3' : (tagW (s.C ((addrW x).toNat - 1)) != 201) = true := by rw [bne, G3]; rfl
        clear g3
        go_enter Try.func49, Try.ntmps49
        go_wp2_with (first | (go_at_call 69; refine (addr_any x _ h0 h1).mono ?_; rintro e w' ⟨rfl, rfl⟩) | (go_at_call 70; refine (isBlock_at _ false _ h (by omega) (by omega) g).mono ?_; rintro e w' ⟨rfl, m, rfl⟩) | (go_at_call 71; refine (inUse_at _ true _ (h.drewN _) g2).mono ?_; rintro e w' ⟨rfl, rfl⟩) | (go_at_call 68; refine (size_any _ _ (by omega) (by omega)).mono ?_; rintro e w' ⟨rfl, rfl⟩) | (go_at_call 72; refine (tag_any _ _ (by omega) (by omega)).mono ?_; rintro e w' ⟨rfl, rfl⟩))
        all_goals go_ret2
        all_goals exact ⟨ret_pair HV.out rfl rfl, _, rfl⟩
  · have HV : Hid (s.find x = (addrW x, 0)) := by show _ = _; unfold St.find; rw [if_pos g]
    go_enter Try.func49, Try.ntmps49
    go_wp2_with (first | (go_at_call 69; refine (addr_any x _ h0 h1).mono ?_; rintro e w' ⟨rfl, rfl⟩) | (go_at_call 70; refine (isBlock_at _ true _ h (by omega) (by omega) g).mono ?_; rintro e w' ⟨rfl, m, rfl⟩))
    all_goals go_ret2
    all_goals exact ⟨ret_pair HV.out rfl rfl, _, rfl⟩
end Go.Proofs.Ytkgocnmeedkieaa
