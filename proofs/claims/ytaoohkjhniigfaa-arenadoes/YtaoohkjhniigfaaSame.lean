/-
  The statements' same and all: two arenas in one state tell the same of any word and field, and of all their blocks. Condition: both lie in memory, in one state.
-/
import Derived.Test.YtaoohkjhniigfaaApartLaw
namespace Go.Proofs.Ytaoohkjhniigfaa
open Go.ChangeShapes Go.WideShapes Go.ChangeAt Go.RowKit Go.Deep
set_option linter.unusedVariables false
set_option maxHeartbeats 2000000
variable {w : World} {p : Pl} {s : St} {rb : Nat} {r : RS} {a : Option Addr} {cap : Nat} {V : Nat → Value}

theorem two_drew {w' : World} {m : Nat} (hw : w' = w.drewN m) (h : Two w p s rb r a cap V) : Two w' p s rb r a cap V := by rw [hw]; exact h.drewN m
theorem same_any (x i : Int) (w : World) (h : Two w p s rb r a cap V) (h0 : 0 ≤ x) (h1 : x ≤ 18446744073709551615) :
    Calls Try.prog 33 #[.pointer (some ⟨p.a, 0, none⟩), .pointer (some ⟨rb, 0, none⟩), .int .u64 x, .int .i64 i] w fun e w' => e = .returned (.bool true) ∧ ∃ m, w' = w.drewN m := by
  have HF : Hid _ := h.bo.rep.fits
  go_enter Try.func33, Try.ntmps33
  go_wp2_with (first | (go_at_call 24; refine (leads_any x _ h.ar h0 h1).mono ?_; rintro e w1 ⟨rfl, m1, rfl⟩) | (go_at_call 48; refine (rleads_any x _ (h.bo.drewN _) h0 h1).mono ?_; rintro e w2 ⟨rfl, m2, rfl⟩) | (go_at_call 19; refine (get_any x i _ (h.ar.drewN _) HF.out h0 h1).mono ?_; rintro e w3 ⟨rfl, m3, rfl⟩) | (go_at_call 49; refine (rget_any x i _ (h.bo.drewN _) h0 h1).mono ?_; rintro e w4 ⟨rfl, m4, rfl⟩) | (go_at_call 22; refine (tag_of x _ (h.ar.drewN _) h0 h1).mono ?_; rintro e w5 ⟨rfl, m5, rfl⟩) | (go_at_call 50; refine (rtag_of x _ (h.bo.drewN _) h0 h1).mono ?_; rintro e w6 ⟨rfl, m6, rfl⟩) | (go_at_call 16; refine (size_of x _ (h.ar.drewN _) h0 h1).mono ?_; rintro e w7 ⟨rfl, m7, rfl⟩) | (go_at_call 51; refine (rsize_of x _ (h.bo.drewN _) h0 h1).mono ?_; rintro e w8 ⟨rfl, m8, rfl⟩))
  all_goals go_ret
  all_goals exact ⟨rfl, _, rfl⟩
theorem half_is (v : Nat) (w : World) (h : Ar w p s) (hv : s.n = v) :
    Calls Try.prog 30 #[.pointer (some ⟨p.a, 0, none⟩)] w fun e w' => e = .returned (.int .i64 v) ∧ w' = w := by
  subst hv; exact half_any w h
theorem rtop_is (B T : Nat) (w : World) (h : Rf w rb r a cap V) (hB : B = r.n * r.which) (hn : r.n ≤ 32768) (hw : r.which ≤ 1) (hB2 : B ≤ 32768) (hL : lenB r.L ≤ 100000) (hLl : r.L.length ≤ 100000) (hT : B + lenB r.L = T) :
    Calls Try.prog 32 #[.pointer (some ⟨rb, 0, none⟩)] w fun e w' => e = .returned (.int .i64 T) ∧ ∃ m, w' = w.drewN m := by
  subst hT; exact rtop_any B w h hB hn hw hB2 hL hLl
theorem rptr_is (x v : Int) (w : World) (h : -9223372036854775808 ≤ x) (h' : x ≤ 9223372036854775807) (hv : ptrW x = v) :
    Calls Try.prog 15 #[.int .i64 x] w fun e w' => e = .returned (.int .u64 v) ∧ w' = w := by
  subst hv; exact rptr_any x w h h'
set_option maxRecDepth 100000 in
theorem all_any (x : Int) (w : World) (h : Two w p s rb r a cap V) (h0 : 0 ≤ x) (h1 : x ≤ 18446744073709551615) :
    Calls Try.prog 12 #[.pointer (some ⟨p.a, 0, none⟩), .pointer (some ⟨rb, 0, none⟩), .int .u64 x] w fun e w' => e = .returned (.bool true) ∧ Below w.heap.size w w' := by
  obtain ⟨z1, z2, z3, z4, z5⟩ := h.bo.sizes
  obtain ⟨m, hm⟩ : ∃ m, m = r.L.length := ⟨_, rfl⟩
  have HM : Hid _ := hm
  have HR : Hid _ := h.bo.rep
  have HSN : Hid _ := h.bo.rep.n
  have HB : Hid _ := h.bo.rep.base
  have HT : Hid _ := h.bo.rep.top
  have hwh := h.bo.rep.wh
  have hml : m ≤ 32768 := by omega
  clear hm
  go_enter Try.func12, Try.ntmps12
  go_wp2_with fail
  refine (blocks_any m _ h.ar HR.out HM.out).mono ?_
  rintro e w1 ⟨ba, bc, rfl, u1, u2, b1⟩
  obtain ⟨g, hg, hW⟩ := words_of u1 u2
  have h1' : Two w1 p s rb r a cap V := h.frame (S := fun _ => False) (Only.of_below b1) (fun _ _ => id)
  clear u1 u2 h
  obtain ⟨c0, c1, c2, c3⟩ := h1'.bo.rf.cells
  rw [← HM.out] at c2
  go_wp2_with fail
  go_quiet ((first | (go_at_call 30; exact Calls.quiet_of_same (half_is r.n _ (h1'.ar.drewN _) HSN.out)) | (go_at_call 13; exact Calls.quiet_of_same (base_is s.base _ (h1'.ar.drewN _) rfl)) | (go_at_call 31; exact Calls.quiet_of (rbase_any s.base _ (h1'.bo.rf.drewN _) HB.out z3 hwh)) | (go_at_call 20; exact Calls.quiet_of_same (top_is (s.top : Int) _ (h1'.ar.drewN _) rfl)) | (go_at_call 32; exact Calls.quiet_of (rtop_is s.base s.top _ (h1'.bo.rf.drewN _) HB.out z3 hwh z4 (by omega) (by omega) HT.out.symm)) | (go_at_call 33; exact Calls.quiet_of (same_any x 0 _ (h1'.drewN _) h0 h1))))
  go_wp2_with fail
  have h2 := h1'.drewN nq
  have hW2 := hW.drewN nq
  have b2 := below_drewN b1 nq
  generalize w1.drewN nq = w2 at h2 hW2 b2 ⊢
  clear h1' hW b1 c0 c1 c2 c3
  go_loopw [52] (fun i wr => ∃ (j : Nat), j ≤ m ∧ i = .int .i64 j ∧ Two wr p s rb r a cap V ∧ Words wr ba m bc g (blkW s r) ∧ Below w.heap.size w wr) (fun i _ => m - (intOf i).toNat)
  case atStart => exact ⟨0, Nat.zero_le _, rfl, h2, hW2, b2⟩
  case round =>
    clear h2 hW2 b2
    obtain ⟨j, hj, rfl, h2, hW2, b2⟩ := hrel
    by_cases hlt : j < m
    · obtain ⟨b, hb⟩ : ∃ b, r.L[j]? = some b := ⟨_, List.getElem?_eq_getElem (by have := HM.out; omega)⟩
      have HBJ : Hid _ := hb
      have hbw := blkW_eq HR.out hb
      have hin := HR.out.inside hb
      have had0 : b.ad ≤ 65536 := by omega
      have had1 : 1 ≤ b.ad := by omega
      obtain ⟨rfl, hown⟩ := hW2.2 (by omega)
      have hcl := hown.cell hlt
      rw [hbw] at hcl
      have HBW : Hid _ := hbw
      obtain ⟨ga, rfl, hg1, hg2, hg3, hg4⟩ := h2.bo.rf.row (by have := HM.out; omega)
      obtain ⟨d0, d1, d2, d3⟩ := hg4 j b hb
      obtain ⟨c0, c1, c2, c3⟩ := h2.bo.rf.cells
      rw [← HM.out] at c2
      have hfl0 : b.F.length ≤ 4096 := (HR.out.tag j b hb).2.2
      have HP : Hid (ptrW (b.ad : Int) = 2 * (b.ad : Int)) := by show _ = _; unfold ptrW; rw [if_neg (by omega)]
      have x1 : (0 : Int) ≤ (j : Int) := by omega
      have x2 : (j : Int) < (m : Int) := by omega
      clear hb hbw hin hown hg4 d3
      go_wp2_with fail
      go_quiet ((go_at_call 15; exact Calls.quiet_of_same (rptr_is _ (2 * (b.ad : Int)) _ (by omega) (by omega) HP.out)))
      go_wp2_with fail
      have h3 := h2.drewN nq
      have hW3 := hW2.drewN nq
      have b3 := below_drewN b2 nq
      generalize wr.drewN nq = w3 at h3 hW3 b3 ⊢
      clear h2 hW2 b2 hcl d0 d1 d2 c0 c1 c2 c3 hg2 hg3
      go_loopw [9] (fun k wr => ∃ (q : Int), -1 ≤ q ∧ q ≤ 20 ∧ k = .int .i64 q ∧ Two wr p s rb r (some ⟨ga, 0, none⟩) cap V ∧ Words wr (some ⟨g, 0, none⟩) m bc g (blkW s r) ∧ Below w.heap.size w wr) (fun k _ => (20 - intOf k).toNat)
      case atStart => exact ⟨-1, by omega, by omega, rfl, h3, hW3, b3⟩
      case round =>
        clear h3 hW3 b3
        obtain ⟨q, hq0, hq1, rfl, h3, hW3, b3⟩ := hrel
        obtain ⟨_, hown⟩ := hW3.2 (by omega)
        have hcl := hown.cell hlt
        rw [HBW.out] at hcl
        obtain ⟨ga', ea, hg1, hg2, hg3, hg4⟩ := h3.bo.rf.row (by have := HM.out; omega)
        have ega : ga = ga' := by simpa using ea
        subst ega
        obtain ⟨d0, d1, d2, d3⟩ := hg4 j b HBJ.out
        obtain ⟨c0, c1, c2, c3⟩ := h3.bo.rf.cells
        rw [← HM.out] at c2
        obtain ⟨va, vc, hv⟩ := field_len d3
        rw [hv] at d2
        clear hown hg4 d3 hv ea
        by_cases q1 : q ≤ b.F.length
        · by_cases q2 : q < 20
          · go_wp2_with fail
            refine (same_any (2 * (b.ad : Int)) q _ h3 (by omega) (by omega)).mono ?_
            rintro e w4 ⟨rfl, m4, hw4⟩
            have h4 := two_drew hw4 h3
            have hW4 := words_drew hw4 hW3
            have b4 := below_drew hw4 b3
            have hcl4 : w4.cell? ⟨g, j, none⟩ = some (.int .u64 (2 * (b.ad : Int))) := by rw [hw4]; exact hcl
            clear hw4 hcl d0 d1 d2 c0 c1 c2 c3 hg2 hg3 h3 hW3 b3
            go_wp2_with fail
            refine (same_any (2 * (b.ad : Int) + 2 * (q + 1)) 1 _ h4 (by omega) (by omega)).mono ?_
            rintro e w5 ⟨rfl, m5, hw5⟩
            have h5 := two_drew hw5 h4
            have hW5 := words_drew hw5 hW4
            have b5 := below_drew hw5 b4
            clear hw5 hcl4 h4 hW4 b4
            go_wp2_with fail
            go_roundw
            case rel => exact ⟨q + 1, by omega, by omega, by go_num, h5, hW5, b5⟩
            case measure => simp [intOf]; omega
          · go_wp2_with fail
            go_roundw
            case rel => exact ⟨j + 1, by omega, by go_num, h3, hW3, b3⟩
            case measure => simp [intOf]; omega
        · go_wp2_with fail
          go_roundw
          case rel => exact ⟨j + 1, by omega, by go_num, h3, hW3, b3⟩
          case measure => simp [intOf]; omega
    · go_wp2_with fail
      go_ret
      exact ⟨rfl, b2⟩
end Go.Proofs.Ytaoohkjhniigfaa
