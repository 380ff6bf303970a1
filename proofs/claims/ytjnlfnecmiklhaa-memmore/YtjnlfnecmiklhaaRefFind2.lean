/-
  Which block of the document's own arena a word leads to by an inner slot, or that there is none. Condition: it lies in memory (Rf), its addresses are those of cells.
-/
import Derived.Test.YtjnlfnecmiklhaaRefFind
namespace Go.Proofs.Ytjnlfnecmiklhaa
open Go.ChangeShapes Go.WideShapes Go.ChangeAt Go.RowKit Go.Deep
set_option linter.unusedVariables false
set_option maxHeartbeats 4000000

/-- The cell of a field. -/
theorem field_cell {w : World} {B : Nat} {v : Value} {F : List Int} (h : FieldOf w B v F) (i : Nat) (hi : i < F.length) : ∃ g cap, v = .slice (some ⟨g, 0, none⟩) F.length cap ∧ B ≤ g ∧ w.cell? ⟨g, i, none⟩ = some (.int .u64 (F.getD i 0)) := by
  obtain ⟨a, cap, e, hn, hc⟩ := h
  cases a with
  | none => have := (hn rfl).1; omega
  | some ad =>
    obtain ⟨g, rfl, hb, ho⟩ := hc ad rfl
    exact ⟨g, cap, e, hb, ho.cell hi⟩
theorem field_len {w : World} {B : Nat} {v : Value} {F : List Int} (h : FieldOf w B v F) : ∃ a cap, v = .slice a F.length cap := by
  obtain ⟨a, cap, e, _⟩ := h
  exact ⟨a, cap, e⟩
theorem miss_lt {r : RS} {x i d : Int} {K j : Nat} {b : Blk} (hi : (K = r.L.length ∧ i = -1 ∧ d = 0) ∨ (∃ b, r.L[K]? = some b ∧ Rep.hit b (addrW x) ∧ i = K ∧ d = addrW x - b.ad)) (hj : j ≤ K) (hjl : j < r.L.length) (hb : r.L[j]? = some b) (hit : ¬ Rep.hit b (addrW x)) : j < K := by
  by_cases c : j < K
  · exact c
  · exfalso
    rcases hi with ⟨e, _⟩ | ⟨b', hb', hh, _, _⟩
    · omega
    · have : j = K := by omega
      rw [← this, hb] at hb'
      have : b = b' := by simpa using hb'
      subst this
      exact hit hh
set_option maxRecDepth 100000 in
theorem rfind_rest {rb : Nat} {r : RS} {a : Option Addr} {cap : Nat} {V : Nat → Value} (x : Int) (K : Nat) (i d : Int) (w : World) (h : Rf w rb r a cap V) (hLl : r.L.length ≤ 100000) (h0 : 0 ≤ x) (h1 : x ≤ 18446744073709551615) (g : addrW x ≠ 0)
    (had : ∀ (j : Nat) (c : Blk), r.L[j]? = some c → c.ad ≤ 100000) (hlen : ∀ (j : Nat) (c : Blk), r.L[j]? = some c → c.F.length ≤ 4096)
    (hn : ∀ (j : Nat) (c : Blk), r.L[j]? = some c → (c.ad : Int) ≠ addrW x) (hK : K ≤ r.L.length) (hm : ∀ (j : Nat) (c : Blk), j < K → r.L[j]? = some c → ¬ Rep.hit c (addrW x))
    (hi : (K = r.L.length ∧ i = -1 ∧ d = 0) ∨ (∃ b, r.L[K]? = some b ∧ Rep.hit b (addrW x) ∧ i = K ∧ d = addrW x - b.ad)) :
    Calls Try.prog 62 #[.pointer (some ⟨rb, 0, none⟩), .int .u64 x] w fun e w' => e = .returned (.tuple #[.int .i64 i, .int .i64 d]) ∧ ∃ m, w' = w.drewN m := by
  have G : (addrW x == 0) = false := beq_eq_false_iff_ne.2 g
  have g1 : isIntW x = false := by
    cases c : isIntW x
    · rfl
    · exact absurd (isInt_addr c) g
  have A0 := addrW_lo x h0
  have A1 := addrW_hi x
  obtain ⟨c0, c1, c2, c3⟩ := h.cells
  have HN : Hid _ := hn
  have HM : Hid _ := hm
  have HI : Hid _ := hi
  have HAD : Hid _ := had
  have HLE : Hid _ := hlen
  clear g hn hm hi had hlen
  go_enter Try.func62, Try.ntmps62
  go_wp2_with (first | (go_at_call 81; refine (risInt_any _ _ (by omega) (by omega)).mono ?_; rintro e w' ⟨rfl, hw'⟩; rw [hw']; clear hw' w') | (go_at_call 82; refine (raddr_any _ _ (by omega) (by omega)).mono ?_; rintro e w' ⟨rfl, hw'⟩; rw [hw']; clear hw' w'))
  go_loop [7] (fun i => ∃ j : Nat, j ≤ r.L.length ∧ i = .int .i64 j) (fun i => r.L.length - (intOf i).toNat)
  case atStart => exact ⟨0, Nat.zero_le _, rfl⟩
  case round =>
    obtain ⟨j, hj, rfl⟩ := hrel
    by_cases hjl : j < r.L.length
    · obtain ⟨ga, rfl, hg1, hg2, hg3, hg4⟩ := h.row (by omega)
      obtain ⟨d0, d1, d2, d3⟩ := hg4 j r.L[j] (List.getElem?_eq_getElem hjl)
      have ne : ((r.L[j].ad : Int) == addrW x) = false := beq_eq_false_iff_ne.2 (HN.out j r.L[j] (List.getElem?_eq_getElem hjl))
      clear d3 hg4
      go_wp2
      go_round
      case rel => exact ⟨j + 1, by omega, by go_num⟩
      case measure => simp [intOf]; omega
    · go_wp2
      clear hj hjl
      go_loopw [8] (fun i wr => ∃ j m : Nat, j ≤ K ∧ i = .int .i64 j ∧ wr = w.drewN m) (fun i _ => K - (intOf i).toNat)
      case atStart => exact ⟨0, 0, Nat.zero_le _, rfl, rfl⟩
      case round =>
        clear c0 c1 c2 c3
        obtain ⟨j, m, hj, rfl, hw⟩ := hrel
        have hr : Rf wr rb r a cap V := by rw [hw]; exact h.drewN m
        have HW : Hid (wr = w.drewN m) := hw
        clear hw
        obtain ⟨c0, c1, c2, c3⟩ := hr.cells
        by_cases hjl : j < r.L.length
        · obtain ⟨ga, rfl, hg1, hg2, hg3, hg4⟩ := hr.row (by omega)
          obtain ⟨b, hb⟩ : ∃ b, r.L[j]? = some b := ⟨_, List.getElem?_eq_getElem hjl⟩
          obtain ⟨d0, d1, d2, d3⟩ := hg4 j b hb
          have l1 := HAD.out j b hb
          have l2 := HLE.out j b hb
          obtain ⟨va, vc, hv⟩ := field_len d3
          by_cases t1 : b.tag = 200
          · have T1 : (b.tag == 200) = true := by rw [beq_iff_eq]; exact t1
            by_cases t2 : 1 ≤ addrW x - b.ad
            · by_cases t3 : addrW x - b.ad < b.F.length
              · obtain ⟨gf, capf, hv', hgf, hcf⟩ := field_cell d3 ((addrW x).toNat - b.ad - 1) (by omega)
                have e1 := wrapId (addrW x - b.ad - 1) (by omega) (by omega)
                have x1 : (0 : Int) ≤ addrW x - b.ad - 1 := by omega
                have x2 : addrW x - b.ad - 1 < (b.F.length : Int) := by omega
                have hF : b.F[(addrW x - b.ad - 1).toNat]? = some (b.F.getD ((addrW x).toNat - b.ad - 1) 0) := by
                  rw [show (addrW x - b.ad - 1).toNat = (addrW x).toNat - b.ad - 1 from by omega, List.getD_eq_getElem?_getD, List.getElem?_eq_getElem (by omega)]; rfl
                by_cases t4 : b.F.getD ((addrW x).toNat - b.ad - 1) 0 = headW 201 (addrW x - b.ad)
                · have hit : Rep.hit b (addrW x) := ⟨t1, t2, t3, by rw [hF, t4]⟩
                  have ej : j = K := by
                    by_cases c : j < K
                    · exact absurd hit (HM.out j b c hb)
                    · omega
                  have T4 : (b.F.getD ((addrW x).toNat - b.ad - 1) 0 == headW 201 (addrW x - b.ad)) = true := by rw [beq_iff_eq]; exact t4
                  obtain ⟨EI, ED⟩ : Hid (i = (j : Int)) ∧ Hid (d = addrW x - b.ad) := by
                    rcases HI.out with ⟨e, _⟩ | ⟨b', hb', _, e1, e2⟩
                    · omega
                    · rw [← ej, hb] at hb'
                      have : b = b' := by simpa using hb'
                      subst this
                      exact ⟨by show _ = _; rw [ej]; exact e1, e2⟩
                  have HB : Hid _ := hb
                  rw [hv'] at d2
                  generalize b.F.getD ((addrW x).toNat - b.ad - 1) 0 = fv at *
                  clear t1 t4 hit hF hv hv' d3 hg4 hb ej
                  go_wp2
                  go_quiet ((go_at_call 83; exact Calls.quiet_of_same (rhead_any 201 (addrW x - b.ad) _ (by omega) (by omega) (by omega) (by omega))))
                  go_wp2
                  go_ret2
                  exact ⟨ret_two EI.out.symm ED.out.symm, _, by rw [HW.out]; exact World.drewN_drewN _ _ _⟩
                · have hit : ¬ Rep.hit b (addrW x) := by
                    rintro ⟨_, _, _, e⟩
                    rw [hF] at e
                    exact t4 (by simpa using e)
                  have ej : j < K := miss_lt HI.out hj hjl hb hit
                  have T4 : (b.F.getD ((addrW x).toNat - b.ad - 1) 0 == headW 201 (addrW x - b.ad)) = false := beq_eq_false_iff_ne.2 t4
                  have HB : Hid _ := hb
                  rw [hv'] at d2
                  generalize b.F.getD ((addrW x).toNat - b.ad - 1) 0 = fv at *
                  clear t1 t4 hit hF hv hv' d3 hg4 hb
                  go_wp2
                  go_quiet ((go_at_call 83; exact Calls.quiet_of_same (rhead_any 201 (addrW x - b.ad) _ (by omega) (by omega) (by omega) (by omega))))
                  go_wp2
                  go_roundw
                  case rel => exact ⟨j + 1, _, by omega, by go_num, by rw [HW.out]; exact World.drewN_drewN _ _ _⟩
                  case measure => simp [intOf]; omega
              · have ej : j < K := miss_lt HI.out hj hjl hb (fun h => t3 h.2.2.1)
                have T3 : decide (addrW x - b.ad < b.F.length) = false := by simpa using t3
                rw [hv] at d2
                clear t1 hv d3 hg4 hb
                go_wp2
                go_quiet (fail)
                go_wp2
                go_roundw
                case rel => exact ⟨j + 1, _, by omega, by go_num, by rw [HW.out]; exact World.drewN_drewN _ _ _⟩
                case measure => simp [intOf]; omega
            · have ej : j < K := miss_lt HI.out hj hjl hb (fun h => t2 h.2.1)
              have T2 : decide (1 ≤ addrW x - b.ad) = false := by simpa using t2
              clear t1 hv d3 hg4 hb
              go_wp2
              go_quiet (fail)
              go_wp2
              go_roundw
              case rel => exact ⟨j + 1, _, by omega, by go_num, by rw [HW.out]; exact World.drewN_drewN _ _ _⟩
              case measure => simp [intOf]; omega
          · have ej : j < K := miss_lt HI.out hj hjl hb (fun h => t1 h.1)
            have T1 : (b.tag == 200) = false := beq_eq_false_iff_ne.2 t1
            clear t1 hv d3 hg4 hb
            go_wp2
            go_quiet (fail)
            go_wp2
            go_roundw
            case rel => exact ⟨j + 1, _, by omega, by go_num, by rw [HW.out]; exact World.drewN_drewN _ _ _⟩
            case measure => simp [intOf]; omega
        · obtain ⟨EI, ED⟩ : Hid (i = -1) ∧ Hid (d = 0) := by
            rcases HI.out with ⟨_, e1, e2⟩ | ⟨b', hb', _⟩
            · exact ⟨e1, e2⟩
            · have := (List.getElem?_eq_some_iff.1 hb').1
              omega
          go_wp2
          go_ret2
          exact ⟨ret_two EI.out.symm ED.out.symm, _, HW.out⟩
end Go.Proofs.Ytjnlfnecmiklhaa
