/-
  Layer 3's statements: their same: two arenas in one state tell the same of all blocks. Condition: both lie in memory, in one state.
-/
import Derived.Test.YtkgocnmeedkieaaL3Lay
import Derived.Test.YtkgocnmeedkieaaPlainOrder
import Derived.Test.YtkgocnmeedkieaaR3Mem
namespace Go.Proofs.Ytkgocnmeedkieaa
open Go.ChangeShapes Go.WideShapes Go.ChangeAt Go.RowKit Go.Deep
set_option linter.unusedVariables false
set_option maxHeartbeats 2000000
variable {w : World} {p : Pl} {s : St} {rb : Nat} {r : RS} {a : Option Addr} {cap : Nat} {V : Nat → Value}

theorem rtop_eq3 (B T : Nat) (w : World) (h : Rf w rb r a cap V) (hB : B = r.n * r.which) (hn : r.n ≤ 32768) (hw : r.which ≤ 1) (hB2 : B ≤ 32768) (hL : lenB r.L ≤ 100000) (hLl : r.L.length ≤ 100000) (hT : B + lenB r.L = T) :
    Calls Try.prog 42 #[.pointer (some ⟨rb, 0, none⟩)] w fun e w' => e = .returned (.int .i64 T) ∧ ∃ m, w' = w.drewN m := by
  subst hT; exact rtop_any B w h hB hn hw hB2 hL hLl
theorem base_eq3 (v : Int) (w : World) (h : Ar w p s) (hv : (s.base : Int) = v) :
    Calls Try.prog 21 #[.pointer (some ⟨p.a, 0, none⟩)] w fun e w' => e = .returned (.int .i64 v) ∧ w' = w := by
  subst hv; exact base_any w h
theorem two_drew3 {w' : World} {m : Nat} (hw : w' = w.drewN m) (h : Two w p s rb r a cap V) : Two w' p s rb r a cap V := by rw [hw]; exact h.drewN m
theorem ws_drew3 {w w' : World} {al : Option Addr} {m c k : Nat} {X : Nat → Int} (e : w' = w.drewN k) (h : WS w al m c X) : WS w' al m c X := by rw [e]; exact h.drewN k
theorem below_drew3 {B : Nat} {w0 w w' : World} {k : Nat} (e : w' = w.drewN k) (h : Below B w0 w) : Below B w0 w' := by rw [e]; exact below_drewN h k
set_option maxRecDepth 100000 in
theorem same3_any (w : World) (h : Two w p s rb r a cap V) :
    Calls Try.prog 15 #[.pointer (some ⟨p.a, 0, none⟩), .pointer (some ⟨rb, 0, none⟩)] w fun e w' => e = .returned (.bool true) ∧ Below w.heap.size w w' := by
  obtain ⟨z1, z2, z3, z4, z5⟩ := h.bo.sizes
  obtain ⟨m, hm⟩ : ∃ m, m = r.L.length := ⟨_, rfl⟩
  have HM : Hid _ := hm
  have HR : Hid _ := h.bo.rep
  have HB : Hid _ := h.bo.rep.base
  have HT : Hid _ := h.bo.rep.top
  have hwh := h.bo.rep.wh
  have hml : m ≤ 32768 := by omega
  clear hm
  go_enter Try.func15, Try.ntmps15
  go_wp2_with fail
  refine (blocks_any m _ h.ar HR.out HM.out).mono ?_
  rintro e w1 ⟨ba, bc, rfl, u1, u2, b1⟩
  have h1 : Two w1 p s rb r a cap V := h.frame (S := fun _ => False) (Only.of_below b1) (fun _ _ => id)
  have ws1 : WS w1 ba m bc (blkW s r) := ws_any u1 u2 (fun i _ => blkW_lo s r i) (fun i _ => blkW_hi h1.ar HR.out i)
  clear u1 u2 h
  obtain ⟨c0, c1, c2, c3⟩ := h1.bo.rf.cells
  rw [← HM.out] at c2
  go_wp2_with (first | (go_at_call 22; refine (top_is (s.top : Int) _ h1.ar rfl).mono ?_; rintro e w' ⟨rfl, hw'⟩; rw [hw']; clear hw' w') | (go_at_call 42; refine (rtop_eq3 s.base s.top _ h1.bo.rf HB.out z3 hwh z4 (by omega) (by omega) HT.out.symm).mono ?_; rintro e w2 ⟨rfl, m2, hw2⟩; have h2 := two_drew3 hw2 h1; have ws2 := ws_drew3 hw2 ws1; have b2 := below_drew3 hw2 b1; clear hw2) | (go_at_call 21; refine (base_eq3 (s.base : Int) _ h2.ar rfl).mono ?_; rintro e w' ⟨rfl, hw'⟩; rw [hw']; clear hw' w') | (go_at_call 43; refine (rbase_any s.base _ h2.bo.rf HB.out z3 hwh).mono ?_; rintro e w3 ⟨rfl, m3, hw3⟩; have h3 := two_drew3 hw3 h2; have ws3 := ws_drew3 hw3 ws2; have b3 := below_drew3 hw3 b2; clear hw3))
  clear h1 ws1 b1 h2 ws2 b2 c0 c1 c2 c3
  go_loopw [36] (fun i wr => ∃ (j : Nat), j ≤ m ∧ i = .int .i64 j ∧ Two wr p s rb r a cap V ∧ WS wr ba m bc (blkW s r) ∧ Below w.heap.size w wr) (fun i _ => m - (intOf i).toNat)
  case atStart => exact ⟨0, Nat.zero_le _, rfl, h3, ws3, b3⟩
  case round =>
    clear h3 ws3 b3
    obtain ⟨j, hj, rfl, h2, ws2, b2⟩ := hrel
    by_cases hlt : j < m
    · obtain ⟨b, hb⟩ : ∃ b, r.L[j]? = some b := ⟨_, List.getElem?_eq_getElem (by have := HM.out; omega)⟩
      have HBJ : Hid _ := hb
      have hbw := blkW_eq HR.out hb
      have hin := HR.out.inside hb
      have had0 : b.ad ≤ 65536 := by omega
      have had1 : 1 ≤ b.ad := by omega
      obtain ⟨x, rfl, hcl⟩ := ws2.cell j hlt
      rw [hbw] at hcl
      have HBW : Hid _ := hbw
      obtain ⟨ga, rfl, hg1, hg2, hg3, hg4⟩ := h2.bo.rf.row (by have := HM.out; omega)
      obtain ⟨d0, d1, d2, d3⟩ := hg4 j b hb
      obtain ⟨c0, c1, c2, c3⟩ := h2.bo.rf.cells
      rw [← HM.out] at c2
      obtain ⟨va, vc, hv⟩ := field_len d3
      rw [hv] at d2
      have hfl0 : b.F.length ≤ 4096 := (HR.out.tag j b hb).2.2
      have HP : Hid (ptrW (b.ad : Int) = 2 * (b.ad : Int)) := by show _ = _; unfold ptrW; rw [if_neg (by omega)]
      have HSZ : Hid _ := (HR.out.word hb (by omega)).2
      have HTG : Hid _ := HR.out.tagOf hb (by omega)
      have HFL : Hid (∀ k, k < b.F.length → s.get (2 * (b.ad : Int)) k = b.F.getD k 0 ∧ s.fieldE (2 * (b.ad : Int)) k = 0) := fun k hk => HR.out.fieldOf hb (by omega) hk
      have HFIT : Hid s.Fits := HR.out.fits
      have x1 : (0 : Int) ≤ (j : Int) := by omega
      have x2 : (j : Int) < (m : Int) := by omega
      clear hb hbw hin hg4 d3 hv
      go_wp2_with fail
      go_quiet ((first | (go_at_call 24; exact Calls.quiet_of_same (rptr_eq _ (2 * (b.ad : Int)) _ (by omega) (by omega) HP.out)) | (go_at_call 27; exact Calls.quiet_of (tag_is (2 * (b.ad : Int)) b.tag _ (h2.ar.drewN _) (by omega) (by omega) HTG.out)) | (go_at_call 25; exact Calls.quiet_of (size_is (2 * (b.ad : Int)) (b.F.length : Int) _ (h2.ar.drewN _) (by omega) (by omega) HSZ.out))))
      have h3 := h2.drewN nq
      have ws3 := ws2.drewN nq
      have b3 := below_drewN b2 nq
      have d2' : (wr.drewN nq).cell? ⟨ga, j * 3 + 2, none⟩ = some (.slice va b.F.length vc) := d2
      have c2' : (wr.drewN nq).cell? ⟨rb, 2, none⟩ = some (.slice (some ⟨ga, 0, none⟩) m cap) := c2
      generalize wr.drewN nq = w3 at h3 ws3 b3 d2' c2' ⊢
      clear h2 ws2 b2 hcl d0 d1 d2 c0 c1 c2 c3 hg2 hg3
      go_wp2_with fail
      clear d2' c2'
      go_loopw [97] (fun v wr => ∃ (q : Nat), q ≤ b.F.length ∧ v = .int .i64 q ∧ Two wr p s rb r (some ⟨ga, 0, none⟩) cap V ∧ WS wr (some x) m bc (blkW s r) ∧ Below w.heap.size w wr) (fun v _ => b.F.length - (intOf v).toNat)
      case atStart => exact ⟨0, Nat.zero_le _, rfl, h3, ws3, b3⟩
      case round =>
        clear h3 ws3 b3
        obtain ⟨q, hq, rfl, h4, ws4, b4⟩ := hrel
        by_cases hql : q < b.F.length
        · obtain ⟨x', ex, hcl⟩ := ws4.cell j hlt
          cases ex
          rw [HBW.out] at hcl
          obtain ⟨gt, ge⟩ := HFL.out q hql
          have HGT : Hid _ := gt
          have HGE : Hid _ := ge
          have v0 : (0 : Int) ≤ (q : Int) := by omega
          have v1 : (q : Int) < (b.F.length : Int) := by omega
          clear gt ge
          go_wp2_with fail
          refine (get_at (2 * (b.ad : Int)) q (b.F.getD q 0) 0 _ h4.ar HFIT.out (by omega) (by omega) HGT.out HGE.out).mono ?_
          rintro e w5 ⟨rfl, m5, hw5⟩
          have h5 := two_drew3 hw5 h4
          have ws5 := ws_drew3 hw5 ws4
          have b5 := below_drew3 hw5 b4
          obtain ⟨ga', ea, hg1, hg2, hg3, hg4⟩ := h5.bo.rf.row (by have := HM.out; omega)
          have ega : ga = ga' := by simpa using ea
          subst ega
          obtain ⟨d0, d1, d2, d3⟩ := hg4 j b HBJ.out
          obtain ⟨c0, c1, c2, c3⟩ := h5.bo.rf.cells
          rw [← HM.out] at c2
          obtain ⟨gf, capf, hv, hgf, hcf⟩ := field_cell d3 q hql
          rw [hv] at d2
          have hne : (b.F.getD q 0 != b.F.getD q 0) = false := bne_self_eq_false _
          clear hw5 h4 ws4 b4 hcl ea hg4 d3 hv HGT HGE HFL
          generalize b.F.getD q 0 = y at *
          go_wp2_with fail
          go_roundw
          case rel => exact ⟨q + 1, by omega, by go_num, h5, ws5, b5⟩
          case measure => simp [intOf]; omega
        · go_wp2_with fail
          go_roundw
          case rel => exact ⟨j + 1, by omega, by go_num, h4, ws4, b4⟩
          case measure => simp [intOf]; omega
    · go_wp2_with fail
      go_ret
      exact ⟨rfl, b2⟩
end Go.Proofs.Ytkgocnmeedkieaa
