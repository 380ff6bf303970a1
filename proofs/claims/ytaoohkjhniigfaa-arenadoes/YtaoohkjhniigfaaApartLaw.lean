/-
  ArenaApart: whatever number of cells and steps are handed to it, the call returns true and writes nothing that was there. Condition: the slice lies in memory.
-/
import Derived.Test.YtaoohkjhniigfaaFlipsLaw
import Derived.Test.YtaoohkjhniigfaaPlainApart
import Derived.Test.YtaoohkjhniigfaaInner
namespace Go.Proofs.Ytaoohkjhniigfaa
open Go.ChangeShapes Go.WideShapes Go.ChangeAt Go.RowKit Go.Deep
set_option linter.unusedVariables false
set_option maxHeartbeats 4000000

theorem apart_no (n : Int) (al : Option Addr) (ll cl : Nat) (w : World) (h : n < 2 ∨ 32768 < n) :
    Calls Try.prog 4 #[.int .i64 n, .slice al ll cl] w fun e w' => e = .returned (.bool true) ∧ Below w.heap.size w w' := by
  go_enter Try.func4, Try.ntmps4
  go_wp2_with (first | (go_at_call 8; refine (awake_any _).mono ?_; rintro e w0 ⟨rfl, b0⟩) | (go_at_call 9; refine (new_no n _ h).mono ?_; rintro e w' ⟨rfl, rfl⟩) | (go_at_call 10; refine (rnew_no n _ h).mono ?_; rintro e w' ⟨rfl, rfl⟩))
  all_goals go_ret
  all_goals exact ⟨rfl, b0⟩
/-- The words of the blocks, as Blocks has laid them. -/
def Words (w : World) (al : Option Addr) (m cb g : Nat) (X : Nat → Int) : Prop := (al = none → m = 0 ∧ cb = 0) ∧ (m ≠ 0 → al = some ⟨g, 0, none⟩ ∧ Own w g m X)
theorem words_of {w w' : World} {al : Option Addr} {m cb : Nat} {X : Nat → Int} (h1 : al = none → m = 0 ∧ cb = 0) (h2 : ∀ ad, al = some ad → ∃ g, ad = ⟨g, 0, none⟩ ∧ w.heap.size ≤ g ∧ Own w' g m X) : ∃ g, w.heap.size ≤ g ∧ Words w' al m cb g X := by
  cases al with
  | none => exact ⟨w.heap.size, Nat.le_refl _, h1, fun h => absurd (h1 rfl).1 h⟩
  | some ad =>
    obtain ⟨g, rfl, hg, ho⟩ := h2 ad rfl
    exact ⟨g, hg, h1, fun _ => ⟨rfl, ho⟩⟩
theorem Words.only {w w' : World} {al : Option Addr} {m cb g : Nat} {X : Nat → Int} {p : Pl} (h : Words w al m cb g X) (k : Only p.own w w') (h1 : p.h < g) (h2 : p.c < g) (h3 : p.b < g) : Words w' al m cb g X :=
  ⟨h.1, fun hm => ⟨(h.2 hm).1, (h.2 hm).2.frame k (by unfold Pl.own; omega)⟩⟩
theorem Words.below {w w' : World} {al : Option Addr} {m cb g : Nat} {X : Nat → Int} (h : Words w al m cb g X) (k : Below w.heap.size w w') : Words w' al m cb g X :=
  ⟨h.1, fun hm => ⟨(h.2 hm).1, (h.2 hm).2.of_block (k.block g (h.2 hm).2.lt)⟩⟩
theorem Words.drewN {w : World} {al : Option Addr} {m cb g : Nat} {X : Nat → Int} (h : Words w al m cb g X) (n : Nat) : Words (w.drewN n) al m cb g X := h
theorem rep_get {s : St} {r : RS} {x v : Int} {i k : Nat} {b : Blk} (h : Rep s r) (hk : r.L[k]? = some b) (hf : (s.find x).1 = b.ad) (hv : b.F[i]? = some v) : s.fieldE x i = 0 ∧ s.get x i = v := by
  have hin := h.inside hk
  have hi := (List.getElem?_eq_some_iff.1 hv).1
  have hE : s.fieldE x i = 0 := by
    unfold St.fieldE
    rw [hf, if_neg (by omega), (h.tagAt hk).2, if_neg (by omega)]
  refine ⟨hE, ?_⟩
  unfold St.get
  rw [if_pos hE, hf, show ((b.ad : Int) + (i : Int)).toNat = b.ad + i from by omega]
  exact h.fld k b hk i v hv
theorem ar_drew {w w' : World} {m : Nat} {p : Pl} {s : St} (hw : w' = w.drewN m) (h : Ar w p s) : Ar w' p s := by rw [hw]; exact h.drewN m
theorem words_drew {w w' : World} {k : Nat} {al : Option Addr} {m cb g : Nat} {X : Nat → Int} (hw : w' = w.drewN k) (h : Words w al m cb g X) : Words w' al m cb g X := by rw [hw]; exact h
theorem below_drew {w w1 w' : World} {k B : Nat} (hw : w' = w1.drewN k) (h : Below B w w1) : Below B w w' := by rw [hw]; exact below_drewN h k
set_option maxRecDepth 100000 in
theorem apart_yes (n : Int) (al : Option Addr) (ll cl : Nat) (S : Nat → Stp) (w : World) (h1 : 2 ≤ n) (h2 : n ≤ 32768) (hl : ll ≤ maxLen)
    (hS : Steps w w.heap.size al ll S) :
    Calls Try.prog 4 #[.int .i64 n, .slice al ll cl] w fun e w' => e = .returned (.bool true) ∧ Below w.heap.size w w' := by
  have HS : Hid _ := hS
  have HL : Hid _ := hl
  clear hS hl
  go_enter Try.func4, Try.ntmps4
  go_wp2_with fail
  refine (awake_any _).mono ?_
  rintro e w0 ⟨rfl, b0⟩
  go_wp2_with fail
  refine (new_at n _ h1 h2).mono ?_
  rintro e w1 ⟨p, rfl, ha, b1, i1, i2, i3, i4⟩
  have B := b0.size
  have hB := b0.trans (b1.mono B)
  have j1 : w.heap.size ≤ p.a := by omega
  have j2 : w.heap.size ≤ p.h := by omega
  have j3 : w.heap.size ≤ p.c := by omega
  have j4 : w.heap.size ≤ p.b := by omega
  have HS1 : Hid (Steps w1 w.heap.size al ll S) := steps_below HS.out hB
  clear b0 b1 i1 i2 i3 i4 B
  go_wp2_with fail
  refine (rnew_yes n _ h1 h2).mono ?_
  rintro e w2 ⟨rfl, hr, b2⟩
  have h0 := two_new ha hr b2
  have hB2 := hB.trans (b2.mono hB.size)
  have HS2 : Hid (Steps w2 w.heap.size al ll S) := steps_below HS.out hB2
  clear hr ha HS1 hB
  generalize w1.heap.size = rb at h0 ⊢
  go_wp2_with fail
  refine (play_any n.toNat w.heap.size al ll cl S _ h0 rfl HL.out HS2.out ⟨j1, j2, j3, j4⟩ hB2.size).mono ?_
  rintro e w3 ⟨rfl, s, r, a, cap, V, h3, hn, b3⟩
  have hB3 := hB2.trans b3
  clear h0 hB2 b3 HS2
  have h3a := h3.ar
  have hr3 := h3.bo.rep
  have HR : Hid (Rep s r) := hr3
  have HN : Hid (s.n = n.toNat) := hn
  have b1 := h3a.b1
  have t1 := h3a.t1
  have t2 := h3a.t2
  have n2 := h3a.n2
  have m1 := lt_of_some h3a.ha
  have m2 := lt_of_some h3a.hh
  have m3 := h3a.hc.lt
  have m4 := h3a.hb.lt
  obtain ⟨m, hm⟩ : ∃ m, m = r.L.length := ⟨_, rfl⟩
  have HM : Hid _ := hm
  have HT : Hid _ := hr3.top
  have hml : m ≤ lenB r.L := by rw [hm]; exact lenB_length' r.L
  have hlb : lenB r.L ≤ 32768 := by have := hr3.top; omega
  clear h3 hr3 hn hm
  go_wp2_with (first | (go_at_call 13; refine (base_any _ h3a).mono ?_; rintro e w' ⟨rfl, hw'⟩; rw [hw']; clear hw' w') | (go_at_call 14; refine (blocks_any m _ h3a HR.out HM.out).mono ?_; rintro e w4 ⟨ba, bc, rfl, u1, u2, b4⟩; obtain ⟨g, hg, hW⟩ := words_of u1 u2; clear u1 u2))
  have h4 : Ar w4 p s := h3a.frame (S := fun _ => False) (Only.of_below b4) id id id id
  have hB4 := hB3.trans (b4.mono hB3.size)
  have d1 : p.a < g := by omega
  have d2 : p.h < g := by omega
  have d3 : p.c < g := by omega
  have d4 : p.b < g := by omega
  have g0 : w.heap.size ≤ g := by have := hB3.size; omega
  clear h3a hB3 b4 m1 m2 m3 m4 hg
  go_loopw [7, 8, 45] (fun at' c i wr => ∃ (j : Nat) (s' : St) (r' : RS), j ≤ m ∧ i = .int .i64 j ∧ at' = .int .i64 ((s.base + lenB (r.L.take j) : Nat) : Int) ∧ c = .int .i64 ((cntB r j + 1 : Nat) : Int) ∧ Ar wr p s' ∧ Rep s' r' ∧ Shaped r r' ∧ Done r r' j 0 ∧ Words wr ba m bc g (blkW s r) ∧ Below w.heap.size w wr) (fun _ _ i _ => m - (intOf i).toNat)
  case atStart => exact ⟨0, s, r, Nat.zero_le _, rfl, rfl, rfl, h4, HR.out, Shaped.refl _, Done.start _ _, hW, hB4⟩
  case round =>
    clear h4 hW hB4
    obtain ⟨j, s', r', hj, rfl, rfl, rfl, h4, hr', hsh, hdn, hW, hB4⟩ := hrel
    have HR' : Hid _ := hr'
    have HSH : Hid _ := hsh
    have HDN : Hid _ := hdn
    have hmm := HM.out
    by_cases hlt : j < m
    · obtain ⟨b, b', hb, hb', ead, efl⟩ := hsh.get (j := j) (by omega)
      have HB : Hid _ := hb
      have HB' : Hid _ := hb'
      have HFL : Hid _ := efl
      obtain ⟨tb1, tb2, tb3⟩ := hsh.base HR.out hr'
      have had := HR.out.ad j b hb
      have hbw := blkW_eq HR.out hb
      obtain ⟨hfd, hsz⟩ := hr'.word hb' (by omega)
      rw [ead] at hfd hsz
      rw [efl] at hsz
      have hin := HR.out.inside hb
      have hlk := lenB_take_all r.L j
      have hcn := cntB_succ hb
      have hc1 : cntB r (j + 1) ≤ 32768 := by have := lenB_take_all r.L (j + 1); unfold cntB; omega
      have hfl : b.F.length ≤ 4096 := (HR.out.tag j b hb).2.2
      obtain ⟨rfl, hown⟩ := hW.2 (by omega)
      have hcl := hown.cell hlt
      rw [hbw] at hcl
      have HP : Hid (ptrW (((s.base + lenB (r.L.take j) : Nat) : Int) + 1) = 2 * (b.ad : Int)) := by show _ = _; unfold ptrW; rw [if_neg (by omega)]; omega
      have HSZ : Hid _ := hsz
      have HFD : Hid _ := hfd
      have HCN : Hid _ := hcn
      have HLB : Hid _ := lenB_succ r.L j b hb
      have hq : s.base + lenB (r.L.take j) ≤ 65536 := by omega
      have had0 : b.ad ≤ 65536 := by omega
      generalize hqq : s.base + lenB (r.L.take j) = q at *
      have HQ : Hid _ := hqq
      generalize hcc : cntB r j = cj at *
      have HCJ : Hid _ := hcc
      have hcj : cj + b.F.length ≤ 32768 := by omega
      clear hr' hsh hdn hb hb' ead efl tb1 tb2 tb3 had hbw hfd hsz hin hlk hcn hown hqq hcc hmm
      go_wp2_with (first | (go_at_call 15; refine (rptr_any _ _ (by omega) (by omega)).mono ?_; rintro e w' ⟨rfl, hw'⟩; rw [hw', HP.out]; clear hw' w') | (go_at_call 16; refine (size_is _ (b.F.length : Int) _ h4 (by omega) (by omega) HSZ.out).mono ?_; rintro e w5 ⟨rfl, mm, hw5⟩; have h5 := ar_drew hw5 h4; have hW5 := words_drew hw5 hW; have hB5 := below_drew hw5 hB4; clear hw5 hcl))
      clear h4 hW hB4
      go_loopw [8, 12] (fun c i wr => ∃ (i' : Nat) (s' : St) (r' : RS), i' ≤ b.F.length ∧ i = .int .i64 i' ∧ c = .int .i64 ((cj + i' + 1 : Nat) : Int) ∧ Ar wr p s' ∧ Rep s' r' ∧ Shaped r r' ∧ Done r r' j i' ∧ Words wr (some ⟨g, 0, none⟩) m bc g (blkW s r) ∧ Below w.heap.size w wr) (fun _ i _ => b.F.length - (intOf i).toNat)
      case atStart => exact ⟨0, s', r', Nat.zero_le _, rfl, rfl, h5, HR'.out, HSH.out, HDN.out, hW5, hB5⟩
      case round =>
        clear h5 hW5 hB5 HB' HFL HSZ HFD HR' HSH HDN
        obtain ⟨i, s', r', hi, rfl, rfl, h4, hr', hsh, hdn, hW, hB4⟩ := hrel
        by_cases hil : i < b.F.length
        · obtain ⟨bb, b', hb, hb', ead, efl⟩ := hsh.get (j := j) (by have := HM.out; omega)
          have ebb : b = bb := by have := HB.out; rw [hb] at this; simpa using this.symm
          subst ebb
          obtain ⟨tb1, tb2, tb3⟩ := hsh.base HR.out hr'
          obtain ⟨hfd, hsz⟩ := hr'.word hb' (by omega)
          rw [ead] at hfd
          have ecast : ((cj + i + 1 : Nat) : Int) = (cj : Int) + i + 1 := by omega
          obtain ⟨hE, hP⟩ := rep_put (v := intW ((cj : Int) + i + 1)) hr' hb' (by rw [hfd, ead]) (by omega : i < b'.F.length)
          have HD : Hid (Done r (r'.put j b' i (intW ((cj : Int) + i + 1))) j (i + 1)) := by
            have hd2 := hdn.put hb' (by omega : i < b'.F.length)
            rw [HCJ.out, ecast] at hd2
            exact hd2
          have HS2 : Hid _ := hsh.put (i := i) (v := intW ((cj : Int) + i + 1)) hb'
          clear ecast
          have HE : Hid _ := hE
          have HPP : Hid _ := hP
          have HFT : Hid _ := hr'.fits
          clear hr' hsh hdn hb hb' ead efl tb1 tb2 tb3 hfd hsz hE hP
          go_wp2_with (first | (go_at_call 18; refine (rint_any _ _ (by omega) (by omega)).mono ?_; rintro e w' ⟨rfl, hw'⟩; rw [hw']; clear hw' w') | (go_at_call 17; refine (set_at _ _ _ 0 _ h4 HFT.out (by omega) (by omega) (intW_lo _) (intW_hi _) HE.out rfl).mono ?_; rintro e w6 ⟨rfl, h6, o6⟩))
          go_roundw
          case rel => exact ⟨i + 1, _, _, by omega, by go_num, by go_num, h6, HPP.out, HS2.out, HD.out, hW.only o6 d2 d3 d4, hB4.trans (o6.under hB4.size j2 j3 j4)⟩
          case measure => simp [intOf]; omega
        · have ei : i = b.F.length := by omega
          obtain ⟨bb, b', hb, hb', ead, efl⟩ := hsh.get (j := j) (by have := HM.out; omega)
          have ebb : b = bb := by have := HB.out; rw [hb] at this; simpa using this.symm
          subst ebb
          have HD : Hid (Done r r' (j + 1) 0) := by
            have hd2 : Done r r' j b'.F.length := by rw [efl, ← ei]; exact hdn
            exact hd2.next hb'
          have HR2 : Hid _ := hr'
          have HS2 : Hid _ := hsh
          have HEI : Hid _ := ei
          have hq2 : q + b.F.length ≤ 100000 := by omega
          clear hr' hsh hdn hb hb' ead efl ei
          go_wp2_with fail
          go_roundw
          case rel => exact ⟨j + 1, s', r', by omega, by go_num, by rw [HLB.out, ← HQ.out]; go_num, by rw [HCN.out, ← HEI.out], h4, HR2.out, HS2.out, HD.out, hW, hB4⟩
          case measure => simp [intOf]; omega
    · have ej : j = m := by omega
      have hlB : s.base + lenB (r.L.take j) = s.top := by rw [List.take_of_length_le (by omega)]; exact HT.out.symm
      obtain ⟨tb1, tb2, tb3⟩ := hsh.base HR.out hr'
      have hm2 : m = r'.L.length := by rw [hsh.len]; exact HM.out
      have HM2 : Hid _ := hm2
      have HTB1 : Hid _ := tb1
      have HTB2 : Hid _ := tb2
      rw [hlB]
      have z1 := lt_of_some h4.ha
      have z2 := lt_of_some h4.hh
      have z3 := h4.hc.lt
      have z4 := h4.hb.lt
      have z5 := hB4.size
      have HD : Hid (Done r r' m 0) := by rw [← ej]; exact hdn
      clear hr' hsh hdn ej hlB tb1 tb2 tb3 hm2 hW hmm HDN
      go_wp2_with (go_at_call 14; refine (blocks_any m _ h4 HR'.out HM2.out).mono ?_; rintro e w5 ⟨ba2, bc2, rfl, u1, u2, b5⟩; obtain ⟨g2, hg2, hW2⟩ := words_of u1 u2; clear u1 u2)
      have h5 : Ar w5 p s' := h4.frame (S := fun _ => False) (Only.of_below b5) id id id id
      have hB5 := hB4.trans (b5.mono hB4.size)
      clear h4 hB4 b5
      go_loopw [8, 79] (fun c i wr => ∃ (j : Nat), j ≤ m ∧ i = .int .i64 j ∧ c = .int .i64 ((cntB r j + 1 : Nat) : Int) ∧ Ar wr p s' ∧ Words wr ba2 m bc2 g2 (blkW s' r') ∧ Below w.heap.size w wr) (fun _ i _ => m - (intOf i).toNat)
      case atStart => exact ⟨0, Nat.zero_le _, rfl, rfl, h5, hW2, hB5⟩
      case round =>
        clear h5 hW2 hB5 hj hlt
        obtain ⟨j, hj, rfl, rfl, h4, hW, hB4⟩ := hrel
        by_cases hlt : j < m
        · obtain ⟨b, b', hb, hb', ead, efl⟩ := Shaped.get HSH.out (j := j) (by have := HM.out; omega)
          have hbw := blkW_eq HR'.out hb'
          obtain ⟨hfd, hsz⟩ := HR'.out.word hb' (by have := HTB2.out; omega)
          have hin := HR'.out.inside hb'
          have hcn := cntB_succ hb
          have hc1 : cntB r (j + 1) ≤ 32768 := by have := lenB_take_all r.L (j + 1); unfold cntB; omega
          have htp : s'.top ≤ 65536 := by have := HTB2.out; omega
          obtain ⟨rfl, hown⟩ := hW.2 (by omega)
          have hcl := hown.cell hlt
          rw [hbw] at hcl
          have HB' : Hid _ := hb'
          have HSZ : Hid _ := hsz
          have HFD : Hid _ := hfd
          have HCN : Hid (cntB r (j + 1) = cntB r j + b'.F.length) := by show _ = _; rw [efl]; exact hcn
          have hcj0 : cntB r j + b'.F.length ≤ 32768 := by have := HCN.out; omega
          have hfl0 : b'.F.length ≤ 4096 := (HR'.out.tag j b' hb').2.2
          have had0 : b'.ad ≤ 65536 := by omega
          clear hb hb' ead efl hbw hfd hsz hin hcn hc1 hown
          generalize hcc : cntB r j = cj at *
          have HCJ : Hid _ := hcc
          clear hcc
          go_wp2_with fail
          clear hcl
          go_loopw [8, 15] (fun c i wr => ∃ (i' : Nat), i' ≤ b'.F.length ∧ i = .int .i64 i' ∧ c = .int .i64 ((cj + i' + 1 : Nat) : Int) ∧ Ar wr p s' ∧ Words wr (some ⟨g2, 0, none⟩) m bc2 g2 (blkW s' r') ∧ Below w.heap.size w wr) (fun _ i _ => b'.F.length - (intOf i).toNat)
          case atStart => exact ⟨0, Nat.zero_le _, rfl, rfl, h4, hW, hB4⟩
          case round =>
            clear h4 hW hB4
            obtain ⟨i, hi, rfl, rfl, h4, hW, hB4⟩ := hrel
            by_cases hil : i < b'.F.length
            · have hdv := HD.out j b' i HB'.out hil (Or.inl hlt)
              rw [HCJ.out, show ((cj + i + 1 : Nat) : Int) = (cj : Int) + i + 1 from by omega] at hdv
              obtain ⟨hE, hG⟩ := rep_get HR'.out HB'.out (by rw [HFD.out] : (s'.find (2 * (b'.ad : Int))).1 = b'.ad) hdv
              have HE : Hid _ := hE
              have HG : Hid _ := hG
              have HFT : Hid _ := HR'.out.fits
              clear hdv hE hG
              go_wp2_with (first | (go_at_call 16; refine (size_is _ (b'.F.length : Int) _ h4 (by omega) (by omega) HSZ.out).mono ?_; rintro e w5 ⟨rfl, mm, hw5⟩; have h5 := ar_drew hw5 h4; have hW5 := words_drew hw5 hW; have hB5 := below_drew hw5 hB4; clear hw5) | (go_at_call 19; refine (get_at _ _ (intW ((cj : Int) + i + 1)) 0 _ h5 HFT.out (by omega) (by omega) HG.out HE.out).mono ?_; rintro e w6 ⟨rfl, mm2, hw6⟩; have h6 := ar_drew hw6 h5; have hW6 := words_drew hw6 hW5; have hB6 := below_drew hw6 hB5; clear hw6) | (go_at_call 18; refine (rint_any _ _ (by omega) (by omega)).mono ?_; rintro e w' ⟨rfl, hw'⟩; rw [hw']; clear hw' w'))
              go_roundw
              case rel => exact ⟨i + 1, by omega, by go_num, by go_num, h6, hW6, hB6⟩
              case measure => simp [intOf]; omega
            · have ei : i = b'.F.length := by omega
              have HEI : Hid _ := ei
              clear ei
              go_wp2_with (go_at_call 16; refine (size_is _ (b'.F.length : Int) _ h4 (by omega) (by omega) HSZ.out).mono ?_; rintro e w5 ⟨rfl, mm, hw5⟩; have h5 := ar_drew hw5 h4; have hW5 := words_drew hw5 hW; have hB5 := below_drew hw5 hB4; clear hw5)
              go_roundw
              case rel => exact ⟨j + 1, by omega, by go_num, by rw [HCN.out, ← HEI.out]; go_num, h5, hW5, hB5⟩
              case measure => simp [intOf]; omega
        · have t2' : (s.top : Int) ≤ s.base + n := by have := HN.out; omega
          go_wp2_with (first | (go_at_call 20; refine (top_is (s.top : Int) _ h4 (by rw [HTB2.out])).mono ?_; rintro e w' ⟨rfl, hw'⟩; rw [hw']; clear hw' w') | (go_at_call 13; refine (base_is s.base _ h4 HTB1.out).mono ?_; rintro e w' ⟨rfl, hw'⟩; rw [hw']; clear hw' w'))
          all_goals go_ret
          all_goals exact ⟨rfl, hB4⟩
end Go.Proofs.Ytaoohkjhniigfaa
