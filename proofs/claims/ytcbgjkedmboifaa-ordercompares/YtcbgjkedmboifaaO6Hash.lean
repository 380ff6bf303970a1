/-
  Layer 6: what the document's own Hash tells. Condition: the document's own arena lies in memory.
-/
import Derived.Test.YtcbgjkedmboifaaO6Queue
import Derived.Test.YtcbgjkedmboifaaO6CmpA
import Derived.Test.YtcbgjkedmboifaaLibB
import Derived.Deep.CutRange
namespace Go.Proofs.Ytcbgjkedmboifaa
open Go.ChangeShapes Go.WideShapes Go.ChangeAt Go.RowKit Go.Deep
set_option linter.unusedVariables false
set_option maxHeartbeats 2000000

variable {w w' : World} {p : Pl} {s : St} {rb : Nat} {r : RS} {a : Option Addr} {cap : Nat} {V : Nat → Value}
/-- What Hash tells. -/
def hashC (nd : Int → Nd) (x room : Int) : Int × Int := if (goH nd mixW room 24 [x] (intW 7)).2 = 0 then (doV 6 (goH nd mixW room 24 [x] (intW 7)).1 (intW 1073741823), 0) else (0, (goH nd mixW room 24 [x] (intW 7)).2)
/-- Where the loop over the queue is. -/
def HashAt (nd : Int → Nd) (room : Int) (res : Int × Int) (w : World) (hv qv nv : Value) (wr : World) : Prop :=
  ∃ (Q : List Int) (n : Nat) (h : Int), n ≤ 24 ∧ n ≤ Q.length ∧ nv = .int .i64 n ∧ hv = .int .u64 h ∧ R64 h ∧ WQ wr w.heap.size qv Q ∧ (∀ x, x ∈ Q → R64 x) ∧ Q.length ≤ 4096 * n + 1 ∧ res = goH nd mixW room (24 - n) (Q.drop n) h ∧ Below w.heap.size w wr
theorem wq_first (w : World) (x : Int) : WQ (w.alloc (.cells #[.int .u64 x] 29)) w.heap.size (.slice (some ⟨w.heap.size, 0, none⟩) 1 1) [x] :=
  ⟨w.heap.size, 1, #[.int .u64 x], rfl, Nat.le_refl _, blk_alloc_new _ _, rfl, Nat.le_refl _, by unfold maxLen; omega, fun i hi => by
    have : i = 0 := by simpa using hi
    subst this; rfl⟩
theorem rmix_is {v : Int} (h n : Int) (w : World) (h0 : 0 ≤ h) (h1 : h ≤ 18446744073709551615) (n0 : -9223372036854775808 ≤ n) (n1 : n ≤ 9223372036854775807) (e : mixW h n = v) :
    Calls Try.prog 38 #[.int .u64 h, .int .i64 n] w fun e w' => e = .returned (.int .u64 v) ∧ w' = w := by
  subst e; exact rmix_any h n w h0 h1 n0 n1
theorem numW_rng (x : Int) (h0 : 0 ≤ x) (h1 : x ≤ 18446744073709551615) : -9223372036854775808 ≤ numW x ∧ numW x ≤ 9223372036854775807 := by unfold numW; split <;> omega
section
variable {nd : Int → Nd} {room h x : Int} {m : Nat} {q : List Int}
theorem goH_wrong {E : Int} (e : (nd x).wrong = E) (hE : E ≠ 0) : goH nd mixW room (m + 1) (x :: q) h = (0, E) := by rw [goH, e, if_pos hE]
theorem goH_num {z : Int} (e : nd x = .num z) : goH nd mixW room (m + 1) (x :: q) h = goH nd mixW room m q (mixW h z) := by
  rw [goH, e, if_neg (fun c => c rfl), if_neg (by intro c; exact absurd c.1 (by show ¬ some (0 : Int) = some 1; decide))]
  show goH nd mixW room m (q ++ []) _ = _
  rw [List.append_nil]; rfl
theorem goH_txt {l : List Int} (e : nd x = .txt l) : goH nd mixW room (m + 1) (x :: q) h = goH nd mixW room m q ((l.take 64).foldl mixW (mixW h 3)) := by
  rw [goH, e, if_neg (fun c => c rfl), if_neg (by intro c; exact absurd c.2.1 (by show ¬ some (1 : Int) = some 0; decide))]
  show goH nd mixW room m (q ++ []) _ = _
  rw [List.append_nil]; rfl
theorem goH_full {t : Int} {F : List Int} (e : nd x = .blk t F) (hr : room < (q.length + F.length : Nat)) : goH nd mixW room (m + 1) (x :: q) h = (0, 11) := by
  rw [goH, e, if_neg (fun c => c rfl), if_pos ⟨rfl, rfl, hr⟩]
theorem goH_blk {t : Int} {F : List Int} (e : nd x = .blk t F) (hr : ¬ room < (q.length + F.length : Nat)) : goH nd mixW room (m + 1) (x :: q) h = goH nd mixW room m (q ++ F) (mixW h (5 * t + F.length)) := by
  rw [goH, e, if_neg (fun c => c rfl), if_neg (fun c => hr c.2.2)]; rfl
end
/-- A row of words grows, as one step. -/
theorem append_any {w w' : World} {ops : Array Oper} {rest : List Oper} {o : Oper} {a : Act} {Q : Exit → Act → World → Prop} {v u v' : Value} (hgd : o.guard = none) (d x : Operand)
    (ho : o.op = .call { callee := .builtin .append, args := #[d, x], argTypes := #[36, 36] }) (hd : a.eval d = v) (hx : a.eval x = u) (hr : Sem.run Try.prog (Builtin.append_ #[36, 36] o.type #[v, u]) w = .ok v' w')
    (h : wpList Try.prog ops Q rest (a.put o.dst v') w') : wpList Try.prog ops Q (o :: rest) a w := by
  refine wpList_plain hgd fun K hK => ?_
  unfold Oper.wp execOp
  simp only [ho, resolve, invoke, builtin, Sem.run_bind, Sem.run_pure, Result.andThen_ok, List.map_toArray, List.map_cons, List.map_nil, hd, hx, hr]
  exact hK _ _ h
/-- Whatever row is put behind: fields of a block. -/
theorem grow_words {w : World} {B : Nat} {v : Value} {qs F : List Int} (ty : TypeId) (vx : Option Addr) (cx : Nat) (h : WQ w B v qs) (hB : B ≤ w.heap.size) (hx : 0 < F.length → ∃ gf, vx = some ⟨gf, 0, none⟩ ∧ Own w gf F.length (fun i => F.getD i 0)) (hl : qs.length + F.length < 100000000) :
    ∃ g' c' w', Sem.run Try.prog (Builtin.append_ #[36, 36] ty #[v, .slice vx F.length cx]) w = .ok (.slice (some ⟨g', 0, none⟩) (qs.length + F.length) c') w' ∧ WQ w' B (.slice (some ⟨g', 0, none⟩) (qs.length + F.length) c') (qs ++ F) ∧ Below B w w' := by
  by_cases hF : 0 < F.length
  · obtain ⟨gf, rfl, ho⟩ := hx hF
    obtain ⟨v', w', h1, h2, h3⟩ := run_append_words ty h hB gf cx (fun i hi => ho.cell hi) hF hl
    obtain ⟨g', c', cur', e, hr⟩ := h2
    rw [List.length_append] at e
    subst e
    exact ⟨g', c', w', h1, ⟨g', c', cur', by rw [List.length_append], hr⟩, h3⟩
  · have e : F = [] := List.length_eq_zero_iff.1 (by omega)
    subst e
    obtain ⟨i0, hi, hz0, hz1, hz2⟩ := info_parts infoW
    obtain ⟨g, cap, cur, rfl, hb, hg, hs, hc, hm, hcells⟩ := h
    refine ⟨g, cap, w, ?_, by rw [List.append_nil]; exact ⟨g, cap, cur, rfl, hb, hg, hs, hc, hm, hcells⟩, Below.refl _ _⟩
    have hl0 : ∀ (x : Addr), (loadCells x 0).run Try.prog w = .ok #[] w := fun x => by simpa using run_loadCells_list (P := Try.prog) w x [] (by simp)
    cases vx <;> simp [Builtin.append_, run_underlying Try.underlying36, sizeOf, typeInfo, hi, hz1, Builtin.lenOf, Builtin.firstCells, hc, storeCells, hl0]
/-- Where the loop over a text's bytes is. -/
def TextAt (l : List Int) (h3 : Int) (hv iv : Value) : Prop := ∃ (i : Nat) (hh : Int), i ≤ l.length ∧ i ≤ 64 ∧ iv = .int .i64 i ∧ hv = .int .u64 hh ∧ R64 hh ∧ hh = (l.take i).foldl mixW h3
set_option maxRecDepth 100000 in
set_option maxHeartbeats 20000000 in
theorem rhash_any (x room : Int) (w : World) (h : Both w p s rb r a cap V) (h0 : 0 ≤ x) (h1 : x ≤ 18446744073709551615) :
    Calls Try.prog 15 #[.pointer (some ⟨rb, 0, none⟩), .int .u64 x, .int .i64 room] w fun e w' => e = .returned (.tuple #[.int .u64 (hashC (ndW s r) x room).1, .int .i64 (hashC (ndW s r) x room).2]) ∧ Below w.heap.size w w' := by
  have HB0 := hidden h
  obtain ⟨i7, hi7⟩ : ∃ v, intW 7 = v := ⟨_, rfl⟩
  have r7 : R64 i7 := by rw [← hi7]; exact intW_rng 7
  obtain ⟨res, hres⟩ : ∃ res, goH (ndW s r) mixW room 24 [x] i7 = res := ⟨_, rfl⟩
  have HOUT : Hid (hashC (ndW s r) x room = if res.2 = 0 then (doV 6 res.1 (intW 1073741823), 0) else (0, res.2)) := by show _ = _; unfold hashC; rw [hi7, hres]
  generalize hashC (ndW s r) x room = out at *
  have HI7 := hidden hi7
  have HRS := hidden hres
  have HR7 := hidden r7
  clear hi7 hres r7 h
  go_enter Try.func15, Try.ntmps15
  go_wp2_with (go_at_call 17; refine (rint_any _ _ (by omega) (by omega)).mono ?_; rintro e w' ⟨rfl, hw'⟩; rw [hw']; clear hw' w'; rw [HI7.out])
  go_loopw [8, 9, 10] (fun hv qv nv wr => HashAt (ndW s r) room res w hv qv nv wr) (fun _ _ nv _ => (24 - intOf nv).toNat)
  case atStart => exact ⟨[x], 0, i7, by omega, Nat.zero_le _, rfl, rfl, HR7.out, wq_first w x, fun y hy => by rw [List.mem_singleton.1 hy]; exact ⟨h0, h1⟩, by simp, by rw [List.drop_zero]; exact HRS.out.symm, (Below.refl _ _).alloc (Nat.le_refl _) _⟩
  case round =>
    clear HRS h0 h1 HR7 HI7
    obtain ⟨Q, n, h, hn, hnQ, rfl, rfl, ⟨h0, h1⟩, hq, hQ, hQl, hgo, hbl⟩ := hrel
    have HGO := hidden hgo
    have BR0 := hidden hbl
    have HQ := hidden hQ
    have WQ0 := hidden hq
    clear hgo hbl hQ
    by_cases hend : n < 24 ∧ n < Q.length
    · obtain ⟨n24, nQ⟩ := hend
      obtain ⟨g, c, rfl, hcell⟩ := hq.cell
      have kx := hcell n nQ
      have hxm : Q.getD n 0 ∈ Q := by rw [List.getD_eq_getElem?_getD, List.getElem?_eq_getElem nQ]; exact List.getElem_mem _
      have hdrop : Q.drop n = Q.getD n 0 :: Q.drop (n + 1) := by rw [List.drop_eq_getElem_cons nQ, List.getD_eq_getElem?_getD, List.getElem?_eq_getElem nQ]; rfl
      obtain ⟨x0, x1⟩ := HQ.out _ hxm
      rw [hdrop] at HGO
      generalize Q.getD n 0 = x at *
      obtain ⟨m, hm⟩ : ∃ m, 24 - n = m + 1 := ⟨23 - n, by omega⟩
      rw [hm] at HGO
      have HM : Hid (24 - (n + 1) = m) := by show _ = _; omega
      have xq : (n : Int) < (Q.length : Int) := by omega
      have xn : (n : Int) < 24 := by omega
      obtain ⟨E, hE⟩ : ∃ E, (ndW s r x).wrong = E := ⟨_, rfl⟩
      have HE1 := hidden hE
      clear hE hm hdrop hxm hcell hq
      go_upto_region 8 with (go_at_call 26; refine (rwrong_is x E _ (HB0.out.under BR0.out) x0 x1 HE1.out).mono ?_; rintro e w1 ⟨rfl, hb1⟩; have Q1 := hidden (WQ0.out.below hb1); have B1 : Hid (Below w.heap.size w w1) := BR0.out.trans (hb1.mono BR0.out.size); clear hb1)
      clear WQ0 BR0 kx
      by_cases hE0 : E ≠ 0
      · have HO : Hid (out = (0, E)) := by
          show _ = _
          rw [HOUT.out, HGO.out, goH_wrong HE1.out hE0, if_neg hE0]
        have hEb : (E != 0) = true := by simp [hE0]
        go_wp2_with fail
        all_goals go_ret2
        all_goals exact ⟨by rw [HO.out]; rfl, B1.out⟩
      · have hE : E = 0 := Classical.byContradiction hE0
        subst hE
        clear hE0
        go_upto_region 10 with fail
        rcases nd_ok HB0.out.rep x HE1.out with ⟨ix, nx⟩ | ⟨ix, kk, b, hk, hf, hd, hx⟩
        · have HE : Hid (res = goH (ndW s r) mixW room m (Q.drop (n + 1)) (mixW h (numW x))) := by show _ = _; rw [HGO.out, goH_num nx]
          have IX := hidden ix
          have hnr := numW_rng x x0 x1
          obtain ⟨mr0, mr1⟩ := mixW_rng h (numW x)
          obtain ⟨mv, hmv⟩ : ∃ v, mixW h (numW x) = v := ⟨_, rfl⟩
          rw [hmv] at HE mr0 mr1
          have HMV := hidden hmv
          have HNR := hidden hnr
          clear hmv nx ix HGO hnr
          go_wp2_with (first | (go_at_call 27; refine (isInt_is x _ x0 x1 IX.out).mono ?_; rintro e w' ⟨rfl, hw'⟩; rw [hw']; clear hw' w') | (go_at_call 16; refine (rnum_any x _ x0 x1).mono ?_; rintro e w' ⟨rfl, hw'⟩; rw [hw']; clear hw' w') | (go_at_call 38; refine (rmix_is h (numW x) _ h0 h1 HNR.out.1 HNR.out.2 HMV.out).mono ?_; rintro e w' ⟨rfl, hw'⟩; rw [hw']; clear hw' w'))
          all_goals go_roundw
          case rel => exact ⟨Q, n + 1, mv, by omega, by omega, by go_num, rfl, ⟨mr0, mr1⟩, Q1.out, HQ.out, by omega, by rw [HM.out]; exact HE.out, B1.out⟩
          case measure => simp [intOf]; omega
        · have IX := hidden ix
          have HK := hidden hk
          have HF := hidden hf
          have HD := hidden hd
          have HX := hidden hx
          clear ix hk hf hd hx
          go_upto_region 13 with (first | (go_at_call 27; refine (isInt_is x _ x0 x1 IX.out).mono ?_; rintro e w' ⟨rfl, hw'⟩; rw [hw']; clear hw' w') | (go_at_call 29; refine (rfind_at x kk b _ (HB0.out.under B1.out) x0 x1 HK.out HF.out HD.out).mono ?_; rintro e w3 ⟨rfl, m3, hw3⟩; have Q3 : Hid (WQ w3 w.heap.size (.slice (some ⟨g, 0, none⟩) Q.length c) Q) := by { show WQ _ _ _ _; rw [hw3]; exact Q1.out.below (below_drews _ _) }; have B3 : Hid (Below w.heap.size w w3) := by { show Below _ _ _; rw [hw3]; exact B1.out.trans ((below_drews _ _).mono B1.out.size) }; clear hw3))
          clear Q1 B1
          obtain ⟨ga, rfl, c2, dx0, dx1, ⟨vx, cx, dx2, ox⟩, lx1, lx2, lx3⟩ := blk_at (HB0.out.under B3.out) HK.out
          have OX := hidden ox
          clear ox
          go_upto_region 14 with fail
          have Q4 := hidden (Q3.out.below ((Below.refl _ _).alloc (Nat.le_refl _) (.cells #[.int .i64 b.ad, .int .i64 b.tag, .slice vx b.F.length cx] 70)))
          have B4 := hidden (B3.out.alloc B3.out.size (.cells #[.int .i64 b.ad, .int .i64 b.tag, .slice vx b.F.length cx] 70))
          have U1 := hidden (blk_alloc_new w3 (.cells #[.int .i64 b.ad, .int .i64 b.tag, .slice vx b.F.length cx] 70))
          have OX4 : Hid (0 < b.F.length → ∃ gf, vx = some ⟨gf, 0, none⟩ ∧ Own (w3.alloc (.cells #[.int .i64 b.ad, .int .i64 b.tag, .slice vx b.F.length cx] 70)) gf b.F.length (fun i => b.F.getD i 0)) := fun h => by obtain ⟨gf, e, ho⟩ := OX.out h; exact ⟨gf, e, ho.frame (S := fun _ => False) ((Only.refl _ _).alloc _) id⟩
          generalize w3.alloc (.cells #[.int .i64 b.ad, .int .i64 b.tag, .slice vx b.F.length cx] 70) = w4 at *
          have cu1 : w4.cell? ⟨w3.heap.size, 1, none⟩ = some (.int .i64 b.tag) := by simp [World.cell?, U1.out]
          have cu2 : w4.cell? ⟨w3.heap.size, 2, none⟩ = some (.slice vx b.F.length cx) := by simp [World.cell?, U1.out]
          generalize w3.heap.size = u at *
          clear Q3 B3 OX dx0 dx1 dx2 c2
          have hbt := HB0.out.rep.tag kk b HK.out
          rcases HX.out with ⟨t202, l, _, tx, nx⟩ | ⟨tn, nx⟩
          · rw [t202] at cu1
            have HTX : Hid (True → textAt s r x = (some l, 0)) := fun _ => tx
            have HLL := hidden (text_short2 HB0.out.rep tx)
            obtain ⟨r30, r31⟩ := mixW_rng h 3
            obtain ⟨h3, hh3⟩ : ∃ v, mixW h 3 = v := ⟨_, rfl⟩
            have HE : Hid (res = goH (ndW s r) mixW room m (Q.drop (n + 1)) (((bytesI l).take 64).foldl mixW h3)) := by show _ = _; rw [HGO.out, goH_txt nx, hh3]
            rw [hh3] at r30 r31
            have HH3 := hidden hh3
            clear hh3 tx nx t202 HGO HX hbt
            go_upto_region 17 with (first | (go_at_call 38; refine (rmix_is h 3 _ h0 h1 (by omega) (by omega) HH3.out).mono ?_; rintro e w' ⟨rfl, hw'⟩; rw [hw']; clear hw' w') | (go_at_call 30; refine (rread_is x _ (HB0.out.under B4.out) x0 x1 (HTX.out trivial)).mono ?_; rintro e w5 ⟨rfl, hb5⟩; have Q5 := hidden (Q4.out.below hb5); have B5 : Hid (Below w.heap.size w w5) := B4.out.trans (hb5.mono B4.out.size); clear hb5))
            clear Q4 B4 cu1 cu2
            have HT2 : Hid ((ByteArray.mk l.toArray).size = l.length) := rfl
            have HT3 : Hid (intsS (ByteArray.mk l.toArray) = bytesI l) := ints_list l
            generalize ByteArray.mk l.toArray = tt at *
            have hts : tt.size < 32768 := by rw [HT2.out]; exact HLL.out
            rw [← HT3.out] at HE
            clear HT3 HT2 HLL HTX
            go_wp2_with fail
            go_loop [8, 18] (fun hv iv => TextAt (intsS tt) h3 hv iv) (fun _ iv => (64 - intOf iv).toNat)
            case atStart => exact ⟨0, h3, Nat.zero_le _, by omega, rfl, rfl, ⟨r30, r31⟩, rfl⟩
            case round =>
              obtain ⟨i, hh, hi1, hi2, rfl, rfl, ⟨hh0, hh1⟩, hfold⟩ := hrel
              rw [intsS_len] at hi1
              have HFO := hidden hfold
              clear hfold
              by_cases c1 : i < tt.size
              · have x1' : (i : Int) < (tt.size : Int) := by omega
                by_cases c2 : i < 64
                · have x2' : (i : Int) < 64 := by omega
                  have b1 : ((tt[i]).toNat : Int) < 256 := by have := u8_lt (tt[i]); omega
                  obtain ⟨mr0, mr1⟩ := mixW_rng hh ((tt[i]).toNat : Int)
                  obtain ⟨mv, hmv⟩ : ∃ v, mixW hh ((tt[i]).toNat : Int) = v := ⟨_, rfl⟩
                  rw [hmv] at mr0 mr1
                  have HMV := hidden hmv
                  have HNF : Hid (mv = ((intsS tt).take (i + 1)).foldl mixW h3) := by
                    show _ = _
                    rw [List.take_add_one, intsS_at tt c1, List.foldl_append, ← HFO.out, ← hmv]; rfl
                  clear hmv
                  go_wp2_with (go_at_call 38; refine (rmix_is hh _ _ hh0 hh1 (by omega) (by omega) HMV.out).mono ?_; rintro e w' ⟨rfl, hw'⟩; rw [hw']; clear hw' w')
                  all_goals go_round
                  case rel => exact ⟨i + 1, mv, by rw [intsS_len]; omega, by omega, by go_num, rfl, ⟨mr0, mr1⟩, HNF.out⟩
                  case measure => simp [intOf]; omega
                · have x2' : ¬ (i : Int) < 64 := by omega
                  have HE2 : Hid (res = goH (ndW s r) mixW room m (Q.drop (n + 1)) hh) := by show _ = _; rw [HE.out, HFO.out, show i = 64 from by omega]
                  go_wp2_with fail
                  all_goals go_roundw
                  case rel => exact ⟨Q, n + 1, hh, by omega, by omega, by go_num, rfl, ⟨hh0, hh1⟩, Q5.out, HQ.out, by omega, by rw [HM.out]; exact HE2.out, B5.out⟩
                  case measure => simp [intOf]; omega
              · have x1' : ¬ (i : Int) < (tt.size : Int) := by omega
                have HE2 : Hid (res = goH (ndW s r) mixW room m (Q.drop (n + 1)) hh) := by show _ = _; rw [HE.out, HFO.out, List.take_of_length_le (by rw [intsS_len]; omega), List.take_of_length_le (by rw [intsS_len]; omega)]
                go_wp2_with fail
                all_goals go_roundw
                case rel => exact ⟨Q, n + 1, hh, by omega, by omega, by go_num, rfl, ⟨hh0, hh1⟩, Q5.out, HQ.out, by omega, by rw [HM.out]; exact HE2.out, B5.out⟩
                case measure => simp [intOf]; omega
          · have htb : (b.tag == 202) = false := beq_eq_false_iff_ne.2 tn
            obtain ⟨bt0, bt1, _⟩ := hbt
            have HRX : Hid (∀ y, y ∈ b.F → R64 y) := fun y hy => HB0.out.rng HK.out y hy
            obtain ⟨g', c', w6, happ, hq6, hb6⟩ := grow_words (F := b.F) 36 vx cx Q4.out B4.out.size OX4.out (by omega)
            have Q6 := hidden hq6
            have B6 := hidden (B4.out.trans hb6)
            obtain ⟨mr0, mr1⟩ := mixW_rng h (5 * b.tag + b.F.length)
            obtain ⟨mv, hmv⟩ : ∃ v, mixW h (5 * b.tag + b.F.length) = v := ⟨_, rfl⟩
            have HNX := hidden nx
            rw [hmv] at mr0 mr1
            have HMV := hidden hmv
            have HQL : Hid ((Q.drop (n + 1)).length = Q.length - (n + 1)) := List.length_drop
            clear hmv nx hq6 hb6 tn HX
            by_cases hroom : room < (Q.length : Int) + b.F.length - n - 1
            · have HO : Hid (out = (0, 11)) := by
                show _ = _
                rw [HOUT.out, HGO.out, goH_full HNX.out (by rw [HQL.out]; omega)]; rfl
              go_upto_region 22 with (go_at_call 38; refine (rmix_is h _ _ h0 h1 (by omega) (by omega) HMV.out).mono ?_; rintro e w' ⟨rfl, hw'⟩; rw [hw']; clear hw' w')
              go_upto_region 23 with (at_builtin; refine append_any rfl (.tmp 99) (.tmp 101) rfl rfl rfl happ ?_)
              clear happ
              go_wp2_with fail
              all_goals go_ret2
              all_goals exact ⟨by rw [HO.out]; rfl, B6.out⟩
            · have HE : Hid (res = goH (ndW s r) mixW room m ((Q ++ b.F).drop (n + 1)) mv) := by
                show _ = _
                rw [HGO.out, goH_blk HNX.out (by rw [HQL.out]; omega), HMV.out, List.drop_append_of_le_length (by omega)]
              go_upto_region 22 with (go_at_call 38; refine (rmix_is h _ _ h0 h1 (by omega) (by omega) HMV.out).mono ?_; rintro e w' ⟨rfl, hw'⟩; rw [hw']; clear hw' w')
              go_upto_region 23 with (at_builtin; refine append_any rfl (.tmp 99) (.tmp 101) rfl rfl rfl happ ?_)
              clear happ
              go_wp2_with fail
              all_goals go_roundw
              case rel => exact ⟨Q ++ b.F, n + 1, mv, by omega, by rw [List.length_append]; omega, by go_num, rfl, ⟨mr0, mr1⟩, Q6.out, fun y hy => (by rcases List.mem_append.1 hy with h | h; exact HQ.out y h; exact HRX.out y h), by rw [List.length_append]; omega, by rw [HM.out]; exact HE.out, B6.out⟩
              case measure => simp [intOf]; omega
    · have HO : Hid (out = if res.2 = 0 then (doV 6 res.1 (intW 1073741823), 0) else (0, res.2)) := HOUT.out
      have HE : Hid (res = (h, 0)) := by
        show _ = _
        rw [HGO.out]
        by_cases e : n < 24
        · have : Q.drop n = [] := List.drop_of_length_le (by have : ¬ n < Q.length := fun c => hend ⟨e, c⟩; omega)
          rw [this]
          obtain ⟨m, hm⟩ : ∃ m, 24 - n = m + 1 := ⟨23 - n, by omega⟩
          rw [hm]; rfl
        · rw [show 24 - n = 0 from by omega]; rfl
      have HO2 : Hid (out = (doV 6 h (intW 1073741823), 0)) := by show _ = _; rw [HO.out, HE.out, if_pos rfl]
      obtain ⟨g, c, rfl, hcell⟩ := hq.cell
      obtain ⟨i0, i1⟩ := intW_rng 1073741823
      obtain ⟨A, hA⟩ : ∃ A, intW 1073741823 = A := ⟨_, rfl⟩
      rw [hA] at i0 i1 HO2
      have HA := hidden hA
      clear hA hcell HO HGO HOUT hq
      by_cases e : n < 24
      · have e2 : ¬ n < Q.length := fun c => hend ⟨e, c⟩
        have x1' : (n : Int) < 24 := by omega
        have x2' : ¬ (n : Int) < (Q.length : Int) := by omega
        clear hend
        go_wp2_with (first | (go_at_call 17; refine (rint_any _ _ (by omega) (by omega)).mono ?_; rintro e w' ⟨rfl, hw'⟩; rw [hw']; clear hw' w'; rw [HA.out]) | (go_at_call 39; refine (rdo_any _ _ _ _ h0 h1 i0 i1 (by omega) (by omega)).mono ?_; rintro e w' ⟨rfl, hw'⟩; rw [hw']; clear hw' w'))
        all_goals go_ret2
        all_goals exact ⟨by rw [HO2.out]; rfl, BR0.out⟩
      · have x1' : ¬ (n : Int) < 24 := by omega
        clear hend
        go_wp2_with (first | (go_at_call 17; refine (rint_any _ _ (by omega) (by omega)).mono ?_; rintro e w' ⟨rfl, hw'⟩; rw [hw']; clear hw' w'; rw [HA.out]) | (go_at_call 39; refine (rdo_any _ _ _ _ h0 h1 i0 i1 (by omega) (by omega)).mono ?_; rintro e w' ⟨rfl, hw'⟩; rw [hw']; clear hw' w'))
        all_goals go_ret2
        all_goals exact ⟨by rw [HO2.out]; rfl, BR0.out⟩
end Go.Proofs.Ytcbgjkedmboifaa
