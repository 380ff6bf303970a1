/-
  What the document's own collection moves: the roots, then the words of all that has moved. Condition: the arena that was lies in memory.
-/
import Derived.Test.YtlhcleocdlnbdaaR3Any
import Derived.Test.YtlhcleocdlnbdaaLibC
namespace Go.Proofs.Ytlhcleocdlnbdaa
open Go.ChangeShapes Go.WideShapes Go.ChangeAt Go.RowKit Go.Deep
set_option linter.unusedVariables false
set_option maxHeartbeats 2000000
variable {w : World} {p : Pl} {s : St} {rb : Nat} {r : RS} {a : Option Addr} {cap : Nat} {V : Nat → Value} {B0 mb nb : Nat} {G : List Nat} {L : List Blk} {aN : Option Addr} {capN : Nat} {VN : Nat → Value} {vg : Value}

theorem now_new (h : Both w p s rb r a cap V) : Now ((w.alloc (.cells #[.int .i64 r.n, .int .i64 (1 - (r.which : Int)), .slice none 0 0] 88)).alloc (.cells #[.pointer (some ⟨rb, 0, none⟩), .pointer (some ⟨w.heap.size, 0, none⟩), .slice none 0 0] 121)) w.heap.size (w.heap.size + 1) w.heap.size rb r [] [] none 0 (fun _ => .slice none 0 0) (.slice none 0 0) := by
  have hwh := h.rep.wh
  refine ⟨?_, ⟨rfl, .inl ⟨rfl, rfl⟩⟩, ⟨?_, fun _ => ⟨rfl, rfl⟩, Nat.le_refl _, Nat.zero_le _, fun ad h => by cases h⟩, fun i j _ hj => absurd hj (Nat.not_lt_zero _), Nat.le_refl _, Nat.le_succ _⟩
  · have := blk_alloc_new (w.alloc (.cells #[.int .i64 r.n, .int .i64 (1 - (r.which : Int)), .slice none 0 0] 88)) (.cells #[.pointer (some ⟨rb, 0, none⟩), .pointer (some ⟨w.heap.size, 0, none⟩), .slice none 0 0] 121)
    rw [nblk_alloc] at this; exact this
  · rw [blk_alloc_lt _ _ _ (by rw [nblk_alloc]; omega), blk_alloc_new]
    have e : (1 : Int) - (r.which : Int) = ((1 - r.which : Nat) : Int) := by omega
    rw [e]
    rfl
theorem below_two (w : World) (o1 o2 : Obj) : Below w.heap.size w ((w.alloc o1).alloc o2) := ((Below.refl w.heap.size w).alloc (Nat.le_refl _) o1).alloc (by rw [nblk_alloc]; omega) o2
theorem nm_below {wr w3 : World} (o : Only (NotW wr B0) wr w3) (hB : B0 ≤ wr.heap.size) : Below B0 wr w3 := o.below hB (fun k hk hs => by have := hs.1; omega)
theorem nm_row {wr w3 : World} {BO n : Nat} {v : Value} {xs : List Value} (ho : wr.ownsRow BO 29 1 v n xs) (o : Only (NotW wr B0) wr w3) : w3.ownsRow BO 29 1 v n xs := by
  refine owns_keep ho (fun g hg => ?_)
  obtain ⟨cur, hc⟩ := own_row ho g hg
  exact o.block g (lt_of_some hc) (fun hs => hs.2 cur hc)
theorem now_grown {w5 w6 : World} {BO g g6 k cp : Nat} {xs : List Value} {o : Obj} (h : Now w5 B0 mb nb rb r G L aN capN VN vg) (ho : w5.ownsRow BO 29 1 (.slice (some ⟨g, 0, none⟩) k cp) k xs) (hoff : Off L.length VN g) (gr : (w5.alloc o).grownBy w6 (some g)) (hat : some g = some g6 ∨ g6 = (w5.alloc o).heap.size) : Now w6 B0 mb nb rb r G L aN capN VN vg ∧ Off L.length VN g6 := by
  obtain ⟨cur, hc⟩ := own_blk ho
  refine ⟨now_only h hc hoff (only_grown gr), ?_⟩
  rcases hat with e | e
  · cases e; exact hoff
  · rw [nblk_alloc] at e
    exact off_new h.now (by omega)
theorem own_lt {w5 : World} {BO g k cp : Nat} {xs : List Value} (ho : w5.ownsRow BO 29 1 (.slice (some ⟨g, 0, none⟩) k cp) k xs) : g < w5.heap.size := by
  obtain ⟨cur, hc⟩ := own_blk ho
  exact lt_of_some hc
theorem listX_succ (X : Nat → Int) (q : Nat) : listX X (q + 1) = listX X q ++ [X q] := by unfold listX; rw [List.range_succ, List.map_append]; rfl
theorem visits_succ (s : St) (r : RS) (X : Nat → Int) (q : Nat) : visits s r [] (listX X (q + 1)) = visit s r (visits s r [] (listX X q)) (X q) := by rw [listX_succ, visits_append]; rfl
theorem visits_pre (s : St) (r : RS) (X : Nat → Int) {q m : Nat} (h : q ≤ m) : ∃ T, reachG s r (listX X m) = visits s r [] (listX X q) ++ T := by
  have h1 : ∃ T, visits s r [] (listX X m) = visits s r [] (listX X q) ++ T := by
    induction m with
    | zero => have : q = 0 := by omega
              subst this; exact ⟨[], by simp⟩
    | succ m ih =>
      by_cases e : q = m + 1
      · subst e; exact ⟨[], by simp⟩
      · obtain ⟨T, hT⟩ := ih (by omega)
        obtain ⟨T2, hT2⟩ := visit_ext (s := s) (r := r) (visits s r [] (listX X m)) (X m)
        exact ⟨T ++ T2, by rw [visits_succ, hT2, hT, List.append_assoc]⟩
  obtain ⟨T, hT⟩ := h1
  obtain ⟨T2, hT2⟩ := scans_ext (s := s) (r := r) (listX X m) (Nat.zero_le r.L.length)
  exact ⟨T ++ T2, by show scans s r (listX X m) r.L.length = _; rw [hT2, scans_zero, hT, List.append_assoc]⟩
theorem both_below {w wr : World} (h : Both w p s rb r a cap V) (hb : Below w.heap.size w wr) : Both wr p s rb r a cap V := ⟨h.ar, rf_below h hb, h.rep, h.below⟩
theorem newW_at {s : St} {r : RS} {B : Nat} {G T : List Nat} {x : Int} : newW s r B (visit s r G x ++ T) x = newW s r B (visit s r G x) x := newW_ext B _ T (fun i hi => visit_has hi)
/-- What moved hands back, and how it lies in memory. -/
def MovedAs (s : St) (r : RS) (X : Nat → Int) (m rb : Nat) (w : World) (e : Ending) (w' : World) : Prop := ∃ mb nb go co aN capN VN vg, e = .returned (.tuple #[.pointer (some ⟨mb, 0, none⟩), .slice (some ⟨go, 0, none⟩) m co]) ∧
  Now w' w.heap.size mb nb rb r (reachG s r (listX X m)) (collR s r (listX X m)).L aN capN VN vg ∧ Own w' go m (fun i => collW s r (listX X m) (X i)) ∧ w.heap.size ≤ go ∧ Below w.heap.size w w' ∧ Off (collR s r (listX X m)).L.length VN go
set_option maxRecDepth 100000 in
theorem moved_any {al : Option Addr} {m c : Nat} {X : Nat → Int} (w : World) (h : Both w p s rb r a cap V) (hx : WS w al m c X) (hm : m ≤ 1000) :
    Calls Try.prog 78 #[.pointer (some ⟨rb, 0, none⟩), .slice al m c] w fun e w' => MovedAs s r X m rb w e w' := by
  obtain ⟨c0, c1, c2, c3⟩ := h.rf.cells
  have hwh := h.rep.wh
  have e1 := wrapId (1 - (r.which : Int)) (by omega) (by omega)
  go_enter Try.func78, Try.ntmps78
  go_wp2_with fail
  go_cut [6] from 12 to 25 (fun v wx => v = .pointer (some ⟨w.heap.size + 1, 0, none⟩) ∧ Now wx w.heap.size (w.heap.size + 1) w.heap.size rb r [] [] none 0 (fun _ => .slice none 0 0) (.slice none 0 0) ∧ Below w.heap.size w wx)
  case first =>
    go_region
    all_goals (go_wp2_with fail; go_meet; exact ⟨rfl, (now_new h).drewN 1, below_drewN (below_two w _ _) 1⟩)
  case rest =>
    obtain ⟨rfl, n1, b1⟩ := hcut
    clear c0 c1 c2 c3 e1
    have HB : Hid _ := h
    have HX : Hid _ := hx
    have HWX : Hid (∀ wr, Below w.heap.size w wr → WS wr al m c X) := fun wr hb => hx.below hb
    have HBO : Hid (∀ wr, Below w.heap.size w wr → Both wr p s rb r a cap V) := fun wr hb => both_below h hb
    have HREP : Hid _ := h.rep
    clear h hx hwh
    generalize hmb : w.heap.size + 1 = mb at *
    clear hmb
    have hBw := b1.size
    go_wp2_with fail
    have n2 := n1.below ((Below.refl _ _).alloc (Nat.le_refl _) (.cells #[] 29))
    have b2 := b1.alloc b1.size (.cells #[] 29)
    have hown : (wc.alloc (.cells #[] 29)).ownsRow wc.heap.size 29 1 (.slice (some ⟨wc.heap.size, 0, none⟩) 0 0) 0 ((List.range 0).map fun j => Value.int .u64 (newW s r (otherB r) (reachG s r (listX X m)) (X j))) := ⟨rfl, .inr ⟨wc.heap.size, 0, #[], rfl, Nat.le_refl _, blk_alloc_new _ _, Nat.le_refl _, Nat.zero_le _, rfl, rfl⟩⟩
    obtain ⟨BO, hBO⟩ : ∃ BO, BO = wc.heap.size := ⟨_, rfl⟩
    rw [← hBO] at hown hBw ⊢
    clear hBO n1 b1
    generalize wc.alloc (.cells #[] 29) = w2 at *
    go_loopw [7, 8] (fun v i wr => ∃ (q go co : Nat) (aN : Option Addr) (capN : Nat) (VN : Nat → Value) (vg : Value), q ≤ m ∧ i = .int .i64 q ∧ v = .slice (some ⟨go, 0, none⟩) q co ∧ wr.ownsRow BO 29 1 v q ((List.range q).map fun j => Value.int .u64 (newW s r (otherB r) (reachG s r (listX X m)) (X j))) ∧ Now wr w.heap.size mb w.heap.size rb r (visits s r [] (listX X q)) (partL s r (visits s r [] (listX X q)) 0 0) aN capN VN vg ∧ Off (partL s r (visits s r [] (listX X q)) 0 0).length VN go ∧ Below w.heap.size w wr) (fun _ i _ => m - (intOf i).toNat)
    case atStart => exact ⟨0, BO, 0, none, 0, _, _, Nat.zero_le _, rfl, rfl, hown, n2, fun i hi => absurd hi (Nat.not_lt_zero _), b2⟩
    case round =>
      clear hown n2 b2
      obtain ⟨q, go, co, aN, capN, VN, vg, hq, rfl, rfl, ho, hn, hoff, hb⟩ := hrel
      have hbo := HBO.out wr hb
      have hws := HWX.out wr hb
      have HO : Hid (wr.ownsRow BO 29 1 (.slice (some ⟨go, 0, none⟩) q co) q ((List.range q).map fun j => Value.int .u64 (newW s r (otherB r) (reachG s r (listX X m)) (X j)))) := ho
      have HOFF : Hid _ := hoff
      have HGOOD : Hid (GoodG r (visits s r [] (listX X q))) := visits_good HREP.out _ (goodG_nil r)
      clear ho hoff
      by_cases hlt : q < m
      · obtain ⟨x, rfl, hxc⟩ := hws.cell q hlt
        have z0 := hws.lo q hlt
        have z1 := hws.hi q hlt
        obtain ⟨T, hT⟩ := visits_pre s r X (show q + 1 ≤ m by omega)
        have HVS : Hid _ := visits_succ s r X q
        have HT : Hid (newW s r (otherB r) (visit s r (visits s r [] (listX X q)) (X q)) (X q) = newW s r (otherB r) (reachG s r (listX X m)) (X q)) := by
          show _ = _
          rw [hT, HVS.out]
          exact newW_at.symm
        have HPL : Hid (partL s r (visits s r [] (listX X q)) 0 0 ++ visitL s r (visits s r [] (listX X q)) (X q) = partL s r (visits s r [] (listX X (q + 1))) 0 0) := by
          show _ = _
          rw [HVS.out]
          exact partL_visit HREP.out (Or.inr ⟨rfl, rfl⟩) HGOOD.out (Led.start s r _) (X q)
        have hLG := partL_LG s r (visits s r [] (listX X q)) 0 0
        have hgo := own_lt HO.out
        have hbsz := hb.size
        clear hT
        go_wp2_with fail
        refine (mword_any (X q) _ hbo hn z0 z1 HGOOD.out hLG hb.size).mono ?_
        rw [HT.out, HPL.out, ← HVS.out]
        rintro e w3 ⟨rfl, aN3, capN3, VN3, vg3, n3, fr3, o3⟩
        have ho3 := nm_row HO.out o3
        have hb3 := hb.trans (nm_below o3 hb.size)
        have off3 := hidden (Off.fresh HOFF.out fr3 hgo)
        have hz3 := hb3.size
        have hgo3 := own_ge ho3 go rfl
        clear hxc hbo hws hn o3 fr3 HOFF HO HPL HVS HT hLG hgo
        go_wp2_with (at_builtin; refine wpList_append_lie rfl (.tmp 33) (.tmp 40) rfl BO _ q _ rfl (ho3.alloc _) ⟨w3.heap.size, 0, none⟩ 1 (newW s r (otherB r) (reachG s r (listX X m)) (X q)) rfl (by simp [Addr.add]) (by omega) (by have := own_lt ho3; rw [nblk_alloc]; omega) ?_; intro g6 cp6 w6 ho6 gr hat; obtain ⟨n6, off6⟩ := now_grown n3 ho3 off3.out gr hat; have HOFF6 := hidden off6; have N6 := hidden n6; have hb6 := (hb3.alloc hz3 _).grown gr (by rw [nblk_alloc]; omega) (fun k hk => by have := own_ge ho3 k hk; omega); clear gr hat off6 n6)
        go_roundw
        case rel => exact ⟨q + 1, g6, cp6, aN3, capN3, VN3, vg3, by omega, by go_num, rfl, by rw [List.range_succ, List.map_append, List.map_singleton]; exact ho6, N6.out, HOFF6.out, hb6⟩
        case measure => simp [intOf]; omega
      · have hqm : q = m := by omega
        subst hqm
        clear hws hbo
        have HLS : Hid (Led s r (scans s r (listX X q) 0) 0 0) := Led.start s r _
        have hn0 : Now wr w.heap.size mb w.heap.size rb r (scans s r (listX X q) 0) (partL s r (scans s r (listX X q) 0) 0 0) aN capN VN vg := hn
        have hoff0 : Hid (Off (partL s r (scans s r (listX X q) 0) 0 0).length VN go) := HOFF.out
        have hgo := own_ge HO.out go rfl
        clear hn HOFF HGOOD
        go_wp2_with fail
        go_loopw [9] (fun v wr => ∃ (k : Nat) (aN : Option Addr) (capN : Nat) (VN : Nat → Value) (vg : Value), k ≤ r.L.length ∧ v = .int .i64 k ∧ Hid (Led s r (scans s r (listX X q) k) k 0) ∧ Now wr w.heap.size mb w.heap.size rb r (scans s r (listX X q) k) (partL s r (scans s r (listX X q) k) k 0) aN capN VN vg ∧ Hid (Off (partL s r (scans s r (listX X q) k) k 0).length VN go) ∧ Hid (wr.ownsRow BO 29 1 (.slice (some ⟨go, 0, none⟩) q co) q ((List.range q).map fun j => Value.int .u64 (newW s r (otherB r) (reachG s r (listX X q)) (X j)))) ∧ Below w.heap.size w wr) (fun v _ => r.L.length - (intOf v).toNat)
        case atStart => exact ⟨0, aN, capN, VN, vg, Nat.zero_le _, rfl, HLS, hn0, hoff0, HO, hb⟩
        case round =>
          clear hn0 hoff0 HLS HO hb
          obtain ⟨k, aN, capN, VN, vg, hk, rfl, HLS, hn, HOFF, HO, hb⟩ := hrel
          have HGD : Hid (GoodG r (scans s r (listX X q) k)) := scans_good HREP.out _ k
          have hgl := goodG_len HGD.out
          have HEND : Hid ((scans s r (listX X q) k).length ≤ k → reachG s r (listX X q) = scans s r (listX X q) k) := fun h => reach_end HREP.out _ k h
          have HSUC : Hid (scans s r (listX X q) (k + 1) = scan1 s r (scans s r (listX X q) k) k) := scans_succ s r _ k
          have hsz := (HBO.out wr hb).sizes
          have hplen : (partL s r (scans s r (listX X q) k) k 0).length = (scans s r (listX X q) k).length := by unfold partL; simp
          generalize hGk : scans s r (listX X q) k = Gk at *
          obtain ⟨c0, c1, c2, c3⟩ := hn.cells
          obtain ⟨e0, e1, e2, e3⟩ := hn.now.cells
          have e2' : wr.cell? ⟨w.heap.size, 2, none⟩ = some (.slice aN Gk.length capN) := by rw [← hplen]; exact e2
          by_cases hlt : k < Gk.length
          · have hpk := partL_at (s := s) (r := r) (k := k) (j := 0) hlt
            obtain ⟨ga, rfl, f1, f2, f3, f4⟩ := hn.now.row (by show (partL s r Gk k 0).length ≠ 0; omega)
            obtain ⟨d0, d1, d2, d3⟩ := f4 k _ hpk
            have d1' : wr.cell? ⟨ga, k * 3 + 1, none⟩ = some (.int .i64 (blkAt r (Gk.getD k 0)).tag) := d1
            have hgk : Gk[k]? = some (Gk.getD k 0) := by rw [List.getD_eq_getElem?_getD, List.getElem?_eq_getElem hlt]; rfl
            have hi0 : Gk.getD k 0 < r.L.length := HGD.out.2 _ (List.mem_of_getElem? hgk)
            have hb0 := blkAt_some hi0
            have x0 : (0 : Int) ≤ (k : Int) := by omega
            have x1 : (k : Int) < (Gk.length : Int) := by omega
            have hk1 : k + 1 ≤ r.L.length := by omega
            have hkb : (k : Int) ≤ 100000 := by omega
            have HS2 : Hid (scans s r (listX X q) (k + 1) = visits s r Gk (wordsOf (blkAt r (Gk.getD k 0)))) := by
              show _ = _
              rw [HSUC.out]; unfold scan1; rw [hgk]
            clear d0 d1 d2 d3 f1 f2 f3 f4 hpk e2 HSUC HEND
            by_cases ht : (blkAt r (Gk.getD k 0)).tag = 202
            · have T1 : ((blkAt r (Gk.getD k 0)).tag == 202) = true := by rw [ht]; rfl
              have HS3 : Hid (scans s r (listX X q) (k + 1) = Gk) := by
                show _ = _
                rw [HS2.out]; unfold wordsOf; rw [if_pos ht]; rfl
              have HPN : Hid _ := partL_next (s := s) (r := r) (G := Gk) (k := k) (j := 0) (Or.inl ht)
              have HLN : Hid _ := Led.next HLS.out hlt (Or.inl ht)
              generalize (blkAt r (Gk.getD k 0)).tag = tg at *
              clear ht HS2
              go_wp2_with fail
              go_roundw
              case rel => exact ⟨k + 1, _, _, _, _, hk1, by go_num, by rw [HS3.out]; exact HLN, by rw [HS3.out, ← HPN.out]; exact hn, by rw [HS3.out, ← HPN.out]; exact HOFF, HO, hb⟩
              case measure => simp [intOf]; omega
            · have T1 : ((blkAt r (Gk.getD k 0)).tag == 202) = false := by rw [beq_eq_false_iff_ne]; exact ht
              have HTT : Hid _ := ht
              obtain ⟨GJ, HGJ⟩ : ∃ GJ : Nat → List Nat, Hid (GJ 0 = Gk ∧ (∀ j, j < (blkAt r (Gk.getD k 0)).F.length → GJ (j + 1) = visit s r (GJ j) ((blkAt r (Gk.getD k 0)).F.getD j 0)) ∧ GJ (blkAt r (Gk.getD k 0)).F.length = scans s r (listX X q) (k + 1) ∧ (∀ j, GoodG r (GJ j)) ∧ (∀ j, k < (GJ j).length) ∧ ∀ j, blkAt r ((GJ j).getD k 0) = blkAt r (Gk.getD k 0)) := by
                refine ⟨fun j => visits s r Gk ((blkAt r (Gk.getD k 0)).F.take j), ?_, ?_, ?_, ?_, ?_, ?_⟩
                · show visits s r Gk ((blkAt r (Gk.getD k 0)).F.take 0) = Gk
                  rfl
                · intro j hj
                  show visits s r Gk ((blkAt r (Gk.getD k 0)).F.take (j + 1)) = visit s r (visits s r Gk ((blkAt r (Gk.getD k 0)).F.take j)) _
                  rw [List.take_succ_eq_append_getElem hj, visits_append]
                  generalize blkAt r (Gk.getD k 0) = bb at *
                  rw [List.getD_eq_getElem?_getD, List.getElem?_eq_getElem hj]
                  rfl
                · show visits s r Gk ((blkAt r (Gk.getD k 0)).F.take _) = _
                  rw [HS2.out, List.take_length]; unfold wordsOf; rw [if_neg ht]
                · exact fun j => visits_good HREP.out _ HGD.out
                · intro j
                  obtain ⟨T, hT⟩ := visits_ext (s := s) (r := r) ((blkAt r (Gk.getD k 0)).F.take j) Gk
                  show k < (visits s r Gk _).length
                  rw [hT, List.length_append]; omega
                · intro j
                  obtain ⟨T, hT⟩ := visits_ext (s := s) (r := r) ((blkAt r (Gk.getD k 0)).F.take j) Gk
                  show blkAt r ((visits s r Gk _).getD k 0) = _
                  have e5 : (Gk ++ T).getD k 0 = Gk.getD k 0 := by rw [List.getD_eq_getElem?_getD, List.getElem?_append_left hlt, ← List.getD_eq_getElem?_getD]
                  rw [hT, e5]
              have HFR : Hid (∀ j, j < (blkAt r (Gk.getD k 0)).F.length → 0 ≤ (blkAt r (Gk.getD k 0)).F.getD j 0 ∧ (blkAt r (Gk.getD k 0)).F.getD j 0 ≤ 18446744073709551615) := fun j hj => by
                have e := HREP.out.fld _ _ hb0 j _ (List.getElem?_eq_getElem hj)
                generalize blkAt r (Gk.getD k 0) = bb at *
                rw [List.getD_eq_getElem?_getD, List.getElem?_eq_getElem hj]
                show 0 ≤ bb.F[j] ∧ bb.F[j] ≤ _
                rw [← e]
                have hA := HB.out.arw
                exact ⟨hA.lo _, hA.hi _⟩
              have hfl := (HREP.out.tag _ _ hb0).2.2
              have HLS0 : Hid (Led s r (GJ 0) k 0) := by show Led s r (GJ 0) k 0; rw [HGJ.out.1]; exact HLS.out
              have hn0 : Now wr w.heap.size mb w.heap.size rb r (GJ 0) (partL s r (GJ 0) k 0) (some ⟨ga, 0, none⟩) capN VN vg := by rw [HGJ.out.1]; exact hn
              have HOFF0 : Hid (Off (partL s r (GJ 0) k 0).length VN go) := by show Off _ VN go; rw [HGJ.out.1]; exact HOFF.out
              have HI0 : Hid _ := hb0
              clear hn HOFF HLS HS2 hgk hi0 hb0 ht HGD hgl hplen HI0
              generalize blkAt r (Gk.getD k 0) = b0 at *
              go_wp2_with fail
              go_loopw [10] (fun v wr => ∃ (j : Nat) (aN : Option Addr) (capN : Nat) (VN : Nat → Value) (vg : Value), j ≤ b0.F.length ∧ v = .int .i64 j ∧ Hid (Led s r (GJ j) k j) ∧ Now wr w.heap.size mb w.heap.size rb r (GJ j) (partL s r (GJ j) k j) aN capN VN vg ∧ Hid (Off (partL s r (GJ j) k j).length VN go) ∧ Hid (wr.ownsRow BO 29 1 (.slice (some ⟨go, 0, none⟩) q co) q ((List.range q).map fun j => Value.int .u64 (newW s r (otherB r) (reachG s r (listX X q)) (X j)))) ∧ Below w.heap.size w wr) (fun v _ => b0.F.length - (intOf v).toNat)
              case atStart => exact ⟨0, _, _, _, _, Nat.zero_le _, rfl, HLS0, hn0, HOFF0, HO, hb⟩
              case round =>
                clear c0 c1 c2 c3 e0 e1 e3 e2' d1' hn0 HLS0 HOFF0 HO hb
                obtain ⟨j, aN, capN, VN, vg, hj, rfl, HLS, hn, HOFF, HO, hb⟩ := hrel
                obtain ⟨u0, u1, u2, u3, u4, u5⟩ := HGJ.out
                have hkj := u4 j
                have hgd := u5 j
                have hpk := partL_at (s := s) (r := r) (k := k) (j := j) hkj
                have hpl : (partB s r (GJ j) k j k).F.length = b0.F.length := by rw [partB_len, hgd]
                have hplen : (partL s r (GJ j) k j).length = (GJ j).length := by unfold partL; simp
                have hgl := goodG_len (u3 j)
                obtain ⟨c0, c1, c2, c3⟩ := hn.cells
                obtain ⟨e0, e1, e2, e3⟩ := hn.now.cells
                have e2' : wr.cell? ⟨w.heap.size, 2, none⟩ = some (.slice aN (GJ j).length capN) := by rw [← hplen]; exact e2
                have x2 : (k : Int) < ((GJ j).length : Int) := by omega
                have x3 : (GJ j).length ≤ 100000 := by omega
                clear e2
                by_cases hjl : j < b0.F.length
                · obtain ⟨ga, f, cc, rfl, hv, hnf, hof, d2, d1⟩ := now_field hn hpk (j := j) (by rw [hpl]; exact hjl)
                  rw [hpl] at d2
                  have hxc := hof.cell (i := j) (by rw [hpl]; exact hjl)
                  rw [partB_field (by rw [hgd]; exact HTT.out) (by rw [hgd]; exact hjl), hgd] at hxc
                  obtain ⟨z0, z1⟩ := HFR.out j hjl
                  have hbo := HBO.out wr hb
                  have HPL : Hid (partL s r (GJ j) k j ++ visitL s r (GJ j) (b0.F.getD j 0) = partL s r (GJ (j + 1)) k j) := by
                    show _ = _
                    rw [u1 j hjl]
                    exact partL_visit HREP.out (Or.inl hkj) (u3 j) HLS.out _
                  have HV1 : Hid (GJ (j + 1) = visit s r (GJ j) (b0.F.getD j 0)) := u1 j hjl
                  have HLS1 : Hid (Led s r (GJ (j + 1)) k (j + 1)) := by
                    have h3 := Led.step HLS.out hkj
                    rw [hgd] at h3
                    show Led s r (GJ (j + 1)) k (j + 1)
                    rw [HV1.out]; exact h3
                  have HLG : Hid _ := partL_LG s r (GJ j) k j
                  have HGJ3 : Hid _ := u3 j
                  have HST : Hid _ := partL_step (s := s) (G := GJ (j + 1)) (u4 (j + 1)) (by rw [u5]; exact HTT.out) (j := j) (by rw [u5]; exact hjl)
                  have HPK1 : Hid _ := partL_at (s := s) (r := r) (k := k) (j := j) (u4 (j + 1))
                  have HPL1 : Hid ((partB s r (GJ (j + 1)) k j k).F.length = b0.F.length) := by show _ = _; rw [partB_len, u5]
                  have HPN1 : Hid ((partL s r (GJ (j + 1)) k j).length = (GJ (j + 1)).length) := by show _ = _; unfold partL; simp
                  have HD1 : Hid _ := u5 (j + 1)
                  have x4 : (k : Int) < ((GJ (j + 1)).length : Int) := by have := u4 (j + 1); omega
                  have x5 : (GJ (j + 1)).length ≤ 100000 := by have := goodG_len (u3 (j + 1)); omega
                  have x6 : (0 : Int) ≤ (j : Int) := by omega
                  have x7 : (j : Int) < (b0.F.length : Int) := by omega
                  have hgo2 := own_lt HO.out
                  have hbz := hb.size
                  have h4 := HST.out
                  rw [HD1.out] at h4
                  have HST4 : Hid _ := h4
                  clear u0 u1 u2 u3 u4 u5 hpl hplen hgl hof hpk hv hgd hkj h4 HST HFR
                  generalize b0.F.getD j 0 = xj at *
                  go_wp2_with fail
                  refine (mword_any xj _ hbo hn z0 z1 HGJ3.out HLG.out hb.size).mono ?_
                  rw [HPL.out, ← HV1.out]
                  rintro e w3 ⟨rfl, aN3, capN3, VN3, vg3, n3, fr3, o3⟩
                  have ho3 := nm_row HO.out o3
                  have hb3 := hb.trans (nm_below o3 hb.size)
                  have off3 := Off.fresh HOFF.out fr3 hgo2
                  obtain ⟨ga3, f3, cc3, rfl, hv3, hnf3, hof3, d23, d13⟩ := now_field n3 HPK1.out (j := j) (by rw [HPL1.out]; exact hjl)
                  rw [HPL1.out] at d23
                  obtain ⟨c03, c13, c23, c33⟩ := n3.cells
                  obtain ⟨e03, e13, e23, e33⟩ := n3.now.cells
                  have e23' : w3.cell? ⟨w.heap.size, 2, none⟩ = some (.slice (some ⟨ga3, 0, none⟩) (GJ (j + 1)).length capN3) := by rw [← HPN1.out]; exact e23
                  have hyc := hof3.cell (i := j) (by rw [HPL1.out]; exact hjl)
                  have hyf := hof3.frozen j
                  have N4 : Hid _ := now_store n3 HPK1.out (j := j) (by rw [HPL1.out]; exact hjl) hv3 hof3 (newW s r (otherB r) (GJ (j + 1)) xj)
                  have HOF4 : Hid (go ≠ f3) := by
                    have := off3 k (by rw [HPN1.out]; omega) _ _ _ hv3
                    exact fun e => this e.symm
                  have HOFF4 : Hid _ := off3
                  have HO4 : Hid _ := ho3
                  clear hbo hn hb HLG HGJ3 o3 fr3 e23 c0 c1 c2 c3 e0 e1 e3 e2' d1 d2 hxc off3 hv3 hof3 HOFF HO
                  go_wp2_with fail
                  go_roundw
                  case rel =>
                    refine ⟨j + 1, some ⟨ga3, 0, none⟩, capN3, VN3, vg3, by omega, by go_num, HLS1, ?_, ?_, ?_, ?_⟩
                    · rw [HST4.out]
                      exact N4.out
                    · have h4 := HST4.out
                      have h5 : (partL s r (GJ (j + 1)) k (j + 1)).length = (partL s r (GJ (j + 1)) k j).length := by rw [h4]; simp
                      rw [h5]; exact HOFF4
                    · exact owns_keep HO4.out (fun g hg => blk_setCell_other _ _ _ _ (by
                        have eg : go = g := by simpa [Value.ownBlock] using hg
                        rw [← eg]; exact HOF4.out))
                    · exact hb3.setCell (p := ⟨f3, j, none⟩) (by show w.heap.size ≤ f3; omega) _
                  case measure => simp [intOf]; omega
                · have hje : j = b0.F.length := by omega
                  have HPN : Hid _ := partL_next (s := s) (r := r) (G := GJ j) (k := k) (j := j) (Or.inr (by rw [hgd]; omega))
                  have HLN : Hid _ := Led.next HLS.out hkj (Or.inr (by rw [hgd]; omega))
                  have HGE : Hid (GJ j = scans s r (listX X q) (k + 1)) := by show _ = _; rw [hje]; exact u2
                  obtain ⟨ga, hga, f1, f2, f3, f4⟩ := hn.now.row (by show (partL s r (GJ j) k j).length ≠ 0; omega)
                  obtain ⟨d0, d1, d2, d3⟩ := f4 k _ hpk
                  obtain ⟨va, vc, hvv⟩ := field_len d3
                  rw [hvv, hpl] at d2
                  subst hga
                  clear u0 u1 u2 u3 u4 u5 hpl hplen hgl hpk hgd hkj f4 d3 hvv d0 d1 hje HFR
                  go_wp2_with fail
                  go_roundw
                  case rel => exact ⟨k + 1, _, _, _, _, hk1, by go_num, by rw [← HGE.out]; exact HLN, by rw [← HGE.out, ← HPN.out]; exact hn, by rw [← HGE.out, ← HPN.out]; exact HOFF, HO, hb⟩
                  case measure => simp [intOf]; omega
          · have hG := HEND.out (by omega)
            have HG : Hid _ := hG
            clear hG e2
            go_wp2_with fail
            go_ret2
            obtain ⟨o1, o2⟩ := own_of_row HO.out
            have hpe := partL_end (s := s) (r := r) (G := Gk) (k := k) (by omega)
            have hcl : (collR s r (listX X q)).L = partL s r Gk k 0 := by
              rw [hpe]
              show (List.range (reachG s r (listX X q)).length).map (newB s r (otherB r) (reachG s r (listX X q))) = _
              rw [HG.out]
            refine ⟨mb, w.heap.size, go, co, aN, capN, VN, vg, rfl, ?_, o1, by omega, hb, ?_⟩
            · rw [HG.out, hcl]
              exact hn
            · rw [hcl]
              exact HOFF.out
end Go.Proofs.Ytlhcleocdlnbdaa
