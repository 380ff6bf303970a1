/-
  Layer 5, the program's Lay: where a text is laid, its fields, or what is wrong. Condition: the program's Mem lies in memory.
-/
import Derived.Test.YtlhcleocdlnbdaaE5Read
import Derived.Test.YtlhcleocdlnbdaaT5Two
import Derived.Deep.RegionWith
namespace Go.Proofs.Ytlhcleocdlnbdaa
open Go.ChangeShapes Go.WideShapes Go.ChangeAt Go.RowKit Go.Deep
set_option linter.unusedVariables false
set_option maxHeartbeats 1000000

variable {kb : Nat} {p : Pl} {w w' : World} {s : St} {r r1 : RS} {k k1 : Int}
theorem lay5_long (b : ByteArray) (al : Option Addr) (n c : Nat) (w : World) (hs : 4096 < b.size) :
    Calls Try.prog 11 #[.pointer (some ⟨kb, 0, none⟩), .string b, .slice al n c] w fun e w' => e = .returned (.tuple #[.int .u64 0, .slice none 0 0, .int .i64 4]) ∧ w' = w := by
  have h2 : (4096 : Int) < (b.size : Int) := by omega
  go_enter Try.func11, Try.ntmps11
  go_wp2_with fail
  go_ret3
  exact ⟨rfl, rfl⟩
/-- What Alloc tells and makes, in some state of the arena. -/
def PAllocSome (kb : Nat) (p : Pl) (al : Option Addr) (n : Nat) (E W : Int) (Y : Nat → Int) (r1 : RS) (k1 : Int) (w : World) (e : Ending) (w' : World) : Prop := ∃ s1, PAllocAs kb p al n E W Y s1 r1 k1 w e w'
theorem lay5_err {al : Option Addr} {n c : Nat} {E W : Int} {Y : Nat → Int} (b : ByteArray) (w : World) (hs : b.size ≤ 4096) (ha : Calls Try.prog 28 #[.pointer (some ⟨kb, 0, none⟩), .int .i64 202, .int .i64 ((b.size / 8 + 1 : Nat) : Int), .slice al n c] w fun e w' => PAllocSome kb p al n E W Y r1 k1 w e w') (hE : E ≠ 0) :
    Calls Try.prog 11 #[.pointer (some ⟨kb, 0, none⟩), .string b, .slice al n c] w fun e w' => PLayAs kb p al n (E, 0, Y, r1, k1) w e w' := by
  have h2 : (b.size : Int) ≤ 4096 := by omega
  have HA := hidden ha
  have hE2 : (E != 0) = true := by simp [hE]
  have HE := hidden hE
  clear ha hE
  go_enter Try.func11, Try.ntmps11
  go_wp2_with (go_at_call 28; refine HA.out.mono ?_; rintro e w2 ⟨s1, now, rfl, i1, o1, t1⟩; have I1 := hidden i1; have O1 := hidden o1; clear i1 o1 t1)
  all_goals go_ret3
  all_goals exact ⟨_, _, rfl, I1.out, O1.out, fun _ => ⟨none, 0, rfl⟩, fun h => absurd h HE.out⟩
theorem rest_list (s : ByteArray) (a : Nat) : (s.extract a s.size).data.toList = s.data.toList.drop a := by
  rw [ByteArray.data_extract, Array.toList_extract]
  have hl : s.data.toList.length = s.size := by rw [Array.length_toList]; rfl
  rw [List.extract_eq_take_drop, List.take_of_length_le (by rw [List.length_drop]; omega)]
theorem rest_size (s : ByteArray) (a : Nat) : (s.extract a s.size).size ≤ s.size := by
  have h1 : (s.extract a s.size).data.toList.length = (s.extract a s.size).size := by rw [Array.length_toList]; rfl
  have hl : s.data.toList.length = s.size := by rw [Array.length_toList]; rfl
  rw [rest_list, List.length_drop] at h1
  omega
def LayAt (kb : Nat) (p : Pl) (r1 : RS) (kk : Nat) (b : Blk) (f : List Int) (k1 : Int) (w2 : World) (kv : Value) (wr : World) : Prop :=
  ∃ (j : Nat) (s' : St), j ≤ b.F.length ∧ kv = .int .i64 j ∧ PI kb p wr s' (r1.withF kk b (mixG f b.F j)) k1 ∧ Only (Pown kb p) w2 wr
set_option maxRecDepth 100000 in
theorem lay5_yes {al : Option Addr} {n c : Nat} {W : Int} {Y : Nat → Int} {kk : Nat} {b : Blk} (s : ByteArray) (w : World) (hlt0 : ∀ q, Pown kb p q → q < w.heap.size) (hs : s.size ≤ 4096) (ha : Calls Try.prog 28 #[.pointer (some ⟨kb, 0, none⟩), .int .i64 202, .int .i64 ((s.size / 8 + 1 : Nat) : Int), .slice al n c] w fun e w' => PAllocSome kb p al n 0 W Y r1 k1 w e w') (hk : r1.L[kk]? = some b) (hF : b.F.length = s.size / 8 + 1) (hx : (b.ad : Int) = addrW W) (h0 : 0 ≤ W) (h1 : W ≤ 18446744073709551615) :
    Calls Try.prog 11 #[.pointer (some ⟨kb, 0, none⟩), .string s, .slice al n c] w fun e w' => PLayAs kb p al n (0, W, Y, r1.withF kk b (fieldsT (bytesS s)), k1) w e w' := by
  have h2 : (s.size : Int) ≤ 4096 := by omega
  have hkl := (List.getElem?_eq_some_iff.1 hk).1
  have HA := hidden ha
  have HHX := hidden hx
  have HK := hidden hk
  have HLT := hidden hlt0
  have HfL : Hid ((fieldsT (bytesS s)).length = b.F.length) := by show _ = _; rw [fieldsT_len, bytesS_len, hF]
  have HF := hidden hF
  clear ha hx hk hF hlt0
  go_enter Try.func11, Try.ntmps11
  go_wp2_with (go_at_call 28; refine HA.out.mono ?_; rintro e w2 ⟨s1, now, rfl, i1, o1, t1⟩; obtain ⟨al', c', rfl, hws, hnew, hg⟩ := t1 rfl; have I1 := hidden i1; have O1 := hidden o1; have WS1 := hidden hws; have NEW := hidden hnew; have HG := hidden hg; clear i1 o1 t1 hws hnew hg)
  rw [show ((s.size : Int) / 8 + 1) = ((b.F.length : Nat) : Int) from by have := HF.out; omega]
  go_loopw [33] (fun kv wr => LayAt kb p r1 kk b (fieldsT (bytesS s)) k1 w2 kv wr) (fun kv _ => b.F.length - (intOf kv).toNat)
  case atStart => exact ⟨0, s1, Nat.zero_le _, rfl, by rw [mixG_zero, withF_self HK.out]; exact I1.out, Only.refl _ _⟩
  case round =>
    obtain ⟨j, s', hj, rfl, hpi, hon⟩ := hrel
    have y0 := hpi.cells.1
    have hA := hpi.ar
    have hfits := hpi.rep.fits
    have HP := hidden hpi
    have HO := hidden hon
    clear hpi hon
    by_cases hlt : j < b.F.length
    · have x2 : (j : Int) < (b.F.length : Int) := by omega
      have hjs : 8 * j ≤ s.size := by have := HF.out; omega
      have z0 : (0 : Int) ≤ 8 * (j : Int) := by omega
      have z1 : 8 * (j : Int) ≤ (s.size : Int) := by omega
      have e1 := wrapId (8 * (j : Int)) (by omega) (by omega)
      go_wp2_with fail
      have y1 : wr.drew.cell? ⟨kb, 0, none⟩ = some (.pointer (some ⟨p.a, 0, none⟩)) := y0
      have HW : Hid (wordK (beginF (s.extract (8 * (j : Int)).toNat s.size)) 8 = (fieldsT (bytesS s)).getD j 0) := begin_word s _ (by have := HF.out; omega) (by rw [rest_list, show (8 * (j : Int)).toNat = 8 * j from by omega])
      have HX : Hid ((s.extract (8 * (j : Int)).toNat s.size).size ≤ 100000) := by have := rest_size s (8 * (j : Int)).toNat; show _ ≤ _; omega
      have hv : R64 ((fieldsT (bytesS s)).getD j 0) := by
        have hl2 := HfL.out
        rw [List.getD_eq_getElem?_getD, List.getElem?_eq_getElem (by omega)]
        exact fieldsT_rng _ _ (List.getElem_mem _)
      have HV := hidden hv
      have HMS := hidden (mixG_set HfL.out hlt)
      have HML := hidden (mixG_len HfL.out j)
      obtain ⟨v0, v1⟩ := hv
      generalize (fieldsT (bytesS s)).getD j 0 = fv at *
      go_region_with (first | (go_at_call 14; refine (mArena (p := p) wr.drew y1).mono ?_; rintro e w3 ⟨rfl, hw3⟩; rw [hw3]; clear hw3 w3) | (go_at_call 30; refine (e5_begin _ _ HX.out).mono ?_; rintro e w3 ⟨rfl, hb3⟩; have B3 := hidden hb3; clear hb3) | (go_at_call 31; refine (e5_word _ _).mono ?_; rintro e w4 ⟨rfl, hb4⟩; rw [HW.out]; have P4 : Hid (PI kb p w4 s' (r1.withF kk b (mixG (fieldsT (bytesS s)) b.F j)) k1) := ((HP.out.drewN 1).below B3.out rfl).below hb4 rfl; have O4 : Hid (Only (Pown kb p) w2 w4) := ((HO.out.drewN 1).trans (Only.of_below B3.out)).trans (Only.of_below hb4); clear hb4) | (go_at_call 29; refine (set_any W _ _ _ P4.out.ar hfits h0 h1 v0 v1).mono ?_; rintro e w5 ⟨rfl, hA5, o5⟩; have P5 : Hid (PI kb p w5 (s'.put W j fv) (r1.withF kk b (mixG (fieldsT (bytesS s)) b.F (j + 1))) k1) := by { have := (good_withF (x := W) (v := fv) (j := j) P4.out.good hkl HHX.out (by rw [HML.out]; exact hlt) HV.out).2.rep; rw [HMS.out] at this; exact P4.out.moved hA5 this o5 }; have O5 : Hid (Only (Pown kb p) w2 w5) := O4.out.trans (o5.mono (fun q _ hq => own_sub q hq)); clear hA5 o5))
      all_goals
        go_wp2_with fail
        go_roundw
        case rel => exact ⟨j + 1, _, by omega, by go_num, P5.out, O5.out⟩
        case measure => simp [intOf]; omega
    · have ej : j = b.F.length := by omega
      subst ej
      have HD : Hid (PI kb p wr s' (r1.withF kk b (fieldsT (bytesS s))) k1) := by have := HP.out; rw [mixG_all HfL.out] at this; exact this
      clear HP hA y0 hfits
      go_wp2_with fail
      go_ret3
      have nop : ∀ ad, al' = some ad → ¬ Pown kb p ad.block := fun ad e hq => by have := HLT.out _ hq; have := NEW.out ad e; omega
      exact ⟨_, _, rfl, HD.out, O1.out.trans HO.out, fun h => absurd rfl h, fun _ => ⟨al', c', rfl, WS1.out.frame HO.out (fun ad e _ => nop ad e), NEW.out, fun ha => by obtain ⟨g, e, _⟩ := HG.out ha; exact ⟨g, e⟩⟩⟩
theorem agree_laidT {s s' : St} (h : Good s r) (h' : Good s' r) (l : List UInt8) : laidT s r l = laidT s' r l := by unfold laidT; rw [agree_top h h']
/-- The program's Lay does what the document's does. -/
theorem lay5C : LayC where
  lay := by
    intro kb p s r k al n c X b w h hx hn
    have hlen := bytesS_len b
    have hs0 := h.good
    have hg := pick_good hs0
    have hz : sizeT (bytesS b) = ((b.size / 8 + 1 : Nat) : Int) := by unfold sizeT; rw [hlen]
    by_cases hl : 4096 < b.size
    · have e : layOf r k n X (bytesS b) = (4, 0, X, r, k) := by unfold layOf; rw [if_pos (by omega)]
      rw [e]
      refine (lay5_long b al n c w hl).mono ?_
      rintro e w' ⟨rfl, rfl⟩
      exact ⟨s, _, rfl, h, Only.refl _ _, fun _ => ⟨none, 0, rfl⟩, fun h => by cases h⟩
    · by_cases g : (pick r).allocE 202 (sizeT (bytesS b)) = 0
      · have e : layOf r k n X (bytesS b) = (0, (pick r).allocW 202 (sizeT (bytesS b)), X, laidT (pick r) r (bytesS b), k) := by unfold layOf; rw [if_neg (by omega), if_pos g]
        rw [e]
        obtain ⟨q1, q2⟩ := laid_with (pick r) r g
        obtain ⟨_, q3, q4, q5⟩ := word_laid hg g
        have g' : s.allocE 202 (sizeT (bytesS b)) = 0 := by rw [agree_allocE hs0 hg]; exact g
        have := lay5_yes (kk := r.L.length) (b := ⟨(pick r).top + 1, 202, List.replicate ((bytesS b).length / 8 + 1) 1⟩) (al := al) (n := n) (c := c) (Y := X) (k1 := k) b w h.lt (by omega) (by
          rw [← hz]
          refine (mAlloc_yes w h hx hn g').mono ?_
          intro e w' h1
          rw [agree_allocW hs0 hg, agree_after hs0 hg] at h1
          exact ⟨_, h1⟩) q1 (by rw [hlen]; simp) q3 q4 q5
        rw [q2] at this
        exact this
      · have g10 := text_errs (pick r) (l := bytesS b) (by omega) g
        have g10' : s.allocE 202 (sizeT (bytesS b)) = 10 := by rw [agree_allocE hs0 hg]; exact g10
        by_cases gf : (r.n : Int) < (lenG r (reachG (pick r) r (listX X n)) : Nat) + sizeT (bytesS b) + 1
        · have e : layOf r k n X (bytesS b) = (10, 0, X, r, k) := by unfold layOf; rw [if_neg (by omega), if_neg g, if_pos gf]
          rw [e]
          exact lay5_err b w (by omega) (by
            rw [← hz]
            refine (mAlloc_full w h hx hn g10' (by rw [agree_reach hs0 hg]; exact gf)).mono ?_
            intro e w' h1
            exact ⟨_, h1⟩) (show (10 : Int) ≠ 0 by decide)
        · have hgc := good_coll_pick hg w (xs := listX X n)
          have e : layOf r k n X (bytesS b) = (0, (pick (collR (pick r) r (listX X n))).allocW 202 (sizeT (bytesS b)), fun i => collW (pick r) r (listX X n) (X i), laidT (pick (collR (pick r) r (listX X n))) (collR (pick r) r (listX X n)) (bytesS b), wrap64 (k + 1)) := by unfold layOf; rw [if_neg (by omega), if_neg g, if_neg gf]
          rw [e]
          have g1 : (pick (collR (pick r) r (listX X n))).allocE 202 (sizeT (bytesS b)) = 0 := room_fits4 hg.rep g10 gf hgc.rep
          obtain ⟨q1, q2⟩ := laid_with (pick (collR (pick r) r (listX X n))) (collR (pick r) r (listX X n)) g1
          obtain ⟨_, q3, q4, q5⟩ := word_laid hgc g1
          have := lay5_yes (kk := (collR (pick r) r (listX X n)).L.length) (b := ⟨(pick (collR (pick r) r (listX X n))).top + 1, 202, List.replicate ((bytesS b).length / 8 + 1) 1⟩) (al := al) (n := n) (c := c) (Y := fun i => collW (pick r) r (listX X n) (X i)) (k1 := wrap64 (k + 1)) b w h.lt (by omega) (by
            rw [← hz]
            refine (mAlloc_room w h hx hn g10' (by rw [agree_reach hs0 hg]; exact gf)).mono ?_
            rintro e w' ⟨s1, hs1, h1⟩
            rw [agree_collR hs0 hg] at hs1 h1
            rw [agree_allocW hs1 hgc, agree_after hs1 hgc] at h1
            rw [show (fun i => collW s r (listX X n) (X i)) = (fun i => collW (pick r) r (listX X n) (X i)) from funext (fun i => agree_collW hs0 hg _ _)] at h1
            exact ⟨_, h1⟩) q1 (by rw [hlen]; simp) q3 q4 q5
          rw [q2] at this
          exact this
end Go.Proofs.Ytlhcleocdlnbdaa
