/-
  What the program's Collect tells and makes: all that is in reach lies in the other half, in the order in which it was met. Condition: the arena lies in memory, in one state with a list of blocks.
-/
import Derived.Test.YtjnlfnecmiklhaaC3Lay
import Derived.Test.YtjnlfnecmiklhaaFlips
namespace Go.Proofs.Ytjnlfnecmiklhaa
open Go.ChangeShapes Go.WideShapes Go.ChangeAt Go.RowKit Go.Deep
set_option linter.unusedVariables false
set_option maxHeartbeats 1000000
variable {p : Pl} {s : St} {r : RS} {G : List Nat}

/-- The first j blocks lie in the other half. -/
def partR (s : St) (r : RS) (G : List Nat) (j : Nat) : RS := ⟨r.n, 1 - r.which, (List.range j).map (newB s r (otherB r) G)⟩
theorem part_len (s : St) (r : RS) (G : List Nat) : ∀ (j : Nat), j ≤ G.length → lenB (partR s r G j).L = lenG r (G.take j)
  | 0, _ => by unfold partR; simp [lenB, lenG]
  | j + 1, h => by
    have ih := part_len s r G j (by omega)
    have e : (partR s r G (j + 1)).L = (partR s r G j).L ++ [newB s r (otherB r) G j] := by unfold partR; rw [List.range_succ, List.map_append]; rfl
    have e2 : G.take (j + 1) = G.take j ++ [G.getD j 0] := by
      rw [List.take_add_one, List.getD_eq_getElem?_getD, List.getElem?_eq_getElem (by omega)]; rfl
    rw [e, lenB_append, ih, e2, lenG_append, lenG_one]
    congr 1
    show lenB [newB s r (otherB r) G j] = _
    simp only [lenB]
    rw [newB_len]
    omega
theorem part_room {w : World} (h : Ar w p s) (hr : Rep s r) (hG : GoodG r G) {j : Nat} (hj : j < G.length) : lenG r (G.take j) + 1 + (blkAt r (G.getD j 0)).F.length ≤ s.n := by
  have t1 := h.t1; have t2 := h.t2; have htop := hr.top
  have g1 := (goodG_len hG).1
  have e2 : G.take (j + 1) = G.take j ++ [G.getD j 0] := by
    rw [List.take_add_one, List.getD_eq_getElem?_getD, List.getElem?_eq_getElem hj]; rfl
  have e3 : lenG r G = lenG r (G.take (j + 1)) + lenG r (G.drop (j + 1)) := by rw [← lenG_append, List.take_append_drop]
  rw [e2, lenG_append, lenG_one] at e3
  omega
/-- There is room for the next block. -/
theorem part_fits {w : World} (h : Ar w p s) (hr : Rep s r) (hG : GoodG r G) {j : Nat} (hj : j < G.length) {s' : St} (hr' : Rep s' (partR s r G j)) : s'.allocE (tagG r G j) (fldG s r G j).length = 0 ∧ s'.top + 1 = placeG r (otherB r) G j := by
  have hmem : G.getD j 0 ∈ G := by rw [List.getD_eq_getElem?_getD, List.getElem?_eq_getElem hj]; exact List.getElem_mem hj
  have hb := blkAt_some (hG.2 _ hmem)
  have hm := hr.may _ _ hb
  have ht := hr.tag _ _ hb
  have hrm := part_room h hr hG hj
  have htop := hr'.top
  rw [part_len s r G j (by omega)] at htop
  have hbase : s'.base = otherB r := hr'.base
  have hn : s'.n = s.n := hr'.n.trans hr.n.symm
  have hlen : (fldG s r G j).length = (blkAt r (G.getD j 0)).F.length := newF_len s r G _
  refine ⟨?_, ?_⟩
  · unfold St.allocE
    unfold tagG
    rw [hlen, if_neg (by rw [hm]; simp), if_neg (by omega), if_neg (by omega)]
  · unfold placeG; omega
theorem part_next {s' : St} {j : Nat} (e : s'.top + 1 = placeG r (otherB r) G j) : layR (partR s r G j) (s'.top + 1) (tagG r G j) (fldG s r G j) = partR s r G (j + 1) := by
  unfold layR partR
  rw [List.range_succ, List.map_append, e]
  rfl
theorem fld_rng {w : World} (h : Ar w p s) (hr : Rep s r) (hG : GoodG r G) {j : Nat} (hj : j < G.length) (k : Nat) : 0 ≤ (fldG s r G j).getD k 0 ∧ (fldG s r G j).getD k 0 ≤ 18446744073709551615 := by
  have hmem : G.getD j 0 ∈ G := by rw [List.getD_eq_getElem?_getD, List.getElem?_eq_getElem hj]; exact List.getElem_mem hj
  have hb := blkAt_some (hG.2 _ hmem)
  have hf := Rep.fieldLo h hr hb k
  unfold fldG
  by_cases ht : (blkAt r (G.getD j 0)).tag = 202
  · unfold newF; rw [if_pos ht]; exact hf
  · by_cases hk : k < (blkAt r (G.getD j 0)).F.length
    · rw [newF_words ht hk]; exact newW_rng h hr hG _ hf.1 hf.2
    · rw [List.getD_eq_getElem?_getD, List.getElem?_eq_none (by rw [newF_len]; omega)]
      exact ⟨Int.le_refl _, by decide⟩
theorem own_not {w : World} (h : Ar w p s) {g : Nat} (hg : w.heap.size ≤ g) : ¬ p.own g := by
  have l2 := lt_of_some h.hh
  have l3 := h.hc.lt
  have l4 := h.hb.lt
  intro hs
  rcases hs with e | e | e <;> omega
def CollectAs (w : World) (p : Pl) (r' : RS) (m : Nat) (Y : Nat → Int) (e : Ending) (w' : World) : Prop := ∃ g s', e = .returned (.slice (some ⟨g, 0, none⟩) m m) ∧ Own w' g m Y ∧ w.heap.size ≤ g ∧ Ar w' p s' ∧ Rep s' r' ∧ Only p.own w w'
set_option maxRecDepth 100000 in
theorem collect_as {al : Option Addr} {m c : Nat} {X : Nat → Int} (w : World) (h : Ar w p s) (hr : Rep s r) (hx : WS w al m c X) (hm : m ≤ 1000) :
    Calls Try.prog 79 #[.pointer (some ⟨p.a, 0, none⟩), .slice al m c] w fun e w' => CollectAs w p (collR s r (listX X m)) m (fun i => collW s r (listX X m) (X i)) e w' := by
  have HAR : Hid (∀ wr, Below w.heap.size w wr → Ar wr p s) := fun wr k => h.frame (S := fun _ => False) (Only.of_below k) id id id id
  have HWS : Hid (∀ wr, Below w.heap.size w wr → WS wr al m c X) := fun wr k => hx.below k
  have HR : Hid _ := hr
  have HX : Hid _ := hx
  have HH : Hid _ := h
  have HG : Hid (GoodG r (reachG s r (listX X m))) := reach_good hr (listX X m)
  have HIN : Hid (∀ j, j < m → ∀ i, leadI s r (X j) = some i → i ∈ reachG s r (listX X m)) := fun j hj i hi => reach_root hr (xs := listX X m) (by unfold listX; exact List.mem_map.2 ⟨j, List.mem_range.2 hj, rfl⟩) hi
  have HFL : Hid (∀ i, i ∈ reachG s r (listX X m) → ∀ x, x ∈ wordsOf (blkAt r i) → ∀ j, leadI s r x = some j → j ∈ reachG s r (listX X m)) := fun i hi x hx' j hj => by
    obtain ⟨k, hk⟩ := List.getElem?_of_mem hi
    exact reach_field hr hk hx' hj
  have HPR : Hid (Rep s.flip (partR s r (reachG s r (listX X m)) 0)) := rep_flip hr
  have HCR : Hid (collR s r (listX X m) = partR s r (reachG s r (listX X m)) (reachG s r (listX X m)).length) := rfl
  have hbd := (good_bound h hr (reach_good hr (listX X m))).2.1
  clear hr hx
  go_enter Try.func79, Try.ntmps79
  go_wp2_with (first
    | (go_at_call 51; refine (follow_any _ HH.out HR.out HX.out (by omega)).mono ?_; rintro e w1 ⟨bl, D, rfl, hM, hb⟩; have M1 := hidden hM; have B1 := hidden hb; clear hM hb)
    | (go_at_call 87; refine (moveAll_any _ (HAR.out _ B1.out) HR.out M1.out HG.out (HWS.out _ B1.out) (by omega) HIN.out).mono ?_; rintro e w2 ⟨gN, rfl, hgN, hoN, hb2⟩; have M2 := hidden (M1.out.below hb2); have B2 := hidden (B1.out.trans (hb2.mono B1.out.size)); have ON := hidden hoN; have GN := hidden (Nat.le_trans B1.out.size hgN); clear hgN hoN hb2)
    | (go_at_call 88; refine (twins_any _ (HAR.out _ B2.out) HR.out M2.out HG.out HFL.out).mono ?_; rintro e w3 ⟨gT, rfl, hgT, hoT, hb3⟩; have B3 := hidden (B2.out.trans (hb3.mono B2.out.size)); have ON3 := hidden (ON.out.frame (S := fun _ => False) (Only.of_below hb3) id); have OT := hidden hoT; have GT := hidden (Nat.le_trans B2.out.size hgT); have BS := hidden B2.out.size; clear hgT hoT hb3)
    | (go_at_call 89; refine (flip_any _ (HAR.out _ B3.out)).mono ?_; rintro e w4 ⟨rfl, h4, o4⟩; have H4 := hidden h4; have O4 := hidden o4; clear h4 o4))
  clear M1 B1 M2 B2 ON HX h
  go_loopw [22] (fun i wr => ∃ (j : Nat) (s' : St), j ≤ (reachG s r (listX X m)).length ∧ i = .int .i64 j ∧ Ar wr p s' ∧ Rep s' (partR s r (reachG s r (listX X m)) j) ∧ Only p.own w3 wr) (fun i _ => (reachG s r (listX X m)).length - (intOf i).toNat)
  case atStart => exact ⟨0, _, Nat.zero_le _, rfl, H4.out, HPR.out, O4.out⟩
  case round =>
    clear HPR H4 O4
    obtain ⟨j, s', hj, rfl, h', hr', o'⟩ := hrel
    by_cases hlt : j < (reachG s r (listX X m)).length
    · have hT := OT.out.frame o' (own_not HH.out GT.out) (fun c hc _ => own_not HH.out (Nat.le_trans BS.out hc))
      obtain ⟨gk, k0, k1, k2, k3⟩ := hT.cells (Nat.le_refl _) hlt
      have HO := hidden k3
      have HN : Hid (¬ p.own gk) := own_not HH.out (Nat.le_trans BS.out k2)
      obtain ⟨hE, hP⟩ := part_fits HH.out HR.out HG.out hlt hr'
      have HE : Hid _ := hE
      have HNX : Hid (layR (partR s r (reachG s r (listX X m)) j) (s'.top + 1) (tagG r (reachG s r (listX X m)) j) (fldG s r (reachG s r (listX X m)) j) = partR s r (reachG s r (listX X m)) (j + 1)) := part_next hP
      have HRG : Hid (∀ k, 0 ≤ (fldG s r (reachG s r (listX X m)) j).getD k 0 ∧ (fldG s r (reachG s r (listX X m)) j).getD k 0 ≤ 18446744073709551615) := fld_rng HH.out HR.out HG.out hlt
      have x1 : (0 : Int) ≤ (j : Int) := by omega
      have x2 : (j : Int) < ((reachG s r (listX X m)).length : Int) := by omega
      have O' : Hid _ := o'
      have HR' : Hid _ := hr'
      clear hT k2 k3 hE hP o' hr' HIN HFL HCR
      generalize reachG s r (listX X m) = G at *
      generalize tagG r G j = t at *
      generalize fldG s r G j = F at *
      go_wp2_with (go_at_call 90; refine (twinLay_any _ (h'.alloc _) HR'.out (HO.out.below' _) HN.out HRG.out HE.out).mono ?_; rw [HNX.out]; rintro e w5 ⟨rfl, s5, h5, r5, o5⟩; have H5 := hidden h5; have R5 := hidden r5; have O5 := hidden ((O'.out.alloc _).trans o5); clear h5 r5 o5)
      go_roundw
      case rel => exact ⟨j + 1, s5, by omega, by go_num, H5.out, R5.out, O5.out⟩
      case measure => simp [intOf]; omega
    · have ej : j = (reachG s r (listX X m)).length := by omega
      have HE : Hid _ := ej
      have hnl : ¬ ((j : Int) < ((reachG s r (listX X m)).length : Int)) := by omega
      clear ej hlt
      go_wp2
      go_ret
      refine ⟨gN, s', rfl, ON3.out.frame o' (own_not HH.out GN.out), GN.out, h', ?_, (Only.of_below B3.out).trans o'⟩
      rw [HCR.out, ← HE.out]; exact hr'
theorem collect_any {al : Option Addr} {m c : Nat} {X : Nat → Int} (w : World) (h : Ar w p s) (hr : Rep s r) (hx : WS w al m c X) (hm : m ≤ 1000) :
    Calls Try.prog 79 #[.pointer (some ⟨p.a, 0, none⟩), .slice al m c] w fun e w' => ∃ al' c' s', e = .returned (.slice al' m c') ∧
      WS w' al' m c' (fun i => collW s r (listX X m) (X i)) ∧ (∀ ad, al' = some ad → w.heap.size ≤ ad.block) ∧ Ar w' p s' ∧ Rep s' (collR s r (listX X m)) ∧ Only p.own w w' := by
  refine (collect_as w h hr hx hm).mono ?_
  rintro e w' ⟨g, s', rfl, ho, hg, ha, hrp, hon⟩
  have hG := reach_good hr (listX X m)
  exact ⟨some ⟨g, 0, none⟩, m, s', rfl, ws_own ho (fun i hi => (newW_rng h hr hG _ (hx.lo i hi) (hx.hi i hi)).1) (fun i hi => (newW_rng h hr hG _ (hx.lo i hi) (hx.hi i hi)).2), fun ad had => by cases had; exact hg, ha, hrp, hon⟩
end Go.Proofs.Ytjnlfnecmiklhaa
