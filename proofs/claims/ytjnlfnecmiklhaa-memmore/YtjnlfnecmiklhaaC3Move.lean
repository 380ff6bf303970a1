/-
  What a word will be, by the plan: move and moveAll; and what Reach tells. Condition: the arena and the plan lie in memory, and all that the words lead to has its place.
-/
import Derived.Test.YtjnlfnecmiklhaaC3Plan
import Derived.Test.YtjnlfnecmiklhaaR3Mem
import Derived.BigQuiet
namespace Go.Proofs.Ytjnlfnecmiklhaa
open Go.ChangeShapes Go.WideShapes Go.ChangeAt Go.RowKit Go.Deep
set_option linter.unusedVariables false
set_option maxHeartbeats 1000000
variable {p : Pl} {s : St} {r : RS} {q : Nat} {bl : Value} {G : List Nat} {D : DataW Unit}

theorem place_bound {w : World} (h : Ar w p s) (hr : Rep s r) (hG : GoodG r G) (k : Nat) : placeG r (otherB r) G k ≤ 65537 := by
  obtain ⟨g1, g2, g3⟩ := good_bound h hr hG
  have e : lenG r G = lenG r (G.take k) + lenG r (G.drop k) := by rw [← lenG_append, List.take_append_drop]
  unfold placeG
  omega
theorem newW_rng {w : World} (h : Ar w p s) (hr : Rep s r) (hG : GoodG r G) (x : Int) (h0 : 0 ≤ x) (h1 : x ≤ 18446744073709551615) : 0 ≤ newW s r (otherB r) G x ∧ newW s r (otherB r) G x ≤ 18446744073709551615 := by
  unfold newW
  cases e : leadI s r x with
  | none => exact ⟨h0, h1⟩
  | some i =>
    have := place_bound h hr hG (G.idxOf i)
    obtain ⟨d0, d1⟩ := find_dist hr x
    show 0 ≤ 2 * (_ + _) ∧ 2 * (_ + _) ≤ _
    omega
theorem move_any (x : Int) (w : World) (h : Ar w p s) (hr : Rep s r) (hM : Mv w p r q bl G D) (hG : GoodG r G) (h0 : 0 ≤ x) (h1 : x ≤ 18446744073709551615) (hin : ∀ i, leadI s r x = some i → i ∈ G) :
    Calls Try.prog 92 #[.pointer (some ⟨q + 1, 0, none⟩), .int .u64 x] w fun e w' => e = .returned (.int .u64 (newW s r (otherB r) G x)) ∧ ∃ k, w' = w.drewN k := by
  obtain ⟨c0, c1, c2, c3, c4⟩ := hM.1.cells
  rcases lead_cases hr x with ⟨f0, l0⟩ | ⟨i, b, hb, f0, l0⟩
  · have HF : Hid _ := f0
    have HV : Hid (x = newW s r (otherB r) G x) := by show _ = _; unfold newW; rw [l0]
    clear f0 l0 hin
    go_enter Try.func92, Try.ntmps92
    go_wp2_with (go_at_call 49; refine (leads_any x _ h h0 h1).mono ?_; rintro e w1 ⟨rfl, k, rfl⟩; rw [HF.out])
    go_ret
    exact ⟨ret_int HV.out, _, rfl⟩
  · have ebi := blkAt_of hb
    have hil := (List.getElem?_eq_some_iff.1 hb).1
    have hnb := hr.inside hb
    have n2 := h.n2; have t2 := h.t2; have b1 := h.b1
    have hpb := place_bound h hr hG (G.idxOf i)
    obtain ⟨d0, d1⟩ := find_dist hr x
    obtain ⟨y, hy⟩ : ∃ y : Int, y = 2 * (b.ad : Int) := ⟨_, rfl⟩
    have HF : Hid (2 * (s.find x).1 = y) := by show _ = _; rw [f0, hy]
    have y0 : 0 < y := by omega
    have y1 : y ≤ 18446744073709551615 := by omega
    have yb : (y == 0) = false := beq_eq_false_iff_ne.2 (by omega)
    have HK : Hid (keyI r i = .int .u64 y) := by show _ = _; unfold keyI; rw [ebi, hy]
    obtain ⟨P, hP⟩ : ∃ P, P = placeG r (otherB r) G (G.idxOf i) := ⟨_, rfl⟩
    have HA : Hid (∀ c : Int, D.atKey (.int .u64 y) (.lit (.int .u64 0)) = .lit (.int .u64 c) → c = 2 * (P : Int)) := fun c hc => by
      have := hM.2.2 i (hin i l0)
      rw [HK.out, hc] at this
      rw [hP]
      have e := (Lit.int.inj (DataW.lit.inj this)).2
      exact e
    have HV : Hid (2 * ((P : Int) + (s.find x).2) = newW s r (otherB r) G x) := by show _ = _; unfold newW; rw [l0, hP]
    rw [← hP] at hpb
    have HAD : Hid (addrW (2 * (P : Int)) = P) := by show _ = _; unfold addrW; rw [if_neg (by omega)]; omega
    have HPT : Hid (ptrW ((P : Int) + (s.find x).2) = 2 * ((P : Int) + (s.find x).2)) := by show _ = _; unfold ptrW; rw [if_neg (by omega)]
    clear f0 l0 hin hb ebi hnb hy hP
    obtain ⟨d, hd⟩ : ∃ d, (s.find x).2 = d := ⟨_, rfl⟩
    have HD : Hid _ := hd
    rw [hd] at HPT HV d0 d1
    clear hd
    go_enter Try.func92, Try.ntmps92
    go_wp2_with (first
      | (go_at_call 49; refine (leads_at x y d _ h h0 h1 HF.out HD.out).mono ?_; rintro e w1 ⟨rfl, k, hw1⟩; have M1 := mv_drew hM hw1; have HW := hidden hw1; clear hw1; obtain ⟨k0, k1, k2, k3, k4⟩ := M1.1.cells)
      | (at_lookup; refine wpList_lookup_own_int _ rfl _ _ 97 rfl 54 54 .u64 word_keyed Try.underlying97 Try.underlying54 (word_zero _) q _ _ rfl M1.1.map _ _ rfl (Maps.keyOf_int_mk Try.underlying54 (word_wf (Int.le_of_lt y0) y1)) ?_; intro cc hat hwc; rw [HA.out cc hat]; clear hat hwc)
      | (go_at_call 64; refine (addr_any _ _ (by omega) (by omega)).mono ?_; rintro e w' ⟨rfl, hw'⟩; rw [hw', HAD.out]; clear hw' w')
      | (go_at_call 44; refine (ptr_any _ _ (by omega) (by omega)).mono ?_; rintro e w' ⟨rfl, hw'⟩; rw [hw', HPT.out]; clear hw' w'))
    go_ret
    exact ⟨ret_int HV.out, _, HW.out⟩
/-- What has been moved so far. -/
def movedTo (Y : Nat → Int) (j k : Nat) : Int := if k < j then Y k else 0
theorem movedTo_step {w : World} {g n j : Nat} {Y : Nat → Int} (h : Own w g n (movedTo Y j)) : Own (w.setCell ⟨g, j, none⟩ (.int .u64 (Y j))) g n (movedTo Y (j + 1)) := by
  refine (h.set j (Y j)).congr (fun k hk => ?_)
  unfold movedTo
  by_cases e : k = j
  · subst e; rw [if_pos rfl, if_pos (by omega)]
  · rw [if_neg e]
    by_cases e2 : k < j
    · rw [if_pos e2, if_pos (by omega)]
    · rw [if_neg e2, if_neg (by omega)]
def AllAs (w : World) (m : Nat) (Y : Nat → Int) (e : Ending) (w' : World) : Prop := ∃ g, e = .returned (.slice (some ⟨g, 0, none⟩) m m) ∧ w.heap.size ≤ g ∧ Own w' g m Y ∧ Below w.heap.size w w'
theorem moveAll_any {al : Option Addr} {m c : Nat} {X : Nat → Int} (w : World) (h : Ar w p s) (hr : Rep s r) (hM : Mv w p r q bl G D) (hG : GoodG r G) (hx : WS w al m c X) (hm : m ≤ 100000) (hin : ∀ j, j < m → ∀ i, leadI s r (X j) = some i → i ∈ G) :
    Calls Try.prog 87 #[.pointer (some ⟨q + 1, 0, none⟩), .slice al m c] w fun e w' => AllAs w m (fun j => newW s r (otherB r) G (X j)) e w' := by
  have HAR : Hid (∀ wr, Below w.heap.size w wr → Ar wr p s) := fun wr k => h.frame (S := fun _ => False) (Only.of_below k) id id id id
  have HMV : Hid (∀ wr, Below w.heap.size w wr → Mv wr p r q bl G D) := fun wr k => hM.below k
  have HWS : Hid (∀ wr, Below w.heap.size w wr → WS wr al m c X) := fun wr k => hx.below k
  have HR : Hid _ := hr
  have HGG : Hid _ := hG
  have HIN : Hid _ := hin
  clear hr hM hG hx hin
  have hmk : ∀ w : World, (Instr.makeSlice 28 (.int .i64 (m : Int)) (.int .i64 (m : Int))).run Try.prog w = .ok (.slice (some ⟨w.heap.size, 0, none⟩) m m) (w.alloc (.cells (madeCells #[.int .u64 0] m) 54)) :=
    run_make_row' (P := Try.prog) 28 54 (.int .u64 0) 8 Try.underlying28 Try.info54 rfl .i64 .i64 m (by omega) (by omega)
  go_enter Try.func87, Try.ntmps87
  go_wp2_with fail
  have hb2 : Below w.heap.size w (w.alloc (.cells (madeCells #[.int .u64 0] m) 54)) := (Below.refl _ _).alloc (Nat.le_refl _) _
  have ho2 := own_made w m
  obtain ⟨g, hg⟩ : ∃ g, g = w.heap.size := ⟨_, rfl⟩
  have HG : Hid (w.heap.size ≤ g) := by show _ ≤ _; omega
  rw [← hg] at ho2 ⊢
  clear hg
  generalize w.alloc (.cells (madeCells #[.int .u64 0] m) 54) = w2 at *
  go_loopw [13] (fun i wr => ∃ j : Nat, j ≤ m ∧ i = .int .i64 j ∧ Own wr g m (movedTo (fun j => newW s r (otherB r) G (X j)) j) ∧ Below w.heap.size w wr) (fun i _ => m - (intOf i).toNat)
  case atStart => exact ⟨0, Nat.zero_le _, rfl, ho2.congr (fun k _ => rfl), hb2⟩
  case round =>
    clear ho2 hb2
    obtain ⟨j, hj, rfl, ho, hbr⟩ := hrel
    have h := HAR.out wr hbr
    have hM := HMV.out wr hbr
    have hx := HWS.out wr hbr
    by_cases hlt : j < m
    · obtain ⟨x, rfl, hxc⟩ := hx.cell j hlt
      have z0 := hx.lo j hlt
      have z1 := hx.hi j hlt
      have x1 : (0 : Int) ≤ (j : Int) := by omega
      have x2 : (j : Int) < (m : Int) := by omega
      have HIJ : Hid _ := HIN.out j hlt
      have HO := hidden ho
      have HBR := hidden hbr
      obtain ⟨y, hy⟩ : ∃ y, y = newW s r (otherB r) G (X j) := ⟨_, rfl⟩
      have HY : Hid (newW s r (otherB r) G (X j) = y) := hy.symm
      clear ho hbr hx hy
      go_wp2_with (go_at_call 92; refine (move_any _ _ h HR.out hM HGG.out z0 z1 HIJ.out).mono ?_; rintro e w3 ⟨rfl, k3, hw3⟩; rw [HY.out]; have ho3 := hidden (own_is HO.out hw3); have hb3 := hidden (below_is2 HBR.out hw3); clear hw3; have k1 := ho3.out.cell hlt; have k2 := ho3.out.frozen j)
      go_roundw
      case rel => exact ⟨j + 1, by omega, by go_num, by rw [← HY.out]; exact movedTo_step ho3.out, below_set hb3.out HG.out _ _⟩
      case measure => simp [intOf]; omega
    · have ej : j = m := by omega
      subst ej
      have hnl : ¬ ((j : Int) < (j : Int)) := by omega
      go_wp2
      go_ret
      exact ⟨g, rfl, HG.out, ho.congr (fun k hk => by unfold movedTo; rw [if_pos hk]), hbr⟩
theorem adW_eq (r : RS) (G : List Nat) : adW r G = fun i => 2 * ((blkAt r (G.getD i 0)).ad : Int) := rfl
theorem reach_any {al : Option Addr} {m c : Nat} {X : Nat → Int} (w : World) (h : Ar w p s) (hr : Rep s r) (hx : WS w al m c X) (hm : m ≤ 1000) :
    Calls Try.prog 27 #[.pointer (some ⟨p.a, 0, none⟩), .slice al m c] w fun e w' => ∃ al' c', e = .returned (.tuple #[.int .i64 (lenG r (reachG s r (listX X m)) : Nat), .slice al' (reachG s r (listX X m)).length c']) ∧
      WS w' al' (reachG s r (listX X m)).length c' (fun i => 2 * ((blkAt r ((reachG s r (listX X m)).getD i 0)).ad : Int)) ∧ (∀ ad, al' = some ad → w.heap.size ≤ ad.block) ∧ Below w.heap.size w w' := by
  have HX : Hid _ := hx
  have HG : Hid (GoodG r (reachG s r (listX X m))) := reach_good hr (listX X m)
  have HR : Hid _ := hr
  have HA : Hid (∀ wr, Below w.heap.size w wr → Ar wr p s) := fun wr k => h.frame (S := fun _ => False) (Only.of_below k) id id id id
  clear hr hx
  go_enter Try.func27, Try.ntmps27
  go_wp2_with (go_at_call 51; refine (follow_any _ h HR.out HX.out (by omega)).mono ?_; rintro e w1 ⟨bl, D, rfl, hM, hb⟩)
  obtain ⟨al', cb, rfl, hws, hal⟩ := mv_bl (HA.out _ hb) HR.out HG.out hM
  obtain ⟨c0, c1, c2, c3, c4⟩ := hM.1.cells
  go_quiet (fail)
  go_wp2
  go_ret2
  exact ⟨al', cb, rfl, hws.drewN _, fun ad had => by have := hal ad had; omega, below_drewN hb _⟩
end Go.Proofs.Ytjnlfnecmiklhaa
