/-
  What the plan's hasWords, fields and move tell, and how follow plans. Condition: the arena and the plan lie in memory.
  How follow plans a collection: all that is in reach, in its order. Condition: the arena lies in memory, in one state with a list of blocks.
-/
import Derived.Test.YtjnlfnecmiklhaaC3Take
import Derived.WalkMore
namespace Go.Proofs.Ytjnlfnecmiklhaa
open Go.ChangeShapes Go.WideShapes Go.ChangeAt Go.RowKit Go.Deep
set_option linter.unusedVariables false
set_option maxHeartbeats 1000000
variable {p : Pl} {s : St} {r : RS} {q : Nat} {bl : Value} {G : List Nat} {D : DataW Unit}

theorem below_is {w w1 : World} {k : Nat} (e : w1 = w.drewN k) : Below w.heap.size w w1 := by rw [e]; exact below_drewN (Below.refl _ _) k
theorem below_is2 {w w0 w1 : World} {B k : Nat} (h : Below B w w0) (e : w1 = w0.drewN k) : Below B w w1 := by rw [e]; exact below_drewN h k
theorem own_is {w w1 : World} {g n k : Nat} {X : Nat → Int} (h : Own w g n X) (e : w1 = w.drewN k) : Own w1 g n X := by rw [e]; exact h.drewN k
theorem below_set {w w0 : World} {B g : Nat} (h : Below B w w0) (hg : B ≤ g) (j : Nat) (v : Value) : Below B w (w0.setCell ⟨g, j, none⟩ v) := h.setCell (p := ⟨g, j, none⟩) hg v
theorem own_row_is {w : World} {g n : Nat} {f : Nat → Value} {t : TypeId} (h : w.rowIs g t n f) : ∃ cur, w.heap[g]? = some (.cells cur t (0, 0)) ∧ ∀ i, i < n → cur[i]? = some (f i) := by
  obtain ⟨cur, h1, _, h2⟩ := h
  exact ⟨cur, h1, h2⟩
theorem hasWords_any {i : Nat} (y : Int) (w : World) (h : Ar w p s) (hr : Rep s r) (hM : Mv w p r q bl G D) (hi : i < r.L.length) (hy : y = 2 * ((blkAt r i).ad : Int)) :
    Calls Try.prog 72 #[.pointer (some ⟨q + 1, 0, none⟩), .int .u64 y] w fun e w' => e = .returned (.bool ((blkAt r i).tag != 202)) ∧ ∃ k, w' = w.drewN k := by
  have hb := blkAt_some hi
  have hin := hr.inside hb
  have n2 := h.n2; have t2 := h.t2; have b1 := h.b1
  have HT : Hid (s.tag y = (blkAt r i).tag) := by show _ = _; rw [hy]; exact hr.tagOf hb (by omega)
  have y0 : 0 ≤ y := by omega
  have y1 : y ≤ 18446744073709551615 := by omega
  obtain ⟨c0, c1, c2, c3, c4⟩ := hM.1.cells
  generalize (blkAt r i).tag = t at *
  clear hy hb hin
  go_enter Try.func72, Try.ntmps72
  go_wp2_with (go_at_call 21; refine (tag_of y _ h y0 y1).mono ?_; rintro e w' ⟨rfl, k, rfl⟩; rw [HT.out])
  go_ret
  exact ⟨rfl, _, rfl⟩
theorem own_made (w : World) (n : Nat) : Own (w.alloc (.cells (madeCells #[.int .u64 0] n) 54)) w.heap.size n (fun _ => 0) := by
  obtain ⟨cur, h1, h2⟩ := own_row_is (World.rowIs_made w (.int .u64 0) n 54)
  exact ⟨cur, h1, h2⟩
/-- The fields that have been read so far. -/
def upTo (F : List Int) (j k : Nat) : Int := if k < j then F.getD k 0 else 0
theorem upTo_step {w : World} {g n j : Nat} {F : List Int} (h : Own w g n (upTo F j)) : Own (w.setCell ⟨g, j, none⟩ (.int .u64 (F.getD j 0))) g n (upTo F (j + 1)) := by
  refine (h.set j (F.getD j 0)).congr (fun k hk => ?_)
  unfold upTo
  by_cases e : k = j
  · subst e; rw [if_pos rfl, if_pos (by omega)]
  · rw [if_neg e]
    by_cases e2 : k < j
    · rw [if_pos e2, if_pos (by omega)]
    · rw [if_neg e2, if_neg (by omega)]
def FieldsAs (w : World) (F : List Int) (e : Ending) (w' : World) : Prop := ∃ g, e = .returned (.slice (some ⟨g, 0, none⟩) F.length F.length) ∧ w.heap.size ≤ g ∧ Own w' g F.length (fun j => F.getD j 0) ∧ Below w.heap.size w w'
theorem fields_any {i : Nat} (y : Int) (w : World) (h : Ar w p s) (hr : Rep s r) (hM : Mv w p r q bl G D) (hi : i < r.L.length) (hy : y = 2 * ((blkAt r i).ad : Int)) :
    Calls Try.prog 73 #[.pointer (some ⟨q + 1, 0, none⟩), .int .u64 y] w fun e w' => FieldsAs w (blkAt r i).F e w' := by
  have hb := blkAt_some hi
  have hin := hr.inside hb
  have n2 := h.n2; have t2 := h.t2; have b1 := h.b1
  have hlen := (hr.tag i _ hb).2.2
  have HS : Hid (s.size y = (blkAt r i).F.length) := by show _ = _; rw [hy]; exact Rep.sizeOf h hr hb
  have HF : Hid (∀ j, j < (blkAt r i).F.length → s.get y j = (blkAt r i).F.getD j 0) := by intro j hj; rw [hy]; exact (hr.fieldOf hb (by omega) hj).1
  have HFI : Hid s.Fits := hr.fits
  have HAR : Hid (∀ wr, Below w.heap.size w wr → Ar wr p s) := fun wr k => h.frame (S := fun _ => False) (Only.of_below k) id id id id
  have HMV : Hid (∀ wr, Below w.heap.size w wr → Mv wr p r q bl G D) := fun wr k => hM.below k
  have y0 : 0 ≤ y := by omega
  have y1 : y ≤ 18446744073709551615 := by omega
  obtain ⟨c0, c1, c2, c3, c4⟩ := hM.1.cells
  generalize (blkAt r i).F = F at *
  clear hy hb hin
  obtain ⟨n, hn⟩ : ∃ n, n = F.length := ⟨_, rfl⟩
  rw [← hn] at hlen HS HF
  have HN : Hid _ := hn
  clear hn
  have hmk : ∀ w : World, (Instr.makeSlice 28 (.int .i64 (n : Int)) (.int .i64 (n : Int))).run Try.prog w = .ok (.slice (some ⟨w.heap.size, 0, none⟩) n n) (w.alloc (.cells (madeCells #[.int .u64 0] n) 54)) :=
    run_make_row' (P := Try.prog) 28 54 (.int .u64 0) 8 Try.underlying28 Try.info54 rfl .i64 .i64 n (by omega) (by omega)
  go_enter Try.func73, Try.ntmps73
  go_wp2_with (go_at_call 22; refine (size_of y _ h y0 y1).mono ?_; rintro e w1 ⟨rfl, k, hw1⟩; rw [HS.out]; have hb1 := hidden (below_is hw1); clear hw1)
  have hb2 := hb1.out.alloc hb1.out.size (.cells (madeCells #[.int .u64 0] n) 54)
  have ho2 := own_made w1 n
  have HG := hidden hb1.out.size
  clear hb1
  generalize w1.alloc (.cells (madeCells #[.int .u64 0] n) 54) = w2 at *
  generalize w1.heap.size = g at *
  go_loopw [16] (fun i wr => ∃ j : Nat, j ≤ n ∧ i = .int .i64 j ∧ Own wr g n (upTo F j) ∧ Below w.heap.size w wr) (fun i _ => n - (intOf i).toNat)
  case atStart => exact ⟨0, Nat.zero_le _, rfl, ho2.congr (fun k _ => rfl), hb2⟩
  case round =>
    clear ho2 hb2 c0 c1 c2 c3 c4
    obtain ⟨j, hj, rfl, ho, hbr⟩ := hrel
    have h := HAR.out wr hbr
    have hM := HMV.out wr hbr
    obtain ⟨c0, c1, c2, c3, c4⟩ := hM.1.cells
    by_cases hlt : j < n
    · have x1 : (0 : Int) ≤ (j : Int) := by omega
      have x2 : (j : Int) < (n : Int) := by omega
      have HV : Hid (s.get y j = F.getD j 0) := HF.out j hlt
      have HO := hidden ho
      have HBR := hidden hbr
      clear ho hbr
      go_wp2_with (go_at_call 23; refine (get_any y j _ h HFI.out y0 y1).mono ?_; rintro e w3 ⟨rfl, k3, hw3⟩; rw [HV.out]; have ho3 := hidden (own_is HO.out hw3); have hb3 := hidden (below_is2 HBR.out hw3); clear hw3; have k1 := ho3.out.cell hlt; have k2 := ho3.out.frozen j)
      go_roundw
      case rel => exact ⟨j + 1, by omega, by go_num, upTo_step ho3.out, below_set hb3.out HG.out _ _⟩
      case measure => simp [intOf]; omega
    · have ej : j = n := by omega
      subst ej
      have hnl : ¬ ((j : Int) < (j : Int)) := by omega
      go_wp2
      go_ret
      exact ⟨g, by rw [← HN.out]; rfl, HG.out, by rw [← HN.out]; exact ho.congr (fun k hk => by unfold upTo; rw [if_pos hk]), hbr⟩
end Go.Proofs.Ytjnlfnecmiklhaa

namespace Go.Proofs.Ytjnlfnecmiklhaa
open Go.ChangeShapes Go.WideShapes Go.ChangeAt Go.RowKit Go.Deep
set_option linter.unusedVariables false
set_option maxHeartbeats 1000000
variable {p : Pl} {s : St} {r : RS} {q : Nat} {bl : Value} {G : List Nat} {D : DataW Unit}

theorem listX_getD (F : List Int) : listX (fun j => F.getD j 0) F.length = F := by
  unfold listX
  refine List.ext_getElem? (fun i => ?_)
  rw [List.getElem?_map]
  by_cases h : i < F.length
  · rw [List.getElem?_range h, List.getElem?_eq_getElem h]
    simp [List.getD_eq_getElem?_getD, h]
  · rw [List.getElem?_eq_none (l := F) (by omega), List.getElem?_eq_none (l := List.range F.length) (by simp; omega)]
    rfl
theorem Rep.fieldLo {w : World} (ha : Ar w p s) (h : Rep s r) {i : Nat} {b : Blk} (hb : r.L[i]? = some b) (j : Nat) : 0 ≤ b.F.getD j 0 ∧ b.F.getD j 0 ≤ 18446744073709551615 := by
  rw [List.getD_eq_getElem?_getD]
  by_cases hj : j < b.F.length
  · have e := h.fld i b hb j _ (List.getElem?_eq_getElem hj)
    rw [List.getElem?_eq_getElem hj]
    have h1 := ha.lo (b.ad + j)
    have h2 := ha.hi (b.ad + j)
    rw [e] at h1 h2
    exact ⟨h1, h2⟩
  · rw [List.getElem?_eq_none (by omega)]
    exact ⟨Int.le_refl _, by decide⟩
theorem tk_below {w w' : World} (hM : Mv w p r q bl G D) (k : Only (Tk q bl) w w') : Below q w w' := by
  refine k.below (Nat.le_of_lt (Nat.lt_of_lt_of_le (Nat.lt_succ_self q) (Nat.le_of_lt (lt_of_some hM.1.hm)))) (fun k hk ht => ?_)
  rcases ht with e | e | e
  · omega
  · omega
  · have := (owns_lt hM.1.row e).2; omega
theorem cell_is {w w1 : World} {a : Addr} {v : Value} {k : Nat} (h : w.cell? a = some v) (e : w1 = w.drewN k) : w1.cell? a = some v := by rw [e]; exact h
theorem off_row {w : World} {g m : Nat} (hM : Mv w p r q bl G D) (hg : w.heap.size ≤ g) : ∀ ad, some (Addr.mk g 0 none) = some ad → 0 < m → ¬ Tk q bl ad.block := by
  intro ad had _ ht
  cases had
  have h1 := lt_of_some hM.1.hm
  rcases ht with e | e | e
  · simp at e; omega
  · simp at e; omega
  · have := (owns_lt hM.1.row e).1; simp at this; omega
def FollowAs (w : World) (p : Pl) (r : RS) (G : List Nat) (e : Ending) (w' : World) : Prop := ∃ bl D, e = .returned (.pointer (some ⟨w.heap.size + 1, 0, none⟩)) ∧ Mv w' p r w.heap.size bl G D ∧ Below w.heap.size w w'
theorem mv_new {w : World} (h : Ar w p s) (r : RS) : Mv ((w.alloc (.map #[] 0)).alloc (.cells #[.pointer (some ⟨p.a, 0, none⟩), .int .i64 (otherB r : Nat), .int .i64 0, .slice none 0 0, .map (some w.heap.size)] 99)) p r w.heap.size (.slice none 0 0) [] (.map []) := by
  refine ⟨⟨?_, ⟨rfl, .inl ⟨rfl, rfl⟩⟩, ?_, lt_of_some h.ha, lt_of_some h.hh, h.hc.lt, h.hb.lt⟩, plan_nil r⟩
  · have := blk_alloc_new (w.alloc (.map #[] 0)) (.cells #[.pointer (some ⟨p.a, 0, none⟩), .int .i64 (otherB r : Nat), .int .i64 0, .slice none 0 0, .map (some w.heap.size)] 99)
    rw [nblk_alloc] at this
    exact this
  · exact (World.ownsMap_made w Try.prog 54 _).alloc _
theorem otherB_is {s : St} {r : RS} (hr : Rep s r) : (s.n : Int) - s.base = (otherB r : Nat) := by
  have hn := hr.n; have hwh := hr.wh; have hb := hr.base
  unfold otherB
  rcases Nat.le_one_iff_eq_zero_or_eq_one.1 hwh with e | e <;> rw [e] at hb ⊢ <;> omega
theorem mv_bl {w : World} (h : Ar w p s) (hr : Rep s r) (hG : GoodG r G) (hM : Mv w p r q bl G D) : ∃ al cb, bl = .slice al G.length cb ∧ WS w al G.length cb (adW r G) ∧ (∀ ad, al = some ad → q + 2 ≤ ad.block) := by
  refine hM.1.ws (fun i hi => by unfold adW; omega) (fun i hi => ?_)
  have n2 := h.n2; have t2 := h.t2; have b1 := h.b1
  have hg : G.getD i 0 ∈ G := by rw [List.getD_eq_getElem?_getD, List.getElem?_eq_getElem hi]; exact List.getElem_mem hi
  have hin := hr.inside (blkAt_some (hG.2 _ hg))
  unfold adW
  omega
theorem scan_text {s : St} {r : RS} {xs : List Int} {k i : Nat} (hk : (scans s r xs k)[k]? = some i) (ht : (blkAt r i).tag = 202) : scans s r xs (k + 1) = scans s r xs k := by
  rw [scans_succ]; unfold scan1; rw [hk]
  show visits s r _ (wordsOf (blkAt r i)) = _
  unfold wordsOf; rw [if_pos ht]; rfl
theorem scan_words {s : St} {r : RS} {xs : List Int} {k i : Nat} (hk : (scans s r xs k)[k]? = some i) (ht : ¬ (blkAt r i).tag = 202) : scans s r xs (k + 1) = visits s r (scans s r xs k) (blkAt r i).F := by
  rw [scans_succ]; unfold scan1; rw [hk]
  show visits s r _ (wordsOf (blkAt r i)) = _
  unfold wordsOf; rw [if_neg ht]
set_option maxRecDepth 100000 in
theorem follow_any {al : Option Addr} {m c : Nat} {X : Nat → Int} (w : World) (h : Ar w p s) (hr : Rep s r) (hx : WS w al m c X) (hm : m ≤ 100000) :
    Calls Try.prog 51 #[.pointer (some ⟨p.a, 0, none⟩), .slice al m c] w fun e w' => FollowAs w p r (reachG s r (listX X m)) e w' := by
  have HAR : Hid (∀ wr, Below w.heap.size w wr → Ar wr p s) := fun wr k => h.frame (S := fun _ => False) (Only.of_below k) id id id id
  have HWS : Hid (∀ wr, Below w.heap.size w wr → WS wr al m c X) := fun wr k => hx.below k
  have HR : Hid _ := hr
  have n2 := h.n2; have t2 := h.t2; have b1 := h.b1
  have HOB : Hid _ := otherB_is hr
  have hmm := @run_makeMap Try.prog
  have HNEW : Hid (Mv ((w.alloc (.map #[] 0)).alloc (.cells #[.pointer (some ⟨p.a, 0, none⟩), .int .i64 ((s.n : Int) - s.base), .int .i64 0, .slice none 0 0, .map (some w.heap.size)] 99)) p r w.heap.size (.slice none 0 0) [] (.map [])) := by
    show Mv _ _ _ _ _ _ _
    rw [HOB.out]; exact mv_new h r
  have HB2 : Hid (∀ o, Below w.heap.size w ((w.alloc (.map #[] 0)).alloc o)) := fun o => ((Below.refl w.heap.size w).alloc (Nat.le_refl _) _).alloc (by rw [nblk_alloc]; omega) o
  have HOFF : Hid (∀ ad, al = some ad → 0 < m → ¬ Tk w.heap.size (.slice none 0 0) ad.block) := fun ad had hm0 ht => by
    obtain ⟨ad', e, hc⟩ := hx.cell 0 hm0
    rw [had] at e; cases e
    have := cell_lt hc
    rw [add_block] at this
    rcases ht with e | e | e
    · omega
    · omega
    · cases e
  clear hr hx
  go_enter Try.func51, Try.ntmps51
  go_wp2_with fail
  go_step3
  go_wp2_with (first | (go_at_call 69; refine (half_any _ h).mono ?_; rintro e w1 ⟨rfl, hw1⟩; rw [hw1]; clear hw1 w1) | (go_at_call 70; refine (base_any _ h).mono ?_; rintro e w1 ⟨rfl, hw1⟩; rw [hw1]; clear hw1 w1) | (go_at_call 71; refine (takeAll_any _ (HAR.out _ (HB2.out _)) HR.out (HWS.out _ (HB2.out _)) hm HNEW.out (goodG_nil r) HOFF.out).mono ?_; rintro e w2 ⟨rfl, bl, D, hM, ho, hnear⟩; have hb2 := hidden ((HB2.out _).trans (tk_below HNEW.out ho)); clear ho hnear))
  go_step3
  go_wp2_with fail
  have HM2 : Hid _ := hM
  clear hM h HNEW HB2 HOFF
  go_loopw [6] (fun i wr => ∃ (k : Nat) (bl : Value) (D : DataW Unit), i = .int .i64 k ∧ k ≤ (scans s r (listX X m) k).length ∧ Mv wr p r w.heap.size bl (scans s r (listX X m) k) D ∧ Below w.heap.size w wr) (fun i _ => r.L.length - (intOf i).toNat)
  case atStart => exact ⟨0, bl, D, rfl, Nat.zero_le _, HM2.out, hb2.out⟩
  case round =>
    clear HM2 hb2 bl D
    obtain ⟨k, bl, D, rfl, hk, hM, hb⟩ := hrel
    have h := HAR.out wr hb
    have hG := scans_good HR.out (listX X m) k
    obtain ⟨g1, g2⟩ := goodG_len hG
    have hbd := (good_bound h HR.out hG).2.1
    obtain ⟨al', cb, rfl, hws, hal⟩ := mv_bl h HR.out hG hM
    obtain ⟨c0, c1, c2, c3, c4⟩ := hM.1.cells
    have HEND : Hid ((scans s r (listX X m) k).length ≤ k → reachG s r (listX X m) = scans s r (listX X m) k) := reach_end HR.out (listX X m) k
    have HST : Hid (∀ i, (scans s r (listX X m) k)[k]? = some i → (blkAt r i).tag = 202 → scans s r (listX X m) (k + 1) = scans s r (listX X m) k) := fun i hi ht => scan_text hi ht
    have HSW : Hid (∀ i, (scans s r (listX X m) k)[k]? = some i → ¬ (blkAt r i).tag = 202 → scans s r (listX X m) (k + 1) = visits s r (scans s r (listX X m) k) (blkAt r i).F) := fun i hi ht => scan_words hi ht
    generalize scans s r (listX X m) k = Gk at *
    clear g1
    by_cases hlt : k < Gk.length
    · obtain ⟨i, hi⟩ : ∃ i, Gk[k]? = some i := ⟨_, List.getElem?_eq_getElem hlt⟩
      have hil : i < r.L.length := hG.2 i (List.mem_of_getElem? hi)
      have hgi : Gk.getD k 0 = i := by rw [List.getD_eq_getElem?_getD, hi]; rfl
      obtain ⟨x, rfl, hxc⟩ := hws.cell k hlt
      obtain ⟨y, hy⟩ : ∃ y : Int, y = 2 * ((blkAt r i).ad : Int) := ⟨_, rfl⟩
      have hay : adW r Gk k = y := by unfold adW; rw [hgi, hy]
      rw [hay] at hxc
      have hne : ((k : Int) == (Gk.length : Int)) = false := beq_eq_false_iff_ne.2 (by omega)
      have x1 : (0 : Int) ≤ (k : Int) := by omega
      have x2 : (k : Int) < (Gk.length : Int) := by omega
      have HY : Hid _ := hy
      have HG : Hid _ := hG
      have HI : Hid _ := hi
      have HBR : Hid _ := hb
      have HXB : Hid (x.block < wr.heap.size) := by have := cell_lt hxc; rw [add_block] at this; exact this
      clear hy hay hgi hi hb hG hws hal HEND
      by_cases ht : (blkAt r i).tag = 202
      · have HT : Hid (((blkAt r i).tag != 202) = false) := by show _ = _; rw [ht]; rfl
        have HV : Hid (scans s r (listX X m) (k + 1) = Gk) := HST.out i HI.out ht
        clear ht HST HSW
        go_wp2_with (go_at_call 72; refine (hasWords_any y _ h HR.out hM hil HY.out).mono ?_; rintro e w1 ⟨rfl, k1, hw1⟩; rw [HT.out]; have M1 := hidden (mv_drew hM hw1); have B1 := hidden (below_is2 HBR.out hw1); clear hw1)
        go_roundw
        case rel => exact ⟨k + 1, _, D, by go_num, by rw [HV.out]; omega, by rw [HV.out]; exact M1.out, B1.out⟩
        case measure => simp [intOf]; omega
      · have HT : Hid (((blkAt r i).tag != 202) = true) := by show _ = _; rw [bne_iff_ne]; exact ht
        have HV : Hid (scans s r (listX X m) (k + 1) = visits s r Gk (listX (fun j => (blkAt r i).F.getD j 0) (blkAt r i).F.length)) := by show _ = _; rw [listX_getD]; exact HSW.out i HI.out ht
        have HVL : Hid (k + 1 ≤ (scans s r (listX X m) (k + 1)).length) := by
          show _ ≤ _
          rw [HV.out]
          obtain ⟨T, hT⟩ := visits_ext (s := s) (r := r) (listX (fun j => (blkAt r i).F.getD j 0) (blkAt r i).F.length) Gk
          rw [hT, List.length_append]; omega
        have HLO : Hid (∀ j, j < (blkAt r i).F.length → 0 ≤ (blkAt r i).F.getD j 0) := fun j _ => (Rep.fieldLo h HR.out (blkAt_some hil) j).1
        have HHI : Hid (∀ j, j < (blkAt r i).F.length → (blkAt r i).F.getD j 0 ≤ 18446744073709551615) := fun j _ => (Rep.fieldLo h HR.out (blkAt_some hil) j).2
        have HFL : Hid ((blkAt r i).F.length ≤ 100000) := by have := (HR.out.tag i _ (blkAt_some hil)).2.2; show _ ≤ _; omega
        clear ht HST HSW
        go_wp2_with (first
          | (go_at_call 72; refine (hasWords_any y _ h HR.out hM hil HY.out).mono ?_; rintro e w1 ⟨rfl, k1, hw1⟩; rw [HT.out]; have M1 := mv_drew hM hw1; have B1 := hidden (below_is2 HBR.out hw1); have hxc1 := cell_is hxc hw1; clear hw1; obtain ⟨d0, d1, d2, d3, d4⟩ := M1.1.cells)
          | (go_at_call 73; refine (fields_any y _ (HAR.out _ B1.out) HR.out M1 hil HY.out).mono ?_; rintro e w3 ⟨g, rfl, hg, ho3, hb3⟩; have M3 := hidden (M1.below hb3); have B3 := hidden (B1.out.trans (hb3.mono B1.out.size)); have OFF := hidden (off_row (m := (blkAt r i).F.length) M1 hg); have W3 := hidden (ws_own (c := (blkAt r i).F.length) ho3 HLO.out HHI.out); clear ho3 hb3 hg)
          | (go_at_call 71; refine (takeAll_any _ (HAR.out _ B3.out) HR.out W3.out HFL.out M3.out HG.out OFF.out).mono ?_; rintro e w4 ⟨rfl, bl4, D4, hM4, ho4, hnear4⟩; have B4 := hidden (B3.out.trans (tk_below M3.out ho4)); have M4 := hidden hM4; clear hM4 ho4 hnear4))
        go_roundw
        case rel => exact ⟨k + 1, bl4, D4, by go_num, HVL.out, by rw [HV.out]; exact M4.out, B4.out⟩
        case measure => simp [intOf]; omega
    · have hle : Gk.length ≤ k := by omega
      have heq : ((k : Int) == (Gk.length : Int)) = true := by rw [beq_iff_eq]; omega
      have HE : Hid _ := HEND.out hle
      clear hle hlt
      go_wp2
      first | rw [Exit.noGoto_ret] | skip
      go_ret
      exact ⟨_, D, rfl, by rw [HE.out]; exact hM, hb⟩
end Go.Proofs.Ytjnlfnecmiklhaa
