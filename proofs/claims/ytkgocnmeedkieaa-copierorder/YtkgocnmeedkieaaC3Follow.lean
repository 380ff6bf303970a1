/-
  What the plan's hasWords, fields and move tell, and how follow plans. Condition: the arena and the plan lie in memory.
-/
import Derived.Test.YtkgocnmeedkieaaC3Take
namespace Go.Proofs.Ytkgocnmeedkieaa
open Go.ChangeShapes Go.WideShapes Go.ChangeAt Go.RowKit Go.Deep
set_option linter.unusedVariables false
set_option maxHeartbeats 1000000
variable {p : Pl} {s : St} {r : RS} {q : Nat} {bl : Value} {G : List Nat} {D : DataW Unit}

theorem below_is {w w1 : World} {k : Nat} (e : w1 = w.drewN k) : Below w.heap.size w w1 := by rw [e]; exact below_drewN (Below.refl _ _) k
theorem below_is2 {w w0 w1 : World} {B k : Nat} (h : Below B w w0) (e : w1 = w0.drewN k) : Below B w w1 := by rw [e]; exact below_drewN h k
theorem own_is {w w1 : World} {g n k : Nat} {X : Nat → Int} (h : Own w g n X) (e : w1 = w.drewN k) : Own w1 g n X := by rw [e]; exact h.drewN k
theorem below_set {w w0 : World} {B g : Nat} (h : Below B w w0) (hg : B ≤ g) (j : Nat) (v : Value) : Below B w (w0.setCell ⟨g, j, none⟩ v) := h.setCell (p := ⟨g, j, none⟩) hg v
theorem own_row_is {w : World} {g n : Nat} {f : Nat → Value} {t : TypeId} (h : w.rowIs g t n f) : ∃ cur, w.heap[g]? = some (.cells cur t (0, 0)) ∧ ∀ i, i < n → cur[i]? = some (f i) := by
  obtain ⟨cur, h1, _, h2⟩ := h
  exact ⟨cur, h1, h2⟩
theorem hasWords_any {i : Nat} (y : Int) (w : World) (h : Ar w p s) (hr : Rep s r) (hM : Mv w p r q bl G D) (hi : i < r.L.length) (hy : y = 2 * ((blkAt r i).ad : Int)) :
    Calls Try.prog 62 #[.pointer (some ⟨q + 1, 0, none⟩), .int .u64 y] w fun e w' => e = .returned (.bool ((blkAt r i).tag != 202)) ∧ ∃ k, w' = w.drewN k := by
  have hb := blkAt_some hi
  have hin := hr.inside hb
  have n2 := h.n2; have t2 := h.t2; have b1 := h.b1
  have HT : Hid (s.tag y = (blkAt r i).tag) := by show _ = _; rw [hy]; exact hr.tagOf hb (by omega)
  have y0 : 0 ≤ y := by omega
  have y1 : y ≤ 18446744073709551615 := by omega
  obtain ⟨c0, c1, c2, c3, c4⟩ := hM.1.cells
  generalize (blkAt r i).tag = t at *
  clear hy hb hin
  go_enter Try.func62, Try.ntmps62
  go_wp2_with (go_at_call 27; refine (tag_of y _ h y0 y1).mono ?_; rintro e w' ⟨rfl, k, rfl⟩; rw [HT.out])
  go_ret
  exact ⟨rfl, _, rfl⟩
theorem own_made (w : World) (n : Nat) : Own (w.alloc (.cells (madeCells #[.int .u64 0] n) 49)) w.heap.size n (fun _ => 0) := by
  obtain ⟨cur, h1, h2⟩ := own_row_is (World.rowIs_made w (.int .u64 0) n 49)
  exact ⟨cur, h1, h2⟩
/-- The fields that have been read so far. -/
def upTo (F : List Int) (j k : Nat) : Int := if k < j then F.getD k 0 else 0
theorem upTo_step {w : World} {g n j : Nat} {F : List Int} (h : Own w g n (upTo F j)) : Own (w.setCell ⟨g, j, none⟩ (.int .u64 (F.getD j 0))) g n (upTo F (j + 1)) := by
  refine (h.set j (F.getD j 0)).congr (fun k hk => ?_)
  unfold upTo
  by_cases e : k = j
  · subst e; rw [if_pos rfl, if_pos (by omega)]
  · rw [if_neg e]
    by_cases e2 : k < j
    · rw [if_pos e2, if_pos (by omega)]
    · rw [if_neg e2, if_neg (by omega)]
def FieldsAs (w : World) (F : List Int) (e : Ending) (w' : World) : Prop := ∃ g, e = .returned (.slice (some ⟨g, 0, none⟩) F.length F.length) ∧ w.heap.size ≤ g ∧ Own w' g F.length (fun j => F.getD j 0) ∧ Below w.heap.size w w'
theorem fields_any {i : Nat} (y : Int) (w : World) (h : Ar w p s) (hr : Rep s r) (hM : Mv w p r q bl G D) (hi : i < r.L.length) (hy : y = 2 * ((blkAt r i).ad : Int)) :
    Calls Try.prog 63 #[.pointer (some ⟨q + 1, 0, none⟩), .int .u64 y] w fun e w' => FieldsAs w (blkAt r i).F e w' := by
  have hb := blkAt_some hi
  have hin := hr.inside hb
  have n2 := h.n2; have t2 := h.t2; have b1 := h.b1
  have hlen := (hr.tag i _ hb).2.2
  have HS : Hid (s.size y = (blkAt r i).F.length) := by show _ = _; rw [hy]; exact Rep.sizeOf h hr hb
  have HF : Hid (∀ j, j < (blkAt r i).F.length → s.get y j = (blkAt r i).F.getD j 0) := by intro j hj; rw [hy]; exact (hr.fieldOf hb (by omega) hj).1
  have HFI : Hid s.Fits := hr.fits
  have HAR : Hid (∀ wr, Below w.heap.size w wr → Ar wr p s) := fun wr k => h.frame (S := fun _ => False) (Only.of_below k) id id id id
  have HMV : Hid (∀ wr, Below w.heap.size w wr → Mv wr p r q bl G D) := fun wr k => hM.below k
  have y0 : 0 ≤ y := by omega
  have y1 : y ≤ 18446744073709551615 := by omega
  obtain ⟨c0, c1, c2, c3, c4⟩ := hM.1.cells
  generalize (blkAt r i).F = F at *
  clear hy hb hin
  obtain ⟨n, hn⟩ : ∃ n, n = F.length := ⟨_, rfl⟩
  rw [← hn] at hlen HS HF
  have HN : Hid _ := hn
  clear hn
  have hmk : ∀ w : World, (Instr.makeSlice 23 (.int .i64 (n : Int)) (.int .i64 (n : Int))).run Try.prog w = .ok (.slice (some ⟨w.heap.size, 0, none⟩) n n) (w.alloc (.cells (madeCells #[.int .u64 0] n) 49)) :=
    run_make_row' (P := Try.prog) 23 49 (.int .u64 0) 8 Try.underlying23 Try.info49 rfl .i64 .i64 n (by omega) (by omega)
  go_enter Try.func63, Try.ntmps63
  go_wp2_with (go_at_call 25; refine (size_of y _ h y0 y1).mono ?_; rintro e w1 ⟨rfl, k, hw1⟩; rw [HS.out]; have hb1 := hidden (below_is hw1); clear hw1)
  have hb2 := hb1.out.alloc hb1.out.size (.cells (madeCells #[.int .u64 0] n) 49)
  have ho2 := own_made w1 n
  have HG := hidden hb1.out.size
  clear hb1
  generalize w1.alloc (.cells (madeCells #[.int .u64 0] n) 49) = w2 at *
  generalize w1.heap.size = g at *
  go_loopw [16] (fun i wr => ∃ j : Nat, j ≤ n ∧ i = .int .i64 j ∧ Own wr g n (upTo F j) ∧ Below w.heap.size w wr) (fun i _ => n - (intOf i).toNat)
  case atStart => exact ⟨0, Nat.zero_le _, rfl, ho2.congr (fun k _ => rfl), hb2⟩
  case round =>
    clear ho2 hb2 c0 c1 c2 c3 c4
    obtain ⟨j, hj, rfl, ho, hbr⟩ := hrel
    have h := HAR.out wr hbr
    have hM := HMV.out wr hbr
    obtain ⟨c0, c1, c2, c3, c4⟩ := hM.1.cells
    by_cases hlt : j < n
    · have x1 : (0 : Int) ≤ (j : Int) := by omega
      have x2 : (j : Int) < (n : Int) := by omega
      have HV : Hid (s.get y j = F.getD j 0) := HF.out j hlt
      have HO := hidden ho
      have HBR := hidden hbr
      clear ho hbr
      go_wp2_with (go_at_call 28; refine (get_any y j _ h HFI.out y0 y1).mono ?_; rintro e w3 ⟨rfl, k3, hw3⟩; rw [HV.out]; have ho3 := hidden (own_is HO.out hw3); have hb3 := hidden (below_is2 HBR.out hw3); clear hw3; have k1 := ho3.out.cell hlt; have k2 := ho3.out.frozen j)
      go_roundw
      case rel => exact ⟨j + 1, by omega, by go_num, upTo_step ho3.out, below_set hb3.out HG.out _ _⟩
      case measure => simp [intOf]; omega
    · have ej : j = n := by omega
      subst ej
      have hnl : ¬ ((j : Int) < (j : Int)) := by omega
      go_wp2
      go_ret
      exact ⟨g, by rw [← HN.out]; rfl, HG.out, by rw [← HN.out]; exact ho.congr (fun k hk => by unfold upTo; rw [if_pos hk]), hbr⟩
end Go.Proofs.Ytkgocnmeedkieaa
