/-
  All blocks as they will lie in the other half, in a row of their own. Condition: the arena and the plan of all that is in reach lie in memory.
-/
import Derived.Test.YtkgocnmeedkieaaC3Twin
namespace Go.Proofs.Ytkgocnmeedkieaa
open Go.ChangeShapes Go.WideShapes Go.ChangeAt Go.RowKit Go.Deep
set_option linter.unusedVariables false
set_option maxHeartbeats 1000000
variable {p : Pl} {s : St} {r : RS} {q : Nat} {bl : Value} {G : List Nat} {D : DataW Unit}

theorem Try.info70 : (Try.prog.info? 70).map (fun i => (i.zero, i.size, i.bytes)) = some (some (.agg #[.int .i64 0, .slice none 0 0]), 2, 32) := by kernel_rfl
theorem run_make_twins (n : Nat) (hn : n ≤ 1000000) (w : World) :
    (Instr.makeSlice 67 (.int .i64 (n : Int)) (.int .i64 (n : Int))).run Try.prog w = .ok (.slice (some ⟨w.heap.size, 0, none⟩) n n) (w.alloc (.cells (madeCells #[.int .i64 0, .slice none 0 0] (n * 2)) 70)) := by
  obtain ⟨i, hi, hz0, hz1, hz2⟩ := info_parts Try.info70
  have hr := run_make (P := Try.prog) w 67 70 i _ Try.underlying67 hi hz0 .i64 .i64 n n (by omega) (Int.le_refl _) (by rw [hz2]; omega) (by omega)
  simp only [Int.toNat_natCast, hz1] at hr
  exact hr
/-- A row of n twins, the first j as they are to be. -/
def TwRow (w : World) (g n j B : Nat) (T : Nat → Int) (F : Nat → List Int) : Prop := ∃ (f : Nat → Value) (gs : Nat → Nat), w.rowIs g 70 (n * 2) f ∧
  ∀ k, k < j → f (k * 2) = .int .i64 (T k) ∧ f (k * 2 + 1) = .slice (some ⟨gs k, 0, none⟩) (F k).length (F k).length ∧ B ≤ gs k ∧ gs k ≠ g ∧ Own w (gs k) (F k).length (fun i => (F k).getD i 0)
theorem twrow_start (w : World) (n B : Nat) (T : Nat → Int) (F : Nat → List Int) : TwRow (w.alloc (.cells (madeCells #[.int .i64 0, .slice none 0 0] (n * 2)) 70)) w.heap.size n 0 B T F := by
  refine ⟨fun c => (madeCells #[.int .i64 0, .slice none 0 0] (n * 2)).getD c undef, fun _ => 0, ⟨_, blk_alloc_new _ _, size_madeCells _ _, fun i hi => ?_⟩, fun k hk => absurd hk (Nat.not_lt_zero _)⟩
  have hs : i < (madeCells #[.int .i64 0, .slice none 0 0] (n * 2)).size := by rw [size_madeCells]; exact hi
  rw [Array.getElem?_eq_getElem hs]
  simp [Array.getD, hs]
theorem TwRow.frame {w w' : World} {g n j B : Nat} {T : Nat → Int} {F : Nat → List Int} {S : Nat → Prop} (h : TwRow w g n j B T F) (k : Only S w w') (h1 : ¬ S g) (h2 : ∀ c, B ≤ c → c < w.heap.size → ¬ S c) : TwRow w' g n j B T F := by
  obtain ⟨f, gs, hr, hk⟩ := h
  refine ⟨f, gs, k.row hr h1, fun i hi => ?_⟩
  obtain ⟨a1, a2, a3, a4, a5⟩ := hk i hi
  exact ⟨a1, a2, a3, a4, a5.frame k (h2 _ a3 a5.lt)⟩
theorem TwRow.below {w w' : World} {g n j B : Nat} {T : Nat → Int} {F : Nat → List Int} (h : TwRow w g n j B T F) (k : Below w.heap.size w w') : TwRow w' g n j B T F := h.frame (S := fun _ => False) (Only.of_below k) id (fun _ _ _ => id)
theorem TwRow.is {w : World} {g n j B : Nat} {T : Nat → Int} {F : Nat → List Int} (h : TwRow w g n j B T F) : ∃ f, w.rowIs g 70 (n * 2) f := by
  obtain ⟨f, gs, hr, _⟩ := h
  exact ⟨f, hr⟩
def updN (gs : Nat → Nat) (j gn k : Nat) : Nat := if k = j then gn else gs k
theorem updN_same (gs : Nat → Nat) (j gn : Nat) : updN gs j gn j = gn := if_pos rfl
theorem updN_ne (gs : Nat → Nat) {j gn k : Nat} (h : k ≠ j) : updN gs j gn k = gs k := if_neg h
theorem TwRow.step {w : World} {g n j B gn : Nat} {T : Nat → Int} {F : Nat → List Int} (h : TwRow w g n j B T F) (hj : j < n) (hB : B ≤ gn) (hne : gn ≠ g) (ho : Own w gn (F j).length (fun i => (F j).getD i 0)) :
    TwRow ((w.setCell ⟨g, j * 2, none⟩ (.int .i64 (T j))).setCell ⟨g, j * 2 + 1, none⟩ (.slice (some ⟨gn, 0, none⟩) (F j).length (F j).length)) g n (j + 1) B T F := by
  obtain ⟨f, gs, hr, hk⟩ := h
  have o : Only (fun k => k = g) w ((w.setCell ⟨g, j * 2, none⟩ (.int .i64 (T j))).setCell ⟨g, j * 2 + 1, none⟩ (.slice (some ⟨gn, 0, none⟩) (F j).length (F j).length)) :=
    ((Only.refl (fun k => k = g) w).setCell (a := ⟨g, j * 2, none⟩) (Or.inr rfl) _).setCell (a := ⟨g, j * 2 + 1, none⟩) (Or.inr rfl) _
  refine ⟨_, updN gs j gn, (hr.set (j * 2) (.int .i64 (T j))).set (j * 2 + 1) (.slice (some ⟨gn, 0, none⟩) (F j).length (F j).length), fun k hkj => ?_⟩
  by_cases e : k = j
  · subst e
    refine ⟨?_, ?_, ?_, ?_, ?_⟩
    · show (if k * 2 = k * 2 + 1 then _ else if k * 2 = k * 2 then _ else _) = _
      rw [if_neg (by omega), if_pos rfl]
    · show (if k * 2 + 1 = k * 2 + 1 then _ else _) = _
      rw [if_pos rfl, updN_same]
    · rw [updN_same]; exact hB
    · rw [updN_same]; exact hne
    · rw [updN_same]; exact ho.frame o hne
  · obtain ⟨a1, a2, a3, a4, a5⟩ := hk k (by omega)
    refine ⟨?_, ?_, ?_, ?_, ?_⟩
    · show (if k * 2 = j * 2 + 1 then _ else if k * 2 = j * 2 then _ else f (k * 2)) = _
      rw [if_neg (by omega), if_neg (by omega)]; exact a1
    · show (if k * 2 + 1 = j * 2 + 1 then _ else if k * 2 + 1 = j * 2 then _ else f (k * 2 + 1)) = _
      rw [if_neg (by omega), if_neg (by omega), updN_ne gs e]; exact a2
    · rw [updN_ne gs e]; exact a3
    · rw [updN_ne gs e]; exact a4
    · rw [updN_ne gs e]; exact a5.frame o a4
theorem TwRow.cells {w : World} {g n j B k : Nat} {T : Nat → Int} {F : Nat → List Int} (h : TwRow w g n j B T F) (hj : j ≤ n) (hk : k < j) : ∃ gk, w.cell? ⟨g, k * 2, none⟩ = some (.int .i64 (T k)) ∧ w.cell? ⟨g, k * 2 + 1, none⟩ = some (.slice (some ⟨gk, 0, none⟩) (F k).length (F k).length) ∧ B ≤ gk ∧ Own w gk (F k).length (fun i => (F k).getD i 0) := by
  obtain ⟨f, gs, hr, h2⟩ := h
  obtain ⟨a1, a2, a3, a4, a5⟩ := h2 k hk
  exact ⟨gs k, (hr.cell (by omega)).trans (congrArg some a1), (hr.cell (by omega)).trans (congrArg some a2), a3, a5⟩
def TwinsAs (w : World) (n : Nat) (T : Nat → Int) (F : Nat → List Int) (e : Ending) (w' : World) : Prop := ∃ g, e = .returned (.slice (some ⟨g, 0, none⟩) n n) ∧ w.heap.size ≤ g ∧ TwRow w' g n n w.heap.size T F ∧ Below w.heap.size w w'
def tagG (r : RS) (G : List Nat) (k : Nat) : Int := (blkAt r (G.getD k 0)).tag
def fldG (s : St) (r : RS) (G : List Nat) (k : Nat) : List Int := newF s r G (G.getD k 0)
theorem twins_any (w : World) (h : Ar w p s) (hr : Rep s r) (hM : Mv w p r q bl G D) (hG : GoodG r G) (hfl : ∀ i, i ∈ G → ∀ x, x ∈ wordsOf (blkAt r i) → ∀ j, leadI s r x = some j → j ∈ G) :
    Calls Try.prog 38 #[.pointer (some ⟨q + 1, 0, none⟩)] w fun e w' => TwinsAs w G.length (tagG r G) (fldG s r G) e w' := by
  have HAR : Hid (∀ wr, Below w.heap.size w wr → Ar wr p s) := fun wr k => h.frame (S := fun _ => False) (Only.of_below k) id id id id
  have HMV : Hid (∀ wr, Below w.heap.size w wr → Mv wr p r q bl G D) := fun wr k => hM.below k
  have hbd := (good_bound h hr hG).2.1
  have HR : Hid _ := hr
  have HGG : Hid (GoodG r G) := hG
  have HFL : Hid _ := hfl
  obtain ⟨al, cb, ebl, hws, hal⟩ := mv_bl h hr hG hM
  have HWS : Hid (∀ wr, Below w.heap.size w wr → WS wr al G.length cb (adW r G)) := fun wr k => hws.below k
  obtain ⟨c0, c1, c2, c3, c4⟩ := hM.1.cells
  rw [ebl] at c3
  have hmk := run_make_twins G.length (by omega)
  have HS : Hid (∀ o, (w.alloc o).cell? ⟨q + 1, 3, none⟩ = some (.slice al G.length cb)) := fun o => by
    have := (hM.below (below_alloc w o)).1.cells.2.2.2.1
    rw [ebl] at this; exact this
  have k3 := HS.out (.cells (madeCells #[.int .i64 0, .slice none 0 0] (G.length * 2)) 70)
  clear hr hM hG hfl hws hal
  go_enter Try.func38, Try.ntmps38
  go_wp2_with fail
  have hb2 : Below w.heap.size w (w.alloc (.cells (madeCells #[.int .i64 0, .slice none 0 0] (G.length * 2)) 70)) := (Below.refl _ _).alloc (Nat.le_refl _) _
  have ho2 := fun B => twrow_start w G.length B (tagG r G) (fldG s r G)
  obtain ⟨g, hg⟩ : ∃ g, g = w.heap.size := ⟨_, rfl⟩
  have HG : Hid (w.heap.size ≤ g) := by show _ ≤ _; omega
  have HG2 : Hid (g < (w.alloc (.cells (madeCells #[.int .i64 0, .slice none 0 0] (G.length * 2)) 70)).heap.size) := by show _ < _; rw [nblk_alloc]; omega
  rw [← hg] at ho2 ⊢
  clear hg k3
  generalize w.alloc (.cells (madeCells #[.int .i64 0, .slice none 0 0] (G.length * 2)) 70) = w2 at *
  go_loopw [17] (fun i wr => ∃ j : Nat, j ≤ G.length ∧ i = .int .i64 j ∧ TwRow wr g G.length j w.heap.size (tagG r G) (fldG s r G) ∧ Below w.heap.size w wr) (fun i _ => G.length - (intOf i).toNat)
  case atStart => exact ⟨0, Nat.zero_le _, rfl, ho2 _, hb2⟩
  case round =>
    clear ho2 hb2 HG2
    obtain ⟨j, hj, rfl, ho, hbr⟩ := hrel
    have h := HAR.out wr hbr
    have hM := HMV.out wr hbr
    by_cases hlt : j < G.length
    · obtain ⟨x, rfl, hxc⟩ := (HWS.out wr hbr).cell j hlt
      obtain ⟨i, hi⟩ : ∃ i, G[j]? = some i := ⟨_, List.getElem?_eq_getElem hlt⟩
      have hiG := List.mem_of_getElem? hi
      have hil : i < r.L.length := HGG.out.2 i hiG
      have hgi : G.getD j 0 = i := by rw [List.getD_eq_getElem?_getD, hi]; rfl
      obtain ⟨y, hy⟩ : ∃ y : Int, y = 2 * ((blkAt r i).ad : Int) := ⟨_, rfl⟩
      have hay : adW r G j = y := by unfold adW; rw [hgi, hy]
      rw [hay] at hxc
      have x1 : (0 : Int) ≤ (j : Int) := by omega
      have x2 : (j : Int) < (G.length : Int) := by omega
      have HY : Hid _ := hy
      have HT : Hid ((blkAt r i).tag = tagG r G j) := by show _ = _; unfold tagG; rw [hgi]
      have HF : Hid (newF s r G i = fldG s r G j) := by show _ = _; unfold fldG; rw [hgi]
      have HFI : Hid _ := HFL.out i hiG
      have HO := hidden ho
      have HBR := hidden hbr
      have hgl := (HO.out.is).choose_spec.lt
      clear hy hay hgi hi hiG ho hbr
      go_wp2_with (go_at_call 65; refine (twin_any y _ h HR.out hM HGG.out hil HY.out HFI.out).mono ?_; rw [HT.out, HF.out]; rintro e w3 ⟨gn, rfl, hgn, ho3, hb3⟩; have R3 := hidden (HO.out.below hb3); have B3 := hidden (HBR.out.trans (hb3.mono HBR.out.size)); have O3 := hidden ho3; have GN := hidden (Nat.le_trans HBR.out.size hgn); have NE := hidden (Nat.ne_of_gt (Nat.lt_of_lt_of_le hgl hgn)); obtain ⟨f3, hf3⟩ := R3.out.is; have k1 := hf3.cell (i := j * 2) (by omega); have k2 := hf3.cell (i := j * 2 + 1) (by omega); have k3 := hf3.frozen (j * 2); have k4 := hf3.frozen (j * 2 + 1); clear hf3 ho3 hb3 hgn)
      go_roundw
      case rel => exact ⟨j + 1, by omega, by go_num, R3.out.step hlt GN.out NE.out O3.out, below_set (below_set B3.out HG.out _ _) HG.out _ _⟩
      case measure => simp [intOf]; omega
    · have ej : j = G.length := by omega
      have HE : Hid _ := ej
      have hnl : ¬ ((j : Int) < (G.length : Int)) := by omega
      clear ej
      go_wp2
      go_ret
      exact ⟨g, rfl, HG.out, by rw [← HE.out]; rw [← HE.out] at ho; exact ho, hbr⟩
end Go.Proofs.Ytkgocnmeedkieaa
