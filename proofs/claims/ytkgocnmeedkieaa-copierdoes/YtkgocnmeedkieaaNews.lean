/-
  What New makes: nil, where the document says so; else an arena that lies in memory, all its cells 0, no block in it; nothing that was there is written. Condition: the argument fits its kind.
-/
import Derived.Test.YtkgocnmeedkieaaSets
import Derived.Deep.RegionWith
import Derived.BigRegion
namespace Go.Proofs.Ytkgocnmeedkieaa
open Go.ChangeShapes Go.WideShapes Go.ChangeAt Go.RowKit Go.Deep
set_option linter.unusedVariables false
set_option maxHeartbeats 400000

theorem Try.info49 : (Try.prog.info? 49).map (fun i => (i.zero, i.size, i.bytes)) = some (some (.int .u64 0), 1, 8) := by kernel_rfl
theorem Try.info4 : (Try.prog.info? 4).map (fun i => (i.zero, i.size, i.bytes)) = some (some (.bool false), 1, 1) := by kernel_rfl

/-- A new arena's state. -/
def St.new (n : Nat) : St := ⟨n, 0, 0, fun _ => 0, fun _ => false⟩

/-- New halves: their own block b, right behind that of their cells. -/
def Halves (w w' : World) (n b : Nat) : Prop := w.heap.size + 1 = b ∧ w'.heap.size = b + 1 ∧
  w'.heap[b]? = some (.cells #[.slice (some ⟨w.heap.size, 0, none⟩) (2 * n) (2 * n), .int .i64 n, .int .i64 0, .int .i64 0] 94 (0, 0)) ∧
  w'.rowIs w.heap.size 49 (2 * n) (fun _ => .int .u64 0)
theorem newHalves_any (n : Nat) (hn : n ≤ 32768) (w : World) :
    Calls Try.prog 52 #[.int .i64 n] w fun e w' => e = .returned (.pointer (some ⟨w.heap.size + 1, 0, none⟩)) ∧ Halves w w' n (w.heap.size + 1) ∧ Below w.heap.size w w' := by
  have hmk : ∀ w : World, (Instr.makeSlice 23 (.int .i64 (2 * (n : Int))) (.int .i64 (2 * (n : Int)))).run Try.prog w = .ok (.slice (some ⟨w.heap.size, 0, none⟩) (2 * n) (2 * n)) (w.alloc (.cells (madeCells #[.int .u64 0] (2 * n)) 49)) := by
    rw [show (2 * (n : Int)) = ((2 * n : Nat) : Int) from by omega]
    exact run_make_row' (P := Try.prog) 23 49 (.int .u64 0) 8 Try.underlying23 Try.info49 rfl .i64 .i64 (2 * n) (by omega) (by omega)
  go_enter Try.func52, Try.ntmps52
  go_wp2
  go_ret
  refine ⟨rfl, ⟨rfl, by rw [nblk_alloc, nblk_alloc], ?_, ?_⟩, ((Below.refl _ _).alloc (Nat.le_refl _) _).alloc (by simp) _⟩
  · have := blk_alloc_new (w.alloc (.cells (madeCells #[.int .u64 0] (2 * n)) 49)) (.cells #[.slice (some ⟨w.heap.size, 0, none⟩) (2 * n) (2 * n), .int .i64 n, .int .i64 0, .int .i64 0] 94)
    rw [nblk_alloc] at this
    exact this
  · exact (World.rowIs_made w (.int .u64 0) (2 * n) 49).alloc _
theorem ar_new {w : World} {p : Pl} {n : Nat} (h1 : 2 ≤ n) (h2 : n ≤ 32768)
    (ha : w.heap[p.a]? = some (.cells #[.pointer (some ⟨p.h, 0, none⟩), .slice (some ⟨p.b, 0, none⟩) n n] 92 (0, 0)))
    (hh : w.heap[p.h]? = some (.cells #[.slice (some ⟨p.c, 0, none⟩) (2 * n) (2 * n), .int .i64 n, .int .i64 0, .int .i64 0] 94 (0, 0)))
    (hc : w.rowIs p.c 49 (2 * n) (fun _ => .int .u64 0)) (hb : w.rowIs p.b 4 n (fun _ => .bool false)) : Ar w p (St.new n) :=
  { ha := ha, hh := hh, hc := hc, hb := hb, n1 := h1, n2 := h2, b1 := Or.inl rfl, t1 := Nat.le_refl _, t2 := Nat.zero_le _, lo := fun _ => Int.le_refl _, hi := fun _ => by show (0 : Int) ≤ _; omega }
theorem new_A {w w1 : World} {n : Nat} (h1 : 2 ≤ n) (h2 : n ≤ 32768) (hh : Halves w w1 n (w.heap.size + 1)) (hb : Below w.heap.size w w1) :
    Ar ((w1.alloc (.cells (madeCells #[.bool false] n) 4)).alloc (.cells #[.pointer (some ⟨w.heap.size + 1, 0, none⟩), .slice (some ⟨w1.heap.size, 0, none⟩) n n] 92)) ⟨w1.heap.size + 1, w.heap.size + 1, w.heap.size, w1.heap.size⟩ (St.new n) ∧
    Below w.heap.size w ((w1.alloc (.cells (madeCells #[.bool false] n) 4)).alloc (.cells #[.pointer (some ⟨w.heap.size + 1, 0, none⟩), .slice (some ⟨w1.heap.size, 0, none⟩) n n] 92)) ∧ w.heap.size ≤ w1.heap.size := by
  obtain ⟨e1, e2, e3, e4⟩ := hh
  refine ⟨ar_new h1 h2 ?_ ?_ ?_ ?_, (hb.alloc hb.size _).alloc (by rw [nblk_alloc]; have := hb.size; omega) _, hb.size⟩
  · have := blk_alloc_new (w1.alloc (.cells (madeCells #[.bool false] n) 4)) (.cells #[.pointer (some ⟨w.heap.size + 1, 0, none⟩), .slice (some ⟨w1.heap.size, 0, none⟩) n n] 92)
    rw [nblk_alloc] at this
    exact this
  · exact (blk_alloc_lt _ _ (w.heap.size + 1) (by rw [nblk_alloc]; omega)).trans ((blk_alloc_lt _ _ (w.heap.size + 1) (by omega)).trans e3)
  · exact (e4.alloc _).alloc _
  · exact (World.rowIs_made w1 (.bool false) n 4).alloc _
theorem new_B {w w1 : World} {n : Nat} (h1 : 2 ≤ n) (h2 : n ≤ 32768) (hh : Halves (w.alloc (.cells (madeCells #[.bool false] n) 4)).drew w1 n ((w.alloc (.cells (madeCells #[.bool false] n) 4)).drew.heap.size + 1))
    (hb : Below (w.alloc (.cells (madeCells #[.bool false] n) 4)).drew.heap.size (w.alloc (.cells (madeCells #[.bool false] n) 4)).drew w1) :
    Ar (w1.alloc (.cells #[.pointer (some ⟨w.heap.size + 1 + 1, 0, none⟩), .slice (some ⟨w.heap.size, 0, none⟩) n n] 92)) ⟨w1.heap.size, w.heap.size + 1 + 1, w.heap.size + 1, w.heap.size⟩ (St.new n) ∧
    Below w.heap.size w (w1.alloc (.cells #[.pointer (some ⟨w.heap.size + 1 + 1, 0, none⟩), .slice (some ⟨w.heap.size, 0, none⟩) n n] 92)) ∧ w.heap.size ≤ w1.heap.size := by
  have hs : (w.alloc (.cells (madeCells #[.bool false] n) 4)).drew.heap.size = w.heap.size + 1 := nblk_alloc _ _
  obtain ⟨e1, e2, e3, e4⟩ := hh
  rw [hs] at e1 e2 e3 e4 hb
  have hz := hb.size
  rw [hs] at hz
  have hb0 : Below w.heap.size w w1 := ((Below.refl _ _).alloc (Nat.le_refl _) _).drew.trans (hb.mono (by omega))
  refine ⟨ar_new h1 h2 ?_ ?_ ?_ ?_, hb0.alloc (by omega) _, by omega⟩
  · exact blk_alloc_new _ _
  · exact (blk_alloc_lt _ _ (w.heap.size + 1 + 1) (by omega)).trans e3
  · exact e4.alloc _
  · have := (World.rowIs_made w (.bool false) n 4).of_block (w' := w1) (hb.block _ (by omega))
    exact this.alloc _
theorem new_no (n : Int) (w : World) (h : n < 2 ∨ 32768 < n) :
    Calls Try.prog 29 #[.int .i64 n] w fun e w' => e = .returned (.pointer none) ∧ w' = w := by
  by_cases c : n < 2
  · go_enter Try.func29, Try.ntmps29
    go_wp2
    all_goals go_ret
    all_goals exact ⟨rfl, rfl⟩
  · have c2 : 32768 < n := by omega
    clear h
    go_enter Try.func29, Try.ntmps29
    go_wp2
    all_goals go_ret
    all_goals exact ⟨rfl, rfl⟩
theorem new_yes (n : Nat) (w : World) (h1 : 2 ≤ n) (h2 : n ≤ 32768) :
    Calls Try.prog 29 #[.int .i64 n] w fun e w' => ∃ p : Pl, e = .returned (.pointer (some ⟨p.a, 0, none⟩)) ∧ Ar w' p (St.new n) ∧ Below w.heap.size w w' ∧ w.heap.size ≤ p.a ∧ w.heap.size ≤ p.h ∧ w.heap.size ≤ p.c ∧ w.heap.size ≤ p.b := by
  have hmk : ∀ w : World, (Instr.makeSlice 90 (.int .i64 (n : Int)) (.int .i64 (n : Int))).run Try.prog w = .ok (.slice (some ⟨w.heap.size, 0, none⟩) n n) (w.alloc (.cells (madeCells #[.bool false] n) 4)) := by
    exact run_make_row' (P := Try.prog) 90 4 (.bool false) 1 Try.underlying90 Try.info4 rfl .i64 .i64 n (by omega) (by omega)
  go_enter Try.func29, Try.ntmps29
  go_wp2
  go_region_with (go_at_call 52; refine (newHalves_any n h2 _).mono ?_; rintro e w1 ⟨rfl, hh, hb⟩)
  all_goals go_wp2
  · obtain ⟨ha, hbl, hz⟩ := new_A (w := w.drew) h1 h2 hh hb
    refine bodyPost_ret (v := .pointer (some ⟨w1.heap.size + 1, 0, none⟩)) (by simp [results, Try.results29, go_sem]) rfl ⟨⟨w1.heap.size + 1, w.heap.size + 1, w.heap.size, w1.heap.size⟩, rfl, ha, (Below.refl _ w).drew.trans hbl, ?_⟩
    show _ ≤ w1.heap.size + 1 ∧ _ ≤ w.heap.size + 1 ∧ _ ≤ w.heap.size ∧ _ ≤ w1.heap.size
    have hz' : w.heap.size ≤ w1.heap.size := hz
    omega
  · obtain ⟨ha, hbl, hz⟩ := new_B (w := w) h1 h2 hh hb
    refine bodyPost_ret (v := .pointer (some ⟨w1.heap.size, 0, none⟩)) (by simp [results, Try.results29, go_sem]) rfl ⟨⟨w1.heap.size, w.heap.size + 1 + 1, w.heap.size + 1, w.heap.size⟩, rfl, ha, hbl, ?_⟩
    show _ ≤ w1.heap.size ∧ _ ≤ w.heap.size + 1 + 1 ∧ _ ≤ w.heap.size + 1 ∧ _ ≤ w.heap.size
    omega
end Go.Proofs.Ytkgocnmeedkieaa
