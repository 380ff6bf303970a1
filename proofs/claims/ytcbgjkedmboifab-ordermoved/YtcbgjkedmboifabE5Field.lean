/-
  Layer 5, the program's text: the bytes of a field, and which text a block holds. Condition: the arena lies in memory, in one state with a list of blocks.
-/
import Derived.Test.YtcbgjkedmboifabE5Plain
import Derived.Test.YtcbgjkedmboifabR5Text
namespace Go.Proofs.Ytcbgjkedmboifab
open Go.ChangeShapes Go.WideShapes Go.ChangeAt Go.RowKit Go.Deep
set_option linter.unusedVariables false
set_option maxHeartbeats 1000000

theorem get_rng {w : World} {p : Pl} {s : St} (h : Ar w p s) (x i : Int) : 0 ≤ s.get x i ∧ s.get x i ≤ 18446744073709551615 := by
  unfold St.get
  split
  · exact ⟨h.lo _, h.hi _⟩
  · decide
set_option maxRecDepth 20000 in
theorem e5_field {p : Pl} {s : St} (x k : Int) (w : World) (h : Ar w p s) (hf : s.Fits) (h0 : 0 ≤ x) (h1 : x ≤ 18446744073709551615) :
    Calls Try.prog 85 #[.pointer (some ⟨p.a, 0, none⟩), .int .u64 x, .int .i64 k] w fun e w' => e = .returned (.agg (eightV (byteI (s.get x k)))) ∧ Below w.heap.size w w' := by
  obtain ⟨g0, g1⟩ := get_rng h x k
  have hA : Ar (w.alloc (.cells zero8 130)) p s := h.alloc _
  have hz : (w.alloc (.cells zero8 130)).rowIs w.heap.size 130 8 (fun _ => .int .u8 0) := w.rowIs_alloc zero8 130 (fun _ => .int .u8 0) zero8_at
  have hb0 : Below w.heap.size w (w.alloc (.cells zero8 130)) := (Below.refl _ _).alloc (Nat.le_refl _) _
  have hsz : w.heap.size < (w.alloc (.cells zero8 130)).heap.size := by rw [nblk_alloc]; omega
  go_enter Try.func85, Try.ntmps85
  go_upto_region 1 with fail
  change Code.wp _ _ _ _ (w.alloc (.cells zero8 130))
  generalize w.alloc (.cells zero8 130) = w1 at *
  have HZ : Hid _ := hz
  have HB : Hid _ := hb0
  clear hz hb0 h
  go_upto_region 2 with (go_at_call 62; refine (get_any x k _ hA hf h0 h1).mono ?_; rintro e w' ⟨rfl, m, hw'⟩; have HM : Hid _ := hw'; clear hw')
  have HB2 : Hid (Below w.heap.size w w') := by show Below _ _ _; rw [HM.out]; exact HB.out.trans ((below_drews w1 m).mono (Nat.le_of_lt hsz))
  have HZ2 : Hid (w'.rowIs w.heap.size 130 8 (fun _ => .int .u8 0)) := by show World.rowIs _ _ _ _ _; rw [HM.out]; exact HZ.out
  have hsz2 : w.heap.size < w'.heap.size := World.rowIs.lt HZ2.out
  clear HM HZ HB hsz hA
  go_wp2_with (go_at_call 96; refine (e5_bytes _ _ g0 g1).mono ?_; rintro e w2 ⟨rfl, hb⟩; rw [eight_lit]; have HZ3 : Hid (w2.rowIs w.heap.size 130 8 (fun _ => .int .u8 0)) := World.rowIs.of_block HZ2.out (hb.block _ hsz2); obtain ⟨d0, d1, d2, d3, d4, d5, d6, d7⟩ := eight_cells HZ3.out; have hf2 := World.rowIs.frozen HZ3.out; have HB3 : Hid (Below w.heap.size w w2) := HB2.out.trans (hb.mono (Nat.le_of_lt hsz2)); clear hb)
  refine bodyPost_ret (results_cell_row rfl _ _ w.heap.size 130 _ (0, 0) _ rfl (eight_store HZ3.out _ _ _ _ _ _ _ _) Try.underlying130 rfl (by kernel_rfl)) rfl ⟨rfl, below_eight HB3.out _ _ _ _ _ _ _ _⟩
end Go.Proofs.Ytcbgjkedmboifab
