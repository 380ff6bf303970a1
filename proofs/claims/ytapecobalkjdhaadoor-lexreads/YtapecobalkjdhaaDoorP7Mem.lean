/-
  Layer 7, the program's reader in memory: the source, how far it was read, the place that a fault is told at; what each small step of it does. Condition: the reader lies in memory.
-/
import Derived.Test.YtapecobalkjdhaaDoorR7Row
import Derived.Test.YtapecobalkjdhaaDoorR7Comment
import Derived.Test.YtapecobalkjdhaaDoorShelf
import Derived.Test.YtapecobalkjdhaaDoorP7Base
import Derived.Laws.Strings3
import Derived.Deep.LoopGhost
namespace Go.Proofs.YtapecobalkjdhaaDoor
open Go.ChangeShapes Go.WideShapes Go.ChangeAt Go.RowKit Go.Deep
set_option linter.unusedVariables false
set_option maxHeartbeats 1000000

/-- All blocks that were there but those of S are as they were. -/
structure Only (S : Nat → Prop) (w w' : World) : Prop where
  os : w'.os = w.os
  tape : w'.tape = w.tape
  output : w'.output = w.output
  size : w.heap.size ≤ w'.heap.size
  block : ∀ k, k < w.heap.size → ¬ S k → w'.heap[k]? = w.heap[k]?
namespace Only
variable {S T : Nat → Prop} {w w' w'' : World}
theorem refl (S : Nat → Prop) (w : World) : Only S w w := ⟨rfl, rfl, rfl, Nat.le_refl _, fun _ _ _ => rfl⟩
theorem trans (h : Only S w w') (k : Only S w' w'') : Only S w w'' :=
  ⟨k.os.trans h.os, k.tape.trans h.tape, k.output.trans h.output, Nat.le_trans h.size k.size, fun i hi hs => (k.block i (Nat.lt_of_lt_of_le hi h.size) hs).trans (h.block i hi hs)⟩
theorem mono (h : Only S w w') (hT : ∀ k, k < w.heap.size → S k → T k) : Only T w w' := ⟨h.os, h.tape, h.output, h.size, fun i hi hs => h.block i hi (fun c => hs (hT i hi c))⟩
theorem drewN (h : Only S w w') (n : Nat) : Only S w (w'.drewN n) := ⟨h.os, h.tape, h.output, h.size, h.block⟩
theorem alloc (h : Only S w w') (o : Obj) : Only S w (w'.alloc o) :=
  h.trans ⟨rfl, rfl, rfl, by rw [nblk_alloc]; omega, fun k hk _ => blk_alloc_lt _ _ _ hk⟩
theorem setCell (h : Only S w w') {a : Addr} (ha : w.heap.size ≤ a.block ∨ S a.block) (v : Value) : Only S w (w'.setCell a v) :=
  ⟨h.os, h.tape, h.output, by rw [nblk_setCell]; exact h.size, fun k hk hs => by rw [blk_setCell_other _ _ _ _ (by rintro rfl; rcases ha with ha | ha; omega; exact hs ha)]; exact h.block k hk hs⟩
theorem below (h : Only S w w') {B : Nat} (hB : B ≤ w.heap.size) (hS : ∀ k, k < B → ¬ S k) : Below B w w' := ⟨h.os, h.tape, h.output, h.size, fun k hk => h.block k (by omega) (hS k hk)⟩
theorem of_below (h : Below w.heap.size w w') : Only S w w' := ⟨h.os, h.tape, h.output, h.size, fun k hk _ => h.block k hk⟩
end Only
/-- The reader lies in memory. -/
def RD (w : World) (b : Nat) (s : ByteArray) (i f : Nat) : Prop := w.heap[b]? = some (.cells #[.string s, .int .i64 i, .int .i64 f] 39 (0, 0))
abbrev OnlyB (b : Nat) (w w' : World) : Prop := Only (fun k => k = b) w w'
/-- What is panicked with. -/
def faultP (e at_ : Int) : PanicEntry := { v := .iface 35 (.agg #[.int .i64 e, .int .i64 at_]), recovered := false }
section
variable {w w' : World} {b : Nat} {s : ByteArray} {i f : Nat}
theorem RD.cells (h : RD w b s i f) : w.cell? ⟨b, 0, none⟩ = some (.string s) ∧ w.cell? ⟨b, 1, none⟩ = some (.int .i64 i) ∧ w.cell? ⟨b, 2, none⟩ = some (.int .i64 f) ∧ ∀ o, w.frozen? ⟨b, o, none⟩ = false := by
  unfold RD at h
  simp [World.cell?, World.frozen?, h]
theorem RD.lt (h : RD w b s i f) : b < w.heap.size := lt_of_some h
theorem RD.drewN (h : RD w b s i f) (n : Nat) : RD (w.drewN n) b s i f := h
theorem RD.keep (h : RD w b s i f) {S : Nat → Prop} (k : Only S w w') (hs : ¬ S b) : RD w' b s i f := (k.block b h.lt hs).trans h
theorem RD.set1 (h : RD w b s i f) (j : Nat) : RD (w.setCell ⟨b, 1, none⟩ (.int .i64 j)) b s j f := by
  unfold RD at h ⊢
  simp [World.setCell, Array.getElem?_modify, h]
theorem RD.set2 (h : RD w b s i f) (j : Nat) : RD (w.setCell ⟨b, 2, none⟩ (.int .i64 j)) b s i j := by
  unfold RD at h ⊢
  simp [World.setCell, Array.getElem?_modify, h]
theorem RD.to1 (h : RD w b s i f) {z : Int} {j : Nat} (e : z = j) : RD (w.setCell ⟨b, 1, none⟩ (.int .i64 z)) b s j f := by rw [e]; exact h.set1 j
theorem RD.to2 (h : RD w b s i f) {z : Int} {j : Nat} (e : z = j) : RD (w.setCell ⟨b, 2, none⟩ (.int .i64 z)) b s i j := by rw [e]; exact h.set2 j
theorem RD.only1 (w : World) (b : Nat) (v : Value) (n o : Nat) : OnlyB b w ((w.drewN n).setCell ⟨b, o, none⟩ v) := Only.setCell (a := ⟨b, o, none⟩) ((Only.refl (fun k => k = b) w).drewN n) (Or.inr rfl) v
theorem RD.alloc (h : RD w b s i f) (o : Obj) : RD (w.alloc o) b s i f := (blk_alloc_lt _ _ _ h.lt).trans h
end
theorem wrapId (z : Int) (h : -9223372036854775808 ≤ z) (h' : z ≤ 9223372036854775807) : IntKind.i64.wrap z = z := by
  rw [IntKind.wrap_i64]; omega
/-- It is given up. -/
theorem giveUp_any (e : Int) {w : World} {b : Nat} {s : ByteArray} {i f : Nat} (h : RD w b s i f) : Calls Tryd.prog 56 #[.pointer (some ⟨b, 0, none⟩), .int .i64 e] w fun r w' => r = .panicked [faultP e f] ∧ w' = w := by
  obtain ⟨c0, c1, c2, hf⟩ := h.cells
  have hp : ∀ w, Sem.run Tryd.prog (Instr.panic (.iface 35 (.agg #[.int .i64 e, .int .i64 f]))) w = .halt (.panic (.iface 35 (.agg #[.int .i64 e, .int .i64 f]))) w := fun w => rfl
  clear h
  go_enter Tryd.func56, Tryd.ntmps56
  go_wp2
  exact ⟨rfl, rfl, rfl⟩
theorem next_yes {w : World} {b : Nat} {s : ByteArray} {i f : Nat} (h : RD w b s i f) (hi : i < s.size) (hs : s.size ≤ 1000000) : Calls Tryd.prog 53 #[.pointer (some ⟨b, 0, none⟩)] w fun r w' => r = .returned (.int .u8 (s[i].toNat : Int)) ∧ RD w' b s (i + 1) f ∧ OnlyB b w w' := by
  obtain ⟨c0, c1, c2, hf⟩ := h.cells
  have H := hidden h
  have z1 : ((i : Int) == (s.size : Int)) = false := by rw [beq_eq_false_iff_ne]; omega
  have z2 := wrapId ((i : Int) + 1 - 1) (by omega) (by omega)
  clear h
  go_enter Tryd.func53, Tryd.ntmps53
  go_wp2_with fail
  go_quiet (fail)
  go_wp2_with fail
  have H2 := hidden ((H.out.drewN nq).to1 (show (i : Int) + 1 = ((i + 1 : Nat) : Int) by omega))
  have O2 := hidden (RD.only1 w b (.int .i64 ((i : Int) + 1)) nq 1)
  obtain ⟨d0, d1, d2, df⟩ := H2.out.cells
  clear c0 c1 c2 hf H z1
  generalize (w.drewN nq).setCell ⟨b, 1, none⟩ (.int .i64 ((i : Int) + 1)) = w2 at *
  have z3 : (0 : Int) ≤ (i : Int) + 1 - 1 := by omega
  have z4 : (i : Int) + 1 - 1 < (s.size : Int) := by omega
  go_quiet (fail)
  go_wp2_with fail
  go_ret
  exact ⟨rfl, H2.out.drewN _, O2.out.drewN _⟩
theorem next_no {w : World} {b : Nat} {s : ByteArray} {i f : Nat} (h : RD w b s i f) (hi : i = s.size) (hs : s.size ≤ 1000000) : Calls Tryd.prog 53 #[.pointer (some ⟨b, 0, none⟩)] w fun r w' => r = .panicked [faultP 20 f] ∧ OnlyB b w w' := by
  obtain ⟨c0, c1, c2, hf⟩ := h.cells
  have H := hidden h
  have z1 : ((i : Int) == (s.size : Int)) = true := by rw [beq_iff_eq]; omega
  have HI := hidden hi
  clear h hi
  go_enter Tryd.func53, Tryd.ntmps53
  go_wp2_with fail
  go_quiet (fail)
  go_wp2_with (go_at_call 56; refine (giveUp_any 20 (H.out.drewN _)).mono ?_; rintro e w5 ⟨rfl, rfl⟩)
  exact ⟨rfl, rfl, (Only.refl _ w).drewN _⟩
theorem pre_is {s t : ByteArray} {i : Nat} (hi : i ≤ s.size) : Lib.hasPrefix (s.extract i s.size).data.toList t.data.toList = atB s i t := by
  have e : (s.extract i s.size).data.toList = suf s i := by
    unfold suf
    rw [ByteArray.data_extract]
    simp
    exact List.take_of_length_le (by simp)
  rw [e]
  rfl
theorem ahead_any {v : Bool} {w : World} {b : Nat} {s : ByteArray} {i f : Nat} (t : ByteArray) (h : RD w b s i f) (hi : i ≤ s.size) (hs : s.size ≤ 1000000) (e : atB s i t = v) : Calls Tryd.prog 34 #[.pointer (some ⟨b, 0, none⟩), .string t] w fun r w' => r = .returned (.bool v) ∧ ∃ n, w' = w.drewN n := by
  obtain ⟨c0, c1, c2, hf⟩ := h.cells
  have HC := hidden (Tryd.strings_HasPrefix (s.extract i s.size) t)
  rw [pre_is hi, e] at HC
  have hsl : ∀ w', Sem.run Tryd.prog (Instr.slice 9 (.string s) (some (.int .i64 (i : Int))) none none) w' = .ok (.string (s.extract i s.size)) w' := fun w' => by
    have h1 : (0 : Int) ≤ (i : Int) ∧ (i : Int) ≤ (s.size : Int) := ⟨by omega, by omega⟩
    rw [run_slice_string_from_if w' 9 s .i64 (i : Int) Tryd.underlying9, if_pos h1]
    rfl
  clear h e
  go_enter Tryd.func34, Tryd.ntmps34
  go_wp2_with fail
  go_quiet ((go_at_call 51; exact Calls.quiet_of_same (HC.out _)))
  go_wp2_with fail
  go_ret
  exact ⟨rfl, _, rfl⟩
theorem ahead_rd {v : Bool} {w : World} {b : Nat} {s : ByteArray} {i f : Nat} (t : ByteArray) (h : RD w b s i f) (hi : i ≤ s.size) (hs : s.size ≤ 1000000) (e : atB s i t = v) : Calls Tryd.prog 34 #[.pointer (some ⟨b, 0, none⟩), .string t] w fun r w' => r = .returned (.bool v) ∧ RD w' b s i f ∧ OnlyB b w w' :=
  (ahead_any t h hi hs e).mono fun r w' ⟨e1, n, e2⟩ => ⟨e1, by rw [e2]; exact h.drewN n, by rw [e2]; exact (Only.refl _ w).drewN n⟩
theorem at_fits {s t : ByteArray} {i : Nat} (hi : i ≤ s.size) (h : atB s i t = true) : i + t.size ≤ s.size := by
  by_cases c : i + t.size ≤ s.size
  · exact c
  · rw [at_no (by omega) hi] at h; cases h
theorem take_no {w : World} {b : Nat} {s : ByteArray} {i f : Nat} (t : ByteArray) (h : RD w b s i f) (hi : i ≤ s.size) (hs : s.size ≤ 1000000) (e : atB s i t = false) : Calls Tryd.prog 52 #[.pointer (some ⟨b, 0, none⟩), .string t] w fun r w' => r = .returned (.bool false) ∧ RD w' b s i f ∧ OnlyB b w w' := by
  have H := hidden h
  have HE := hidden e
  clear h e
  go_enter Tryd.func52, Tryd.ntmps52
  go_wp2_with (go_at_call 34; refine (ahead_rd t H.out hi hs HE.out).mono ?_; rintro e w5 ⟨rfl, hr, ho⟩; have R5 := hidden hr; have O5 := hidden ho; clear hr ho)
  go_ret
  exact ⟨rfl, R5.out, O5.out⟩
theorem take_yes {w : World} {b : Nat} {s : ByteArray} {i f : Nat} (t : ByteArray) (h : RD w b s i f) (hi : i ≤ s.size) (hs : s.size ≤ 1000000) (e : atB s i t = true) : Calls Tryd.prog 52 #[.pointer (some ⟨b, 0, none⟩), .string t] w fun r w' => r = .returned (.bool true) ∧ RD w' b s (i + t.size) f ∧ OnlyB b w w' := by
  have H := hidden h
  have HE := hidden e
  have ht := at_fits hi e
  clear h e
  go_enter Tryd.func52, Tryd.ntmps52
  go_wp2_with (go_at_call 34; refine (ahead_rd t H.out hi hs HE.out).mono ?_; rintro e w5 ⟨rfl, hr, ho⟩; have R5 := hidden hr; have O5 := hidden ho; obtain ⟨c0, c1, c2, hf⟩ := hr.cells; clear hr ho)
  go_ret
  exact ⟨rfl, R5.out.to1 (by omega), O5.out.setCell (a := ⟨b, 1, none⟩) (Or.inr rfl) _⟩
end Go.Proofs.YtapecobalkjdhaaDoor
