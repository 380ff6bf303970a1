/-
 Layer 10: the text of one type, a list of the seventh variable: what the statements ask of Text ahead of all. No condition.
-/
import Derived.Test.YtnebhiaeechpaaaDoorP10Bld
import Derived.Test.YtnebhiaeechpaaaDoorShelf
import Derived.Test.YtnebhiaeechpaaaDoorP10Api3
namespace Go.Proofs.YtnebhiaeechpaaaDoor
open Go.ChangeShapes Go.WideShapes Go.ChangeAt Go.RowKit Go.Deep
set_option linter.unusedVariables false
set_option linter.unusedSimpArgs false
set_option maxHeartbeats 2000000
set_option maxRecDepth 100000
/-- A builder that holds l. -/
def Bu (B b : Nat) (l : List UInt8) (w : World) : Prop := Lib.IsBuilder 58 5 B b (Lib.byteCells l) w
theorem Bu.below {B b : Nat} {l : List UInt8} {w w' : World} (h : Bu B b l w) (k : Below w.heap.size w w') : Bu B b l w' := by
 have key : ∀ p, Lib.BuilderAt 58 5 B b p (Lib.byteCells l) w → Lib.BuilderAt 58 5 B b p (Lib.byteCells l) w' := by
  rintro p h1
  have hlt := h1.lt
  obtain ⟨hB, v, hb, hown, hne⟩ := h1
  refine ⟨hB, v, (k.block b hlt).trans hb, ⟨hown.1, ?_⟩, hne⟩
  rcases hown.2 with c | ⟨g, cap, cur, e, hg0, hg, r⟩
  ·exact Or.inl c
  ·exact Or.inr ⟨g, cap, cur, e, hg0, (k.block g (Array.getElem?_eq_some_iff.1 hg).1).trans hg, r⟩
 exact h.imp (key _) (key _)
theorem writes_l (B b : Nat) (l : List UInt8) (s : ByteArray) (w : World) (h : Bu B b l w) (hl : l.length + s.size ≤ 1000) (hB : B ≤ w.heap.size) : Calls Tryd.prog 44 #[.pointer (some ⟨b, 0, none⟩), .string s] w fun e w' => (∃ v, e = .returned v) ∧ Bu B b (l ++ s.data.toList) w' ∧ Below B w w' ∧ KeepT b w w' := by
 refine (writes_any B b _ s w h (by rw [Lib.byteCells_length]; omega) hB).mono ?_
 rintro e w' ⟨h1, h2, h3, h4⟩
 refine ⟨h1, ?_, h3, h4⟩
 unfold Bu
 have e : Lib.byteCells (l ++ s.data.toList) = Lib.byteCells l ++ Lib.strCells s := by
  unfold Lib.byteCells Lib.strCells
  simp
 rw [e]
 exact h2
theorem write_var {B b : Nat} {l : List UInt8} {w : World} (h : Bu B b l w) (hl : l.length ≤ 100) (hB : B ≤ w.heap.size) (x : ByteArray) (v : Value) (hv : ∃ ao l c, v = .slice ao l c) : Calls Tryd.prog 35 #[.pointer (some ⟨b, 0, none⟩), .agg #[.int .i64 7, .string x, v]] w fun e w' => e = .returned (.tuple #[]) ∧ Bu B b (l ++ [39, 55]) w' ∧ Below B w w' ∧ KeepT b w w' := by
 obtain ⟨ao, m, c, rfl⟩ := hv
 have D0 := hidden ((Below.refl B w).alloc hB (.cells #[.int .i64 7, .string x, .slice ao m c] 24))
 have A0 := hidden (B3.new w 7 x (.slice ao m c))
 have K0 : Hid (KeepT b w (w.alloc (.cells #[.int .i64 7, .string x, .slice ao m c] 24))) := KeepT.of_below ((Below.refl _ w).alloc (Nat.le_refl _) _)
 have H0 := hidden (h.below ((Below.refl _ w).alloc (Nat.le_refl _) (.cells #[.int .i64 7, .string x, .slice ao m c] 24)))
 clear h
 go_enter Tryd.func35, Tryd.ntmps35
 go_upto_region 4 with fail
 generalize w.alloc (.cells #[.int .i64 7, .string x, .slice ao m c] 24) = w0 at *
 obtain ⟨a0, a1, a2, af⟩ := A0.out.cells
 have ed : Lib.decDigits 7 = [55] := by first | kernel_rfl | decide | simp [Lib.decDigits]
 have HI : Hid (Calls Tryd.prog 45 #[.int .i64 7] w0 fun e w' => e = .returned (.string ⟨#[55]⟩) ∧ w' = w0) := by
  have h9 := Tryd.strconv_Itoa_small 7 (by omega) w0
  rw [ed] at h9
  exact h9
 clear ed
 have h0 := D0.out.size
 go_wp2_with fail
 refine HI.out.mono ?_
 rintro e w1 ⟨rfl, hw1⟩
 subst hw1
 have HW := hidden (writes_l B b l (⟨#[39]⟩ ++ ⟨#[55]⟩) w1 H0.out (by show l.length + 2 ≤ 1000; omega) (by omega))
 go_wp2_with fail
 refine HW.out.mono ?_
 rintro e w2 ⟨⟨v, rfl⟩, g1, g2, g3⟩
 have G1 := hidden g1
 have G2 := hidden (D0.out.trans g2)
 have G3 := hidden (K0.out.trans g3)
 clear g1 g2 g3 a0 a1 a2 af
 go_wp2_with fail
 refine bodyPost_end (results_none rfl _ _ _) rfl ?_
 exact ⟨rfl, G1.out, G2.out, G3.out⟩
/-- A list's type in memory. -/
def ListT (w : World) (ao : Option Addr) : Prop := ∃ a : Addr, ao = some a ∧ w.cell? a = some (.int .i64 7) ∧ w.cell? ⟨a.block, a.off + 1, none⟩ = some (.string ⟨#[]⟩) ∧ ∃ al c, w.cell? ⟨a.block, a.off + 2, none⟩ = some (.slice al 0 c)
theorem ListT.of {P : Nat → Prop} {w : World} {ao : Option Addr} (h : RT P w [.mk 7 [] []] ao) : ListT w ao := by
 obtain ⟨a, al, cp, e, h0, h1, h2, _⟩ := rt_part h (k := 0) rfl
 simp only [Nat.zero_mul, Addr.add, if_pos] at h0 h1 h2
 exact ⟨a, e, h0, h1, al, cp, h2⟩
theorem Bu.lt {B b : Nat} {l : List UInt8} {w : World} (h : Bu B b l w) : b < w.heap.size := by
 rcases h with h | h
 ·exact h.lt
 ·exact h.lt
theorem write_parts {B b : Nat} {l : List UInt8} {w : World} (h : Bu B b l w) (hl : l.length ≤ 50) (hB : B ≤ w.heap.size) {ao : Option Addr} (ht : RT (fun g => g < B) w [.mk 7 [] []] ao)   : Calls Tryd.prog 46 #[.pointer (some ⟨b, 0, none⟩), .agg #[.int .i64 0, .string ⟨#[108, 105, 115, 116]⟩, .slice ao 1 1]] w fun e w' => e = .returned (.tuple #[]) ∧ Bu B b (l ++ [39, 55] ++ [32, 108, 105, 115, 116]) w' ∧ Below B w w' ∧ KeepT b w w' := by
 have D0 := hidden ((Below.refl B w).alloc hB (.cells #[.int .i64 0, .string ⟨#[108, 105, 115, 116]⟩, .slice ao 1 1] 24))
 have A0 := hidden (B3.new w 0 ⟨#[108, 105, 115, 116]⟩ (.slice ao 1 1))
 have K0 : Hid (KeepT b w (w.alloc (.cells #[.int .i64 0, .string ⟨#[108, 105, 115, 116]⟩, .slice ao 1 1] 24))) := KeepT.of_below ((Below.refl _ w).alloc (Nat.le_refl _) _)
 have H0 := hidden (h.below ((Below.refl _ w).alloc (Nat.le_refl _) (.cells #[.int .i64 0, .string ⟨#[108, 105, 115, 116]⟩, .slice ao 1 1] 24)))
 have L0 := hidden (ht.alloc (.cells #[.int .i64 0, .string ⟨#[108, 105, 115, 116]⟩, .slice ao 1 1] 24))
 have hbw : Hid (b ≠ w.heap.size) := fun e => by have h9 := h.lt; omega
 clear h ht
 go_enter Tryd.func46, Tryd.ntmps46
 go_upto_region 1 with fail
 generalize w.alloc (.cells #[.int .i64 0, .string ⟨#[108, 105, 115, 116]⟩, .slice ao 1 1] 24) = w0 at *
 obtain ⟨a0, a1, a2, af⟩ := A0.out.cells
 obtain ⟨a, rfl, l0, l1, al, c2, l2⟩ := ListT.of L0.out
 have h0 := D0.out.size
 have HV := hidden (write_var H0.out (by omega) (by omega) ⟨#[]⟩ (.slice al 0 c2) ⟨_, _, _, rfl⟩)
 go_wp2_with fail
 refine HV.out.mono ?_
 rintro e w1 ⟨rfl, g1, g2, g3⟩
 have G1 := hidden g1
 have G2 := hidden (D0.out.trans g2)
 have G3 := hidden (K0.out.trans g3)
 have A1 : Hid (B3 w1 w.heap.size 0 ⟨#[108, 105, 115, 116]⟩ (.slice _ 1 1)) := A0.out.keep (g3.block _ A0.out.lt (fun e => hbw.out e.symm) (fun cs fr e => by have h9 := A0.out; unfold B3 at h9; rw [e] at h9; cases h9))
 clear g1 g2 g3 a0 a1 a2 af l0 l1 l2
 have h1 := G2.out.size
 obtain ⟨a0, a1, a2, af⟩ := A1.out.cells
 have HW := hidden (writes_l B b _ (⟨#[32]⟩ ++ ⟨#[108, 105, 115, 116]⟩) w1 G1.out (by rw [List.length_append]; show l.length + 2 + 5 ≤ 1000; omega) (by omega))
 go_upto_region 4 with first | (refine HW.out.mono ?_; rintro e w2 ⟨⟨v, rfl⟩, g1, g2, g3⟩; have F1 := hidden g1; have F2 := hidden (G2.out.trans g2); have F3 := hidden (G3.out.trans g3); have A2 : Hid (B3 w2 w.heap.size 0 ⟨#[108, 105, 115, 116]⟩ (.slice (some a) 1 1)) := A1.out.keep (g3.block _ A1.out.lt (fun e => hbw.out e.symm) (fun cs fr e => by have h9 := A1.out; unfold B3 at h9; rw [e] at h9; cases h9)); clear g1 g2 g3) | fail
 clear a0 a1 a2 af
 have h2 := F2.out.size
 obtain ⟨a0, a1, a2, af⟩ := A2.out.cells
 go_upto_region 5 with fail
 go_loopw [25] (fun iv wr => iv = .int .i64 0 ∧ wr = w2) (fun iv wr => 0)
 case atStart => exact ⟨rfl, rfl⟩
 case round =>
  obtain ⟨rfl, rfl⟩ := hrel
  go_wp2_with fail
  refine bodyPost_end (results_none rfl _ _ _) rfl ?_
  exact ⟨rfl, F1.out, F2.out, F3.out⟩
/-- A list's type is written. -/
theorem write_list {B b : Nat} {l : List UInt8} {w : World} (h : Bu B b l w) (hl : l.length ≤ 20) (hB : B ≤ w.heap.size) {ao : Option Addr} (ht : RT (fun g => g < B) w [.mk 7 [] []] ao) : Calls Tryd.prog 35 #[.pointer (some ⟨b, 0, none⟩), .agg #[.int .i64 0, .string ⟨#[108, 105, 115, 116]⟩, .slice ao 1 1]] w fun e w' => e = .returned (.tuple #[]) ∧ Bu B b (l ++ [40] ++ [39, 55] ++ [32, 108, 105, 115, 116] ++ [41]) w' ∧ Below B w w' := by
 have D0 := hidden ((Below.refl B w).alloc hB (.cells #[.int .i64 0, .string ⟨#[108, 105, 115, 116]⟩, .slice ao 1 1] 24))
 have A0 := hidden (B3.new w 0 ⟨#[108, 105, 115, 116]⟩ (.slice ao 1 1))
 have H0 := hidden (h.below ((Below.refl _ w).alloc (Nat.le_refl _) (.cells #[.int .i64 0, .string ⟨#[108, 105, 115, 116]⟩, .slice ao 1 1] 24)))
 have L0 := hidden (ht.alloc (.cells #[.int .i64 0, .string ⟨#[108, 105, 115, 116]⟩, .slice ao 1 1] 24))
 have hbw : Hid (b ≠ w.heap.size) := fun e => by have h9 := h.lt; omega
 clear h ht
 go_enter Tryd.func35, Tryd.ntmps35
 go_upto_region 4 with fail
 generalize w.alloc (.cells #[.int .i64 0, .string ⟨#[108, 105, 115, 116]⟩, .slice ao 1 1] 24) = w0 at *
 obtain ⟨a0, a1, a2, af⟩ := A0.out.cells
 have h0 := D0.out.size
 have HW := hidden (writes_l B b l ⟨#[40]⟩ w0 H0.out (by show l.length + 1 ≤ 1000; omega) (by omega))
 go_wp2_with fail
 refine HW.out.mono ?_
 rintro e w1 ⟨⟨v, rfl⟩, g1, g2, g3⟩
 have G1 : Hid (Bu B b (l ++ [40]) w1) := g1
 have G2 := hidden (D0.out.trans g2)
 have L1 : Hid (RT (fun g => g < B) w1 [.mk 7 [] []] ao) := L0.out.keep (fun g hg _ => g2.block g hg)
 have A1 : Hid (B3 w1 w.heap.size 0 ⟨#[108, 105, 115, 116]⟩ (.slice ao 1 1)) := A0.out.keep (g3.block _ A0.out.lt (fun e => hbw.out e.symm) (fun cs fr e => by have h9 := A0.out; unfold B3 at h9; rw [e] at h9; cases h9))
 clear g1 g2 g3 a0 a1 a2 af
 have h1 := G2.out.size
 obtain ⟨a0, a1, a2, af⟩ := A1.out.cells
 have HP := hidden (write_parts G1.out (by rw [List.length_append]; show l.length + 1 ≤ 50; omega) (by omega) L1.out)
 go_wp2_with fail
 refine HP.out.mono ?_
 rintro e w2 ⟨rfl, g1, g2, g3⟩
 have F1 := hidden g1
 have F2 := hidden (G2.out.trans g2)
 clear g1 g2 g3 a0 a1 a2 af
 have h2 := F2.out.size
 have HW2 := hidden (writes_l B b _ ⟨#[41]⟩ w2 F1.out (by simp only [List.length_append]; show l.length + 1 + 2 + 5 + 1 ≤ 1000; omega) (by omega))
 go_wp2_with fail
 refine HW2.out.mono ?_
 rintro e w3 ⟨⟨v, rfl⟩, g1, g2, g3⟩
 have E1 := hidden g1
 have E2 := hidden (F2.out.trans g2)
 clear g1 g2 g3
 go_wp2_with fail
 refine bodyPost_end (results_none rfl _ _ _) rfl ?_
 exact ⟨rfl, E1.out, E2.out⟩
/-- Its text. -/
theorem text_list {w : World} {ao : Option Addr} (ht : RT (fun g => g < w.heap.size) w [.mk 7 [] []] ao) : Calls Tryd.prog 27 #[.agg #[.int .i64 0, .string ⟨#[108, 105, 115, 116]⟩, .slice ao 1 1]] w fun e w' => e = .returned (.string ⟨#[40, 39, 55, 32, 108, 105, 115, 116, 41]⟩) ∧ Below w.heap.size w w' := by
 have D0 := hidden ((Below.refl w.heap.size w).alloc (Nat.le_refl _) (.cells #[.int .i64 0, .string ⟨#[108, 105, 115, 116]⟩, .slice ao 1 1] 24))
 have A0 := hidden (B3.new w 0 ⟨#[108, 105, 115, 116]⟩ (.slice ao 1 1))
 have L0 := hidden (ht.alloc (.cells #[.int .i64 0, .string ⟨#[108, 105, 115, 116]⟩, .slice ao 1 1] 24))
 clear ht
 go_enter Tryd.func27, Tryd.ntmps27
 go_upto_region 1 with fail
 generalize w.alloc (.cells #[.int .i64 0, .string ⟨#[108, 105, 115, 116]⟩, .slice ao 1 1] 24) = w0 at *
 have h0 := D0.out.size
 have HBU : Hid (Bu w.heap.size w0.heap.size [] (w0.alloc (.cells #[.pointer none, .slice none 0 0] 58))) := Or.inl ⟨h0, .slice none 0 0, blk_alloc_new _ _, World.ownsRow_nil _ _ _ _, by simp [Value.ownBlock]⟩
 have D1 := hidden (D0.out.alloc h0 (.cells #[.pointer none, .slice none 0 0] 58))
 have A1 := hidden (A0.out.alloc (.cells #[.pointer none, .slice none 0 0] 58))
 have L1 := hidden (L0.out.alloc (.cells #[.pointer none, .slice none 0 0] 58))
 go_upto_region 2 with fail
 generalize w0.alloc (.cells #[.pointer none, .slice none 0 0] 58) = w1 at *
 obtain ⟨a0, a1, a2, af⟩ := A1.out.cells
 have h1 := D1.out.size
 have HW := hidden (write_list HBU.out (by show 0 ≤ 20; omega) h1 L1.out)
 go_wp2_with fail
 refine HW.out.mono ?_
 rintro e w2 ⟨rfl, g1, g2⟩
 have G1 := hidden g1
 have G2 := hidden (D1.out.trans g2)
 clear g1 g2 a0 a1 a2 af
 have h2 := G2.out.size
 have HS := hidden (Tryd.Builder_String_any _ _ _ w2 G1.out h2)
 go_wp2_with fail
 refine HS.out.mono ?_
 rintro e w3 ⟨rfl, g3⟩
 have G3 := hidden (G2.out.trans g3)
 clear g3
 go_wp2_with fail
 go_ret
 exact ⟨rfl, G3.out⟩
end Go.Proofs.YtnebhiaeechpaaaDoor
