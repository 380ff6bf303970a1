/-
 Layer 10, the statements' helpers: v, named, small. No condition.
-/
import Derived.Test.YtnebhiaeechpaaaDoorP10Api3
import Derived.Test.YtnebhiaeechpaaaDoorM10Cnt
import Derived.Test.YtnebhiaeechpaaaDoorM10Same
namespace Go.Proofs.YtnebhiaeechpaaaDoor
open Go.ChangeShapes Go.WideShapes Go.ChangeAt Go.RowKit Go.Deep
set_option linter.unusedVariables false
set_option linter.unusedSimpArgs false
set_option maxHeartbeats 4000000
set_option maxRecDepth 20000
theorem fill3_below {w w0 : World} (h : Below w.heap.size w w0) {p : Nat} (hp : w.heap.size ≤ p) (V : Int) (x : ByteArray) (v : Value) : Below w.heap.size w (fill3 w0 p V x v) := below_fill3 h hp V x v
theorem v_any (w : World) (n : Int) : Calls Tryd.prog 25 #[.int .i64 n] w fun e w' => e = .returned (.agg #[.int .i64 n, .string ⟨#[]⟩, .slice none 0 0]) ∧ Below w.heap.size w w' := by
 have D0 := hidden ((Below.refl w.heap.size w).alloc (Nat.le_refl _) (.cells #[.int .i64 0, .string ⟨#[]⟩, .slice none 0 0] 24))
 have A0 := hidden (B3.new w 0 ⟨#[]⟩ (.slice none 0 0))
 go_enter Tryd.func25, Tryd.ntmps25
 go_upto_region 1 with fail
 generalize w.alloc (.cells #[.int .i64 0, .string ⟨#[]⟩, .slice none 0 0] 24) = w0 at *
 obtain ⟨a0, a1, a2, af⟩ := A0.out.cells
 go_wp2_with fail
 refine bodyPost_ret (results_cell_row rfl _ _ (w.heap.size) 24 #[.int .i64 n, .string ⟨#[]⟩, .slice none 0 0] (0, 0) _ rfl (A0.out.fill n ⟨#[]⟩ (.slice none 0 0)) Tryd.underlying24 rfl (by kernel_rfl)) rfl ?_
 exact ⟨rfl, below_fill3 D0.out (Nat.le_refl _) _ _ _⟩
theorem named_any (w : World) (s : ByteArray) (ao : Option Addr) (l c : Nat) : Calls Tryd.prog 17 #[.string s, .slice ao l c] w fun e w' => e = .returned (.agg #[.int .i64 0, .string s, .slice ao l c]) ∧ Below w.heap.size w w' := by
 have D0 := hidden ((Below.refl w.heap.size w).alloc (Nat.le_refl _) (.cells #[.int .i64 0, .string ⟨#[]⟩, .slice none 0 0] 24))
 have A0 := hidden (B3.new w 0 ⟨#[]⟩ (.slice none 0 0))
 go_enter Tryd.func17, Tryd.ntmps17
 go_upto_region 1 with fail
 generalize w.alloc (.cells #[.int .i64 0, .string ⟨#[]⟩, .slice none 0 0] 24) = w0 at *
 obtain ⟨a0, a1, a2, af⟩ := A0.out.cells
 go_wp2_with fail
 refine bodyPost_ret (results_cell_row rfl _ _ (w.heap.size) 24 #[.int .i64 0, .string s, .slice ao l c] (0, 0) _ rfl (A0.out.fill 0 s (.slice ao l c)) Tryd.underlying24 rfl (by kernel_rfl)) rfl ?_
 exact ⟨rfl, below_fill3 D0.out (Nat.le_refl _) _ _ _⟩
theorem Only.toBelow {S : Nat → Prop} {w w' : World} (h : Only S w w') (hS : ∀ g, S g → w.heap.size ≤ g) : Below w.heap.size w w' := ⟨h.os, h.tape, h.output, h.size, fun k hk => h.block k hk (fun c => by have h9 := hS k c; omega)⟩
/-- What small tells. -/
def SmallAs (P : Nat → Prop) (V : Int) (s : ByteArray) (al : Option Addr) (len : Nat) (w : World) (e : Ending) (w' : World) : Prop := Below w.heap.size w w' ∧ (e = .returned (.bool false) ∨ ∃ L : List Rw, L.length = len ∧ RT P w' L al ∧ (Rw.mk V s.toList L).sz ≤ 2000 ∧ (Rw.mk V s.toList L).may = true ∧ Bd (.mk V s.toList L) ∧ e = .returned (.bool true))
theorem small_any {P : Nat → Prop} (w : World) (V : Int) (s : ByteArray) (al : Option Addr) (len cap : Nat) (h : TOk P w 2001 [.int .i64 V, .string s, .slice al len cap]) : Calls Tryd.prog 9 #[.agg #[.int .i64 V, .string s, .slice al len cap]] w fun e w' => SmallAs P V s al len w e w' := by
 have D0 := hidden ((Below.refl w.heap.size w).alloc (Nat.le_refl _) (.cells #[.int .i64 V, .string s, .slice al len cap] 24))
 have A0 := hidden (B3.new w V s (.slice al len cap))
 have H0 := hidden (TOk.below D0.out 2001 h)
 have HBD : Hid ((-9223372036854775808 ≤ V ∧ V ≤ 9223372036854775807) ∧ s.size ≤ maxLen) := by
  obtain ⟨k', s', al', len', cap', hcs, hV, hS, _⟩ := h
  simp only [List.cons.injEq, Value.int.injEq, Value.string.injEq, Value.slice.injEq, true_and, and_true] at hcs
  obtain ⟨rfl, rfl, rfl, rfl, rfl⟩ := hcs
  exact ⟨hV, hS⟩
 clear h
 go_enter Tryd.func9, Tryd.ntmps9
 go_upto_region 1 with fail
 generalize w.alloc (.cells #[.int .i64 V, .string s, .slice al len cap] 24) = w0 at *
 obtain ⟨a0, a1, a2, af⟩ := A0.out.cells
 have HC : Hid (Calls Tryd.prog 22 #[.agg #[.int .i64 V, .string s, .slice al len cap], .int .i64 2000] w0 fun e w' => CntT P al len 2000 w0 e w') := tcount_gen 2001 2000 (by omega) (by omega) w0 V s al len cap H0.out
 have hd := D0.out.size
 go_wp2_with fail
 refine HC.out.mono ?_
 rintro e w1 ⟨hb1, ⟨L, hl, hr, hc, rfl⟩ | rfl⟩
 ·have E1 := hidden (D0.out.trans (hb1.mono hd))
  have A1 := hidden (A0.out.below hb1 (Nat.le_refl _))
  have R1 := hidden hr
  obtain ⟨s', hs'⟩ : ∃ s' : ByteArray, s = s' := ⟨_, rfl⟩
  have es : (⟨s.toList.toArray⟩ : ByteArray) = s := by rw [Go.ByteArray.toList_eq]
  have hsz : (Rw.mk V s.toList L).sz = 1 + szRL L := sz_L _
  have HM0 := rmay (P := P) 2000 (.mk V s.toList L) (by rw [hsz]; exact hc) (by omega) w1 al cap hr
  simp only [Rw.V, Rw.S, Rw.L] at HM0
  rw [es, hl] at HM0
  obtain ⟨n, hn⟩ : ∃ n, 1 + szRL L = n := ⟨_, rfl⟩
  rw [hn] at hc hsz ⊢
  have HSZ := hidden hsz
  have HL := hidden hl
  have HBX : Hid (Bd (.mk V s.toList L)) := ⟨HBD.out.1.1, HBD.out.1.2, by show s.toList.length ≤ maxLen; rw [Go.ByteArray.toList_eq]; exact HBD.out.2⟩
  clear hb1 hr es hsz hl hn hs' a0 a1 a2 af
  obtain ⟨a0, a1, a2, af⟩ := A1.out.cells
  have zn : (n : Int) ≤ 2000 := by omega
  have h1 := E1.out.size
  cases hm : (Rw.mk V s.toList L).may with
  | true =>
   rw [hm] at HM0
   have HM := hidden hm
   have HR := hidden HM0
   clear hm HM0
   go_wp2_with fail
   refine HR.out.mono ?_
   rintro e w2 ⟨rfl, hb2⟩
   have E2 := hidden (E1.out.trans (hb2.mono h1))
   have R2 := hidden (R1.out.beneath hb2 (Nat.le_refl _))
   clear hb2 a0 a1 a2 af
   go_wp2_with fail
   go_ret
   exact ⟨E2.out, Or.inr ⟨L, HL.out, R2.out, by rw [HSZ.out]; omega, HM.out, HBX.out, rfl⟩⟩
  | false =>
   rw [hm] at HM0
   have HR := hidden HM0
   clear hm HM0
   go_wp2_with fail
   refine HR.out.mono ?_
   rintro e w2 ⟨rfl, hb2⟩
   have E2 := hidden (E1.out.trans (hb2.mono h1))
   clear hb2 a0 a1 a2 af
   go_wp2_with fail
   go_ret
   exact ⟨E2.out, Or.inl rfl⟩
 ·have E1 := hidden (D0.out.trans (hb1.mono hd))
  clear hb1 a0 a1 a2 af
  go_wp2_with fail
  go_ret
  exact ⟨E1.out, Or.inl rfl⟩
end Go.Proofs.YtnebhiaeechpaaaDoor
