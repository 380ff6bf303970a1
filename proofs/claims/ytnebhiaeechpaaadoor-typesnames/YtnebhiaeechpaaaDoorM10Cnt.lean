/-
 Layer 10: the document's Count of a type as it stands, over one that may go round: the type, if it is no greater than asked. No condition but that it is read.
-/
import Derived.Test.YtnebhiaeechpaaaDoorM10Mem
namespace Go.Proofs.YtnebhiaeechpaaaDoor
open Go.ChangeShapes Go.WideShapes Go.ChangeAt Go.RowKit Go.Deep
set_option linter.unusedVariables false
set_option linter.unusedSimpArgs false
set_option maxHeartbeats 2000000
theorem szRL_snoc : ∀ (l : List Rw) (y : Rw), szRL (l ++ [y]) = szRL l + y.sz
 | [], y => by simp [szRL]
 | x :: l, y => by
  rw [List.cons_append, szRL, szRL, szRL_snoc l y]
  omega
/-- What Count tells: the tree, or that it is too great. -/
def CntT (P : Nat → Prop) (al : Option Addr) (len m : Nat) (w : World) (e : Ending) (w' : World) : Prop := Below w.heap.size w w' ∧ ((∃ L : List Rw, L.length = len ∧ RT P w' L al ∧ 1 + szRL L ≤ m ∧ e = .returned (.int .i64 ((1 + szRL L : Nat) : Int))) ∨ e = .returned (.int .i64 ((m : Int) + 1)))
/-- How it stands while parts are counted. -/
def InTt (P : Nat → Prop) (al : Option Addr) (len m : Nat) (w0 : World) (mv iv : Value) (wr : World) : Prop := ∃ (i : Nat), i ≤ len ∧ iv = .int .i64 (i : Int) ∧ Below w0.heap.size w0 wr ∧ ((∃ T : List Rw, T.length = i ∧ RT P wr T al ∧ 1 + szRL T ≤ m ∧ mv = .int .i64 ((1 + szRL T : Nat) : Int)) ∨ mv = .int .i64 ((m : Int) + 1))
set_option maxRecDepth 20000 in
theorem tcount_gen {P : Nat → Prop} : ∀ (n m : Nat), m < n → m ≤ 20000 → ∀ (w : World) (k : Int) (s : ByteArray) (al : Option Addr) (len cap : Nat), TOk P w (m + 1) [.int .i64 k, .string s, .slice al len cap] →
  Calls Tryd.prog 22 #[.agg #[.int .i64 k, .string s, .slice al len cap], .int .i64 (m : Int)] w fun e w' => CntT P al len m w e w' := by
 intro n
 induction n with
 | zero => intro m h; omega
 | succ n ih =>
  intro m hmn hm w k s al len cap hok
  have IH := hidden ih
  obtain ⟨k', s', al', len', cap', hcs, hV, hS, hlen, hparts⟩ := hok
  simp only [List.cons.injEq, Value.int.injEq, Value.string.injEq, Value.slice.injEq, true_and, and_true] at hcs
  obtain ⟨rfl, rfl, rfl, rfl, rfl⟩ := hcs
  have HP := hidden hparts
  clear ih hparts
  have zl : (len : Int) ≤ 9223372036854775807 := by unfold maxLen at hlen; omega
  go_enter Tryd.func22, Tryd.ntmps22
  go_wp2_with fail
  have A0 := hidden (B3.new w k s (.slice al len cap))
  have D0 := hidden ((Below.refl w.heap.size w).alloc (Nat.le_refl _) (.cells #[.int .i64 k, .string s, .slice al len cap] 24))
  generalize w.alloc (.cells #[.int .i64 k, .string s, .slice al len cap] 24) = w0 at *
  go_loopw [5, 6] (fun mv iv wr => InTt P al len m w0 mv iv wr) (fun mv iv wr => (len - intOf iv).toNat)
  case atStart =>
   refine ⟨0, by omega, rfl, Below.refl _ _, ?_⟩
   rcases Nat.eq_zero_or_pos m with h | h
   ·subst h
    exact Or.inr rfl
   ·exact Or.inl ⟨[], rfl, rt_nil, by simp only [szRL]; omega, rfl⟩
  case round =>
   obtain ⟨i, i1, rfl, hbl, hT⟩ := hrel
   have BL := hidden hbl
   have hd := D0.out.size
   have he := hbl.size
   have A1 := hidden (A0.out.below hbl (Nat.le_refl _))
   have BW := hidden (D0.out.trans (hbl.mono hd))
   clear hbl
   obtain ⟨a0, a1, a2, af⟩ := A1.out.cells
   clear a0 a1 af
   rcases hT with ⟨T, hTl, hTr, hTc, rfl⟩ | rfl
   ·have HTr := hidden hTr
    have HTl := hidden hTl
    obtain ⟨ct, hct⟩ : ∃ ct, 1 + szRL T = ct := ⟨_, rfl⟩
    rw [hct] at hTc ⊢
    have HCT := hidden hct
    have hc1 : 1 ≤ ct := by omega
    have zq : (ct : Int) ≤ (m : Int) := by omega
    have zq2 : ¬ (m : Int) < (ct : Int) := by omega
    clear hTr hTl hct
    by_cases hlt : i < len
    ·have z1 : (i : Int) < (len : Int) := by omega
     have zi : (0 : Int) ≤ (i : Int) ∧ (i : Int) < (len : Int) := ⟨by omega, z1⟩
     obtain ⟨a, c0, c1, c2, rfl, qp, q1, q2, q3, q6⟩ := HP.out i hlt
     have Q6 := hidden (TOk.below BW.out m q6)
     have hb := BW.out.block _ (cell_ltT q1)
     have hc : ∀ o, wr.cell? ⟨(a.add (i * 3)).block, o, none⟩ = w.cell? ⟨(a.add (i * 3)).block, o, none⟩ := fun o => World.cell?_of_block (a := ⟨(a.add (i * 3)).block, o, none⟩) hb
     have hc0 : wr.cell? (a.add (i * 3)) = w.cell? (a.add (i * 3)) := World.cell?_of_block (a := a.add (i * 3)) hb
     rw [← hc0] at q1
     rw [← hc] at q2 q3
     obtain ⟨m1, hm1⟩ : ∃ m1, m = m1 + 1 := ⟨m - 1, by omega⟩
     have q7 := q6
     rw [hm1] at q7
     obtain ⟨k2, s2, al2, len2, cap2, hcs, hV2, hS2, _, _⟩ := q7
     simp only [List.cons.injEq, and_true] at hcs
     obtain ⟨rfl, rfl, rfl⟩ := hcs
     obtain ⟨m', hm'⟩ : ∃ m' : Nat, m = ct + m' := ⟨m - ct, by omega⟩
     have em : ((m' : Nat) : Int) = (m : Int) - (ct : Int) := by omega
     have HI := hidden (IH.out m' (by omega) (by omega) wr k2 s2 al2 len2 cap2 (TOk.mono (d := m) (by omega) Q6.out))
     rw [em] at HI
     have hm2 : m' ≤ 20000 := by omega
     have QP := hidden qp
     have Q1 := hidden q1
     have Q2 := hidden q2
     have Q3 := hidden q3
     have HV2 := hidden hV2
     have HS2 := hidden hS2
     have HM := hidden hm'
     have EM := hidden em
     clear qp q6 hb hc hc0 hm1 hm' em Q6 hV2 hS2
     go_wp2_with fail
     refine HI.out.mono ?_
     rintro e w6 ⟨hb6, ⟨L', hl1, hl2, hl3, rfl⟩ | rfl⟩
     ·have B6 := hidden hb6
      have HL2 := hidden hl2
      have HL1 := hidden hl1
      obtain ⟨c2, hc2⟩ : ∃ c2, 1 + szRL L' = c2 := ⟨_, rfl⟩
      rw [hc2] at hl3 ⊢
      have HC2 := hidden hc2
      clear hb6 hl2 hl1 hc2 q1 q2 q3
      go_wp2_with fail
      go_roundw
      case rel =>
       have k1 : (a.add (i * 3)).block < wr.heap.size := cell_ltT Q1.out
       have hb := B6.out.block _ k1
       have hc : ∀ o, w6.cell? ⟨(a.add (i * 3)).block, o, none⟩ = wr.cell? ⟨(a.add (i * 3)).block, o, none⟩ := fun o => World.cell?_of_block (a := ⟨(a.add (i * 3)).block, o, none⟩) hb
       have hc0 : w6.cell? (a.add (i * 3)) = wr.cell? (a.add (i * 3)) := World.cell?_of_block (a := a.add (i * 3)) hb
       have hh := HTl.out
       have g1 := HCT.out
       have g2 := HC2.out
       have g3 := HM.out
       refine ⟨i + 1, by omega, by go_num, BL.out.trans (B6.out.mono he), Or.inl ⟨T ++ [.mk k2 s2.data.toList L'], by simp [hh], ?_, ?_, ?_⟩⟩
       ·refine RT.snoc (al := al2) (cp := cap2) (HTr.out.beneath B6.out (Nat.le_refl _)) (by rw [hh]; exact QP.out) ?_ ?_ ?_ ⟨HV2.out.1, HV2.out.2, HS2.out⟩ HL2.out
        ·rw [hh, hc0]; exact Q1.out
        ·rw [hh, hc]; exact Q2.out
        ·rw [hh, hc]
         show _ = some (Value.slice al2 L'.length cap2)
         rw [HL1.out]
         exact Q3.out
       ·rw [szRL_snoc]
        show 1 + (szRL T + (1 + szRL L')) ≤ m
        omega
       ·rw [szRL_snoc]
        show _ = Value.int .i64 ((1 + (szRL T + (1 + szRL L')) : Nat) : Int)
        congr 1
        omega
      case measure => simp [intOf]; omega
     ·have B6 := hidden hb6
      clear hb6 q1 q2 q3
      go_wp2_with fail
      go_roundw
      case rel =>
       refine ⟨i + 1, by omega, by go_num, BL.out.trans (B6.out.mono he), Or.inr ?_⟩
       have g3 := HM.out
       congr 1
       omega
      case measure => simp [intOf]; omega
    ·have z1 : ¬ (i : Int) < (len : Int) := by omega
     go_wp2_with fail
     go_ret
     exact ⟨BW.out, Or.inl ⟨T, by rw [HTl.out]; omega, HTr.out, by rw [HCT.out]; exact hTc, by rw [HCT.out]; rfl⟩⟩
   ·have zq : (m : Int) < (m : Int) + 1 := by omega
    by_cases hlt : i < len
    ·have z1 : (i : Int) < (len : Int) := by omega
     go_wp2_with fail
     go_ret
     exact ⟨BW.out, Or.inr rfl⟩
    ·have z1 : ¬ (i : Int) < (len : Int) := by omega
     go_wp2_with fail
     go_ret
     exact ⟨BW.out, Or.inr rfl⟩
end Go.Proofs.YtnebhiaeechpaaaDoor
