/-
 Layer 10: the document's May, over a type in memory. Condition: it lies in memory.
-/
import Derived.Test.YtnebhiaeechpaaaDoorM10Mem
namespace Go.Proofs.YtnebhiaeechpaaaDoor
open Go.ChangeShapes Go.WideShapes Go.ChangeAt Go.RowKit Go.Deep
set_option linter.unusedVariables false
set_option linter.unusedSimpArgs false
set_option maxHeartbeats 2000000
set_option maxRecDepth 20000

theorem mayL_at : ∀ {l : List Rw} {k : Nat} {x : Rw}, l[k]? = some x → x.may = false → mayL l = false
 | [], k, x, h, _ => by simp at h
 | y :: l, 0, x, h, hm => by
  simp at h
  subst h
  rw [mayL, hm]
  rfl
 | y :: l, k + 1, x, h, hm => by
  rw [mayL, mayL_at (l := l) (k := k) (by simpa using h) hm, Bool.and_false]
theorem mayL_all : ∀ {l : List Rw}, (∀ (k : Nat) (x : Rw), l[k]? = some x → x.may = true) → mayL l = true
 | [], _ => by rw [mayL]
 | y :: l, h => by rw [mayL, h 0 y rfl, mayL_all (l := l) (fun k x hk => h (k + 1) x (by simpa using hk))]; rfl
theorem sz_L (x : Rw) : x.sz = 1 + szRL x.L := by cases x; rw [Rw.sz]; rfl
theorem len_szRL : ∀ l : List Rw, l.length ≤ szRL l
 | [] => Nat.le_refl _
 | x :: l => by
  have := len_szRL l
  have := sz_L x
  rw [szRL, List.length_cons]
  omega
theorem rt_part {P : Nat → Prop} {w : World} {L : List Rw} {ao : Option Addr} (h : RT P w L ao) {k : Nat} {t : Rw} (ht : L[k]? = some t) : ∃ (a : Addr) (al : Option Addr) (cp : Nat), ao = some a ∧ w.cell? (a.add (k * 3)) = some (.int .i64 t.V) ∧ w.cell? ⟨(a.add (k * 3)).block, (a.add (k * 3)).off + 1, none⟩ = some (.string ⟨t.S.toArray⟩) ∧ w.cell? ⟨(a.add (k * 3)).block, (a.add (k * 3)).off + 2, none⟩ = some (.slice al t.L.length cp) ∧ (-9223372036854775808 ≤ t.V ∧ t.V ≤ 9223372036854775807 ∧ t.S.length ≤ maxLen) ∧ RT P w t.L al := by
 obtain ⟨aos, cps, hh, hv, hr⟩ := h
 obtain ⟨a, e, _, h0, h1, h2⟩ := hh k t ht
 exact ⟨a, aos k, cps k, e, h0, h1, h2, hv k t ht, hr k t ht⟩
def InM10 (L : List Rw) (w0 : World) (iv : Value) (wr : World) : Prop := ∃ k : Nat, k ≤ L.length ∧ iv = .int .i64 (k : Int) ∧ (∀ (j : Nat) (x : Rw), j < k → L[j]? = some x → x.may = true) ∧ Below w0.heap.size w0 wr
theorem rmay {P : Nat → Prop} : ∀ (n : Nat) (x : Rw), x.sz ≤ n → n ≤ 1000000 → ∀ (w : World) (ao : Option Addr) (c : Nat), RT P w x.L ao →
  Calls Tryd.prog 23 #[.agg #[.int .i64 x.V, .string ⟨x.S.toArray⟩, .slice ao x.L.length c]] w fun e w' => e = .returned (.bool x.may) ∧ Below w.heap.size w w' := by
 intro n
 induction n with
 | zero => intro x h; have := sz_L x; omega
 | succ n ih =>
  intro x hx hn w ao c hrt
  have hsl := sz_L x
  have hll := len_szRL x.L
  obtain ⟨V, S, L⟩ := x
  simp only [Rw.V, Rw.S, Rw.L] at hrt hsl hll ⊢
  have IH := hidden ih
  have X := hidden hrt
  clear ih hrt
  obtain ⟨B, hB⟩ : ∃ B, (Rw.mk V S L).may = B := ⟨_, rfl⟩
  rw [hB]
  have HB := hidden hB
  clear hB
  obtain ⟨s, hs⟩ : ∃ s : ByteArray, ⟨S.toArray⟩ = s := ⟨_, rfl⟩
  have hsd : s.toList = S := by rw [← hs, Go.ByteArray.toList_eq]
  rw [hs]
  have HSD := hidden hsd
  clear hs hsd
  obtain ⟨l, hl⟩ : ∃ l, L.length = l := ⟨_, rfl⟩
  rw [hl] at hll ⊢
  have HL := hidden hl
  clear hl
  have D0 := hidden ((Below.refl w.heap.size w).alloc (Nat.le_refl _) (.cells #[.int .i64 V, .string s, .slice ao l c] 24))
  have A0 := hidden (B3.new w V s (.slice ao l c))
  have X0 := hidden (X.out.alloc (.cells #[.int .i64 V, .string s, .slice ao l c] 24))
  clear X
  have cs : (B = false ∧ (V < 0 ∨ (0 < V ∧ ¬ s.toList = []) ∨ (0 < V ∧ s.toList = [] ∧ 0 < l) ∨ (V = 0 ∧ s.toList = []))) ∨ ((0 < V ∧ s.toList = [] ∧ l = 0 ∧ B = true) ∨ (V = 0 ∧ ¬ s.toList = [] ∧ B = mayL L)) := by
   rw [HSD.out, ← HL.out, ← HB.out]
   cases hm : (Rw.mk V S L).may with
   | true =>
    rcases may_parts hm with ⟨h1, h2, h3⟩ | ⟨h1, h2, h3⟩
    ·exact Or.inr (Or.inl ⟨h1, h2, by rw [h3]; rfl, rfl⟩)
    ·exact Or.inr (Or.inr ⟨h1, h2, h3.symm⟩)
   | false =>
    by_cases c1 : V < 0
    ·exact Or.inl ⟨rfl, Or.inl c1⟩
    ·by_cases c2 : 0 < V
     ·by_cases c3 : S = []
      ·by_cases c4 : 0 < L.length
       ·exact Or.inl ⟨rfl, Or.inr (Or.inr (Or.inl ⟨c2, c3, c4⟩))⟩
       ·exfalso
        have e4 : L = [] := List.length_eq_zero_iff.1 (by omega)
        rw [Rw.may, c3, e4, mayL] at hm
        simp at hm
        omega
      ·exact Or.inl ⟨rfl, Or.inr (Or.inl ⟨c2, c3⟩)⟩
     ·have e0 : V = 0 := by omega
      by_cases c3 : S = []
      ·exact Or.inl ⟨rfl, Or.inr (Or.inr (Or.inr ⟨e0, c3⟩))⟩
      ·refine Or.inr (Or.inr ⟨e0, c3, ?_⟩)
       rw [Rw.may, e0] at hm
       simpa [c3] using hm.symm
  go_enter Tryd.func23, Tryd.ntmps23
  go_upto_region 1 with fail
  generalize w.alloc (.cells #[.int .i64 V, .string s, .slice ao l c] 24) = w0 at *
  obtain ⟨a0, a1, a2, af⟩ := A0.out.cells
  rcases cs with ⟨hb, cs⟩ | ⟨c1, c2, c3, hb⟩ | ⟨c1, c2, hb⟩
  ·subst hb
   rcases cs with c1 | ⟨c1, c2⟩ | ⟨c1, c2, c3⟩ | ⟨c1, c2⟩
   all_goals
    (try have c4 : ¬ V < 0 := by omega)
    (try have c5 : (0 : Int) < (l : Int) := by omega)
    (try subst c1)
    go_wp2_with fail
    go_ret
    exact ⟨rfl, D0.out⟩
  ·subst hb c3
   have c4 : ¬ V < 0 := by omega
   have c5 : ¬ V = 0 := by omega
   have c6 : (V == 0) = false := beq_eq_false_iff_ne.2 c5
   go_wp2_with fail
   go_loopw [3] (fun iv wr => InM10 [] w0 iv wr) (fun iv wr => (0 - intOf iv).toNat)
   case atStart => exact ⟨0, Nat.le_refl _, rfl, fun j x h => by omega, Below.refl _ _⟩
   case round =>
    obtain ⟨k, k1, rfl, _, hbl⟩ := hrel
    have A1 := hidden (A0.out.below hbl (Nat.le_refl _))
    have BW := hidden (D0.out.trans (hbl.mono D0.out.size))
    clear hbl a0 a1 a2 af
    obtain ⟨a0, a1, a2, af⟩ := A1.out.cells
    have z1 : ¬ (k : Int) < 0 := by omega
    go_wp2_with fail
    go_ret
    exact ⟨rfl, BW.out⟩
  ·subst c1
   have HBL := hidden hb
   have c7 : s.toList.isEmpty = false := by simpa using c2
   clear hb HB
   go_wp2_with fail
   go_loopw [3] (fun iv wr => InM10 L w0 iv wr) (fun iv wr => (l - intOf iv).toNat)
   case atStart => exact ⟨0, by omega, rfl, fun j x h => by omega, Below.refl _ _⟩
   case round =>
    obtain ⟨k, k1, rfl, hj, hbl⟩ := hrel
    rw [HL.out] at k1
    have HJ := hidden hj
    have A1 := hidden (A0.out.below hbl (Nat.le_refl _))
    have X1 := X0.out.beneath hbl (Nat.le_refl _)
    have BL := hidden hbl
    have hd := D0.out.size
    have he := hbl.size
    clear hbl hj a0 a1 a2 af
    obtain ⟨a0, a1, a2, af⟩ := A1.out.cells
    by_cases hlt : k < l
    ·have z1 : (k : Int) < (l : Int) := by omega
     have zi : (0 : Int) ≤ (k : Int) ∧ (k : Int) < (l : Int) := ⟨by omega, z1⟩
     obtain ⟨t, ht⟩ : ∃ t, L[k]? = some t := ⟨_, List.getElem?_eq_getElem (by rw [HL.out]; exact hlt)⟩
     have htz := sz_part (List.mem_of_getElem? ht)
     obtain ⟨a, al, cp, rfl, t0, t1, t2, _, hr⟩ := rt_part X1 ht
     have HI := hidden (IH.out t (by omega) (by omega) wr al cp hr)
     have HT := hidden ht
     clear hr ht X1 a0 a1 af
     cases hm : t.may with
     | true =>
      rw [hm] at HI
      have HM := hidden hm
      clear hm
      go_wp2_with fail
      refine HI.out.mono ?_
      rintro e w6 ⟨rfl, hb6⟩
      have B6 := hidden hb6
      clear hb6
      go_wp2_with fail
      go_roundw
      case rel =>
       refine ⟨k + 1, by rw [HL.out]; omega, by go_num, fun j x hj hx => ?_, BL.out.trans (B6.out.mono he)⟩
       by_cases e : j = k
       ·subst e
        rw [HT.out] at hx
        cases hx
        exact HM.out
       ·exact HJ.out j x (by omega) hx
      case measure => simp [intOf]; omega
     | false =>
      rw [hm] at HI
      have HF : Hid (B = false) := by show _ = _; rw [HBL.out]; exact mayL_at HT.out hm
      clear hm
      go_wp2_with fail
      refine HI.out.mono ?_
      rintro e w6 ⟨rfl, hb6⟩
      have B6 := hidden (D0.out.trans ((BL.out.trans (hb6.mono he)).mono hd))
      clear hb6
      go_wp2_with fail
      go_ret
      exact ⟨by rw [HF.out]; rfl, B6.out⟩
    ·have z1 : ¬ (k : Int) < (l : Int) := by omega
     have HF : Hid (B = true) := by
      show _ = _
      rw [HBL.out]
      exact mayL_all (fun j x hx => HJ.out j x (by have h9 := (List.getElem?_eq_some_iff.1 hx).1; rw [HL.out] at h9; omega) hx)
     clear X1
     go_wp2_with fail
     go_ret
     exact ⟨by rw [HF.out]; rfl, D0.out.trans (BL.out.mono hd)⟩
end Go.Proofs.YtnebhiaeechpaaaDoor
