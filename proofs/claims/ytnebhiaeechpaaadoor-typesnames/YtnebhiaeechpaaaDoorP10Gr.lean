/-
 Layer 10: the program's greatest and May, over a type in memory. Condition: it lies in memory.
-/
import Derived.Test.YtnebhiaeechpaaaDoorM10May
import Derived.Test.YtnebhiaeechpaaaDoorX10Hi
namespace Go.Proofs.YtnebhiaeechpaaaDoor
open Go.ChangeShapes Go.WideShapes Go.ChangeAt Go.RowKit Go.Deep
set_option linter.unusedVariables false
set_option linter.unusedSimpArgs false
set_option maxHeartbeats 2000000
set_option maxRecDepth 20000
theorem grL_take1 : ∀ {l : List Rw} {k : Nat} {t : Rw} {a : Int}, l[k]? = some t → grL (l.take (k + 1)) a = max (grL (l.take k) a) t.gr
 | [], k, t, a, h => by simp at h
 | y :: l, 0, t, a, h => by
  simp at h
  subst h
  rw [List.take_succ_cons, List.take_zero, List.take_zero, grL, grL, grL]
 | y :: l, k + 1, t, a, h => by
  rw [List.take_succ_cons, List.take_succ_cons, grL, grL]
  exact grL_take1 (by simpa using h)
def InGr (L : List Rw) (V : Int) (w0 : World) (vv iv : Value) (wr : World) : Prop := ∃ k : Nat, k ≤ L.length ∧ iv = .int .i64 (k : Int) ∧ vv = .int .i64 (grL (L.take k) V) ∧ Below w0.heap.size w0 wr
theorem pgr {P : Nat → Prop} : ∀ (n : Nat) (x : Rw), x.sz ≤ n → n ≤ 1000000 → ∀ (w : World) (ao : Option Addr) (c : Nat), RT P w x.L ao →
  Calls Tryd.prog 37 #[.agg #[.int .i64 x.V, .string ⟨x.S.toArray⟩, .slice ao x.L.length c]] w fun e w' => e = .returned (.int .i64 x.gr) ∧ Below w.heap.size w w' := by
 intro n
 induction n with
 | zero => intro x h; have := sz_L x; omega
 | succ n ih =>
  intro x hx hn w ao c hrt
  have hsl := sz_L x
  have hll := len_szRL x.L
  obtain ⟨V, S, L⟩ := x
  simp only [Rw.V, Rw.S, Rw.L] at hrt hsl hll ⊢
  rw [Rw.gr]
  have IH := hidden ih
  have X0 := hidden (hrt.alloc (.cells #[.int .i64 V, .string ⟨S.toArray⟩, .slice ao L.length c] 24))
  have A0 := hidden (B3.new w V ⟨S.toArray⟩ (.slice ao L.length c))
  have D0 := hidden ((Below.refl w.heap.size w).alloc (Nat.le_refl _) (.cells #[.int .i64 V, .string ⟨S.toArray⟩, .slice ao L.length c] 24))
  clear ih hrt
  go_enter Tryd.func37, Tryd.ntmps37
  go_upto_region 1 with fail
  generalize w.alloc (.cells #[.int .i64 V, .string ⟨S.toArray⟩, .slice ao L.length c] 24) = w0 at *
  obtain ⟨l, hl⟩ : ∃ l, L.length = l := ⟨_, rfl⟩
  rw [hl] at A0 hll ⊢
  have HL := hidden hl
  clear hl
  obtain ⟨a0, a1, a2, af⟩ := A0.out.cells
  clear a1 af
  go_wp2_with fail
  clear a0 a2
  go_loopw [3, 11] (fun vv iv wr => InGr L V w0 vv iv wr) (fun vv iv wr => (l - intOf iv).toNat)
  case atStart => exact ⟨0, Nat.zero_le _, rfl, by rw [List.take_zero, grL], Below.refl _ _⟩
  case round =>
   obtain ⟨k, k1, rfl, rfl, hbl⟩ := hrel
   rw [HL.out] at k1
   have BL := hidden hbl
   have hd := D0.out.size
   have he := hbl.size
   have X1 := X0.out.beneath hbl (Nat.le_refl _)
   obtain ⟨m, hm⟩ : ∃ m, grL (L.take k) V = m := ⟨_, rfl⟩
   rw [hm]
   have HM := hidden hm
   clear hbl hm
   by_cases hlt : k < l
   ·have z1 : (k : Int) < (l : Int) := by omega
    have zi : (0 : Int) ≤ (k : Int) ∧ (k : Int) < (l : Int) := ⟨by omega, z1⟩
    obtain ⟨t, ht⟩ : ∃ t, L[k]? = some t := ⟨_, List.getElem?_eq_getElem (by rw [HL.out]; exact hlt)⟩
    have htz := sz_part (List.mem_of_getElem? ht)
    obtain ⟨a, al, cp, rfl, t0, t1, t2, _, hr⟩ := rt_part X1 ht
    have R2 := hidden (hr.alloc (.cells #[.int .i64 t.V, .string ⟨t.S.toArray⟩, .slice al t.L.length cp] 24))
    have B2 := hidden (B3.new wr t.V ⟨t.S.toArray⟩ (.slice al t.L.length cp))
    have E2 := hidden ((Below.refl wr.heap.size wr).alloc (Nat.le_refl _) (.cells #[.int .i64 t.V, .string ⟨t.S.toArray⟩, .slice al t.L.length cp] 24))
    have HN := hidden (IH.out t (by omega) (by omega) _ al cp R2.out)
    have HT := hidden (grL_take1 (a := V) ht)
    rw [HM.out] at HT
    obtain ⟨g, hg⟩ : ∃ g, t.gr = g := ⟨_, rfl⟩
    rw [hg] at HN HT
    clear hr ht X1 hg
    go_upto_region 5 with fail
    generalize wr.alloc (.cells #[.int .i64 t.V, .string ⟨t.S.toArray⟩, .slice al t.L.length cp] 24) = w1 at *
    clear t0 t1 t2
    obtain ⟨b0, b1, b2, bf⟩ := B2.out.cells
    have h1 := E2.out.size
    by_cases hc : m < g
    ·have HX : Hid (max m g = g) := Int.max_eq_right (by omega)
     rw [HX.out] at HT
     go_wp2_with fail
     refine HN.out.mono ?_
     rintro e w2 ⟨rfl, hb2⟩
     have B6 := hidden hb2
     clear hb2 b0 b1 b2 bf
     go_wp2_with fail
     go_roundw
     case rel => exact ⟨k + 1, by rw [HL.out]; omega, by go_num, by rw [HT.out], BL.out.trans ((E2.out.trans (B6.out.mono h1)).mono he)⟩
     case measure => simp [intOf]; omega
    ·have HX : Hid (max m g = m) := Int.max_eq_left (by omega)
     rw [HX.out] at HT
     go_wp2_with fail
     refine HN.out.mono ?_
     rintro e w2 ⟨rfl, hb2⟩
     have B6 := hidden hb2
     clear hb2 b0 b1 b2 bf
     go_wp2_with fail
     go_roundw
     case rel => exact ⟨k + 1, by rw [HL.out]; omega, by go_num, by rw [HT.out], BL.out.trans ((E2.out.trans (B6.out.mono h1)).mono he)⟩
     case measure => simp [intOf]; omega
   ·have z1 : ¬ (k : Int) < (l : Int) := by omega
    have HF : Hid (grL L V = m) := by
     show _ = _
     have h9 := HM.out
     rw [List.take_of_length_le (by rw [HL.out]; omega)] at h9
     exact h9
    go_wp2_with fail
    go_ret
    exact ⟨by rw [HF.out]; rfl, D0.out.trans (BL.out.mono hd)⟩
theorem may_var {V : Int} (h : V ≠ 0) (S : List UInt8) (L : List Rw) : (Rw.mk V S L).may = (decide (0 < V) && (S == [] && decide (L.length = 0))) := by
 cases hm : (Rw.mk V S L).may with
 | true =>
  rcases may_parts hm with ⟨h1, h2, h3⟩ | ⟨h1, _⟩
  ·rw [h2, h3]; simp [h1]
  ·exact absurd h1 h
 | false =>
  by_cases c1 : 0 < V
  ·by_cases c2 : S = []
   ·by_cases c3 : L.length = 0
    ·have e4 : L = [] := List.length_eq_zero_iff.1 c3
     rw [Rw.may, c2, e4, mayL] at hm
     simp at hm
     omega
    ·simp [c3]
   ·simp [c2]
  ·simp [c1]
theorem may_name (S : List UInt8) (L : List Rw) : (Rw.mk 0 S L).may = (mayL L && (S != [])) := by
 rw [Rw.may]
 cases mayL L <;> cases h : S != [] <;> simp_all
def InMy (L : List Rw) (w0 : World) (iv : Value) (wr : World) : Prop := ∃ k : Nat, k ≤ L.length ∧ iv = .int .i64 (k : Int) ∧ (∀ (j : Nat) (x : Rw), j < k → L[j]? = some x → x.may = true) ∧ Below w0.heap.size w0 wr
theorem pmay {P : Nat → Prop} : ∀ (n : Nat) (x : Rw), x.sz ≤ n → n ≤ 1000000 → ∀ (w : World) (ao : Option Addr) (c : Nat), RT P w x.L ao →
  Calls Tryd.prog 26 #[.agg #[.int .i64 x.V, .string ⟨x.S.toArray⟩, .slice ao x.L.length c]] w fun e w' => e = .returned (.bool x.may) ∧ Below w.heap.size w w' := by
 intro n
 induction n with
 | zero => intro x h; have := sz_L x; omega
 | succ n ih =>
  intro x hx hn w ao c hrt
  have hsl := sz_L x
  have hll := len_szRL x.L
  obtain ⟨V, S, L⟩ := x
  simp only [Rw.V, Rw.S, Rw.L] at hrt hsl hll ⊢
  have IH := hidden ih
  have X := hidden hrt
  clear ih hrt
  obtain ⟨B, hB⟩ : ∃ B, (Rw.mk V S L).may = B := ⟨_, rfl⟩
  rw [hB]
  have HB := hidden hB
  clear hB
  obtain ⟨s, hs⟩ : ∃ s : ByteArray, ⟨S.toArray⟩ = s := ⟨_, rfl⟩
  have hsd : s.toList = S := by rw [← hs, Go.ByteArray.toList_eq]
  rw [hs]
  have HSD := hidden hsd
  clear hs hsd
  obtain ⟨l, hl⟩ : ∃ l, L.length = l := ⟨_, rfl⟩
  rw [hl] at hll ⊢
  have HL := hidden hl
  clear hl
  have D0 := hidden ((Below.refl w.heap.size w).alloc (Nat.le_refl _) (.cells #[.int .i64 V, .string s, .slice ao l c] 24))
  have A0 := hidden (B3.new w V s (.slice ao l c))
  have X0 := hidden (X.out.alloc (.cells #[.int .i64 V, .string s, .slice ao l c] 24))
  clear X
  go_enter Tryd.func26, Tryd.ntmps26
  go_upto_region 1 with fail
  generalize w.alloc (.cells #[.int .i64 V, .string s, .slice ao l c] 24) = w0 at *
  obtain ⟨a0, a1, a2, af⟩ := A0.out.cells
  by_cases c0 : V = 0
  ·subst c0
   have HE : Hid (B = (mayL L && (S != []))) := by show _ = _; rw [← HB.out, may_name]
   clear HB
   go_wp2_with fail
   go_loopw [25] (fun iv wr => InMy L w0 iv wr) (fun iv wr => (l - intOf iv).toNat)
   case atStart => exact ⟨0, by omega, rfl, fun j x h => by omega, Below.refl _ _⟩
   case round =>
    obtain ⟨k, k1, rfl, hj, hbl⟩ := hrel
    rw [HL.out] at k1
    have HJ := hidden hj
    have A1 := hidden (A0.out.below hbl (Nat.le_refl _))
    have X1 := X0.out.beneath hbl (Nat.le_refl _)
    have BL := hidden hbl
    have hd := D0.out.size
    have he := hbl.size
    clear hbl hj a0 a1 a2 af
    by_cases hlt : k < l
    ·have z1 : (k : Int) < (l : Int) := by omega
     have zi : (0 : Int) ≤ (k : Int) ∧ (k : Int) < (l : Int) := ⟨by omega, z1⟩
     obtain ⟨t, ht⟩ : ∃ t, L[k]? = some t := ⟨_, List.getElem?_eq_getElem (by rw [HL.out]; exact hlt)⟩
     have htz := sz_part (List.mem_of_getElem? ht)
     obtain ⟨a, al, cp, rfl, t0, t1, t2, _, hr⟩ := rt_part X1 ht
     have R2 := hidden (hr.alloc (.cells #[.int .i64 t.V, .string ⟨t.S.toArray⟩, .slice al t.L.length cp] 24))
     have B2 := hidden (B3.new wr t.V ⟨t.S.toArray⟩ (.slice al t.L.length cp))
     have E2 := hidden ((Below.refl wr.heap.size wr).alloc (Nat.le_refl _) (.cells #[.int .i64 t.V, .string ⟨t.S.toArray⟩, .slice al t.L.length cp] 24))
     have HN := hidden (IH.out t (by omega) (by omega) _ al cp R2.out)
     have HT := hidden ht
     clear hr ht X1
     go_upto_region 6 with fail
     generalize wr.alloc (.cells #[.int .i64 t.V, .string ⟨t.S.toArray⟩, .slice al t.L.length cp] 24) = w1 at *
     clear t0 t1 t2
     obtain ⟨b0, b1, b2, bf⟩ := B2.out.cells
     have h1 := E2.out.size
     cases hm : t.may with
     | true =>
      rw [hm] at HN
      have HM := hidden hm
      clear hm
      go_wp2_with fail
      refine HN.out.mono ?_
      rintro e w2 ⟨rfl, hb2⟩
      have B6 := hidden hb2
      clear hb2 b0 b1 b2 bf
      go_wp2_with fail
      go_roundw
      case rel =>
       refine ⟨k + 1, by rw [HL.out]; omega, by go_num, fun j x hj hx => ?_, BL.out.trans ((E2.out.trans (B6.out.mono h1)).mono he)⟩
       by_cases e : j = k
       ·subst e
        rw [HT.out] at hx
        cases hx
        exact HM.out
       ·exact HJ.out j x (by omega) hx
      case measure => simp [intOf]; omega
     | false =>
      rw [hm] at HN
      have HF : Hid (B = false) := by show _ = _; rw [HE.out, mayL_at HT.out hm]; rfl
      clear hm
      go_wp2_with fail
      refine HN.out.mono ?_
      rintro e w2 ⟨rfl, hb2⟩
      have B6 := hidden (D0.out.trans ((BL.out.trans ((E2.out.trans (hb2.mono h1)).mono he)).mono hd))
      clear hb2 b0 b1 b2 bf
      go_wp2_with fail
      go_ret
      exact ⟨by rw [HF.out]; rfl, B6.out⟩
    ·have z1 : ¬ (k : Int) < (l : Int) := by omega
     have HF : Hid (mayL L = true) := mayL_all (fun j x hx => HJ.out j x (by have h9 := (List.getElem?_eq_some_iff.1 hx).1; rw [HL.out] at h9; omega) hx)
     clear X1
     obtain ⟨a0, a1, a2, af⟩ := A1.out.cells
     cases hS : (S != []) with
     | true =>
      have z2 : ¬ s.toList = [] := by rw [HSD.out]; simpa using hS
      have HG : Hid (B = true) := by show _ = _; rw [HE.out, HF.out, hS]; rfl
      clear hS
      have c7 : s.toList.isEmpty = false := by simpa using z2
      go_wp2_with fail
      go_ret
      exact ⟨by rw [HG.out]; rfl, D0.out.trans (BL.out.mono hd)⟩
     | false =>
      have z2 : s.toList = [] := by rw [HSD.out]; simpa using hS
      have HG : Hid (B = false) := by show _ = _; rw [HE.out, HF.out, hS]; rfl
      clear hS
      have c7 : s.toList.isEmpty = true := by simpa using z2
      go_wp2_with fail
      go_ret
      exact ⟨by rw [HG.out]; rfl, D0.out.trans (BL.out.mono hd)⟩
  ·have HE : Hid (B = (decide (0 < V) && (S == [] && decide (L.length = 0)))) := by show _ = _; rw [← HB.out, may_var c0]
   have z0 : (V == 0) = false := beq_eq_false_iff_ne.2 c0
   have z9 : (V != 0) = true := bne_iff_ne.2 c0
   rw [HL.out, ← HSD.out] at HE
   clear HB c0
   by_cases c1 : 0 < V
   ·by_cases c2 : s.toList = []
    ·have c7 : s.toList.isEmpty = true := by simpa using c2
     by_cases c3 : l = 0
     ·subst c3
      have HG : Hid (B = true) := by show _ = _; rw [HE.out]; simp [c1, c2]
      clear HE
      go_wp2_with fail
      go_ret
      exact ⟨by rw [HG.out]; rfl, D0.out⟩
     ·have HG : Hid (B = false) := by show _ = _; rw [HE.out]; simp [c3]
      have z3 : ((l : Int) == 0) = false := beq_eq_false_iff_ne.2 (by omega)
      clear HE c3
      go_wp2_with fail
      go_ret
      exact ⟨by rw [HG.out]; rfl, D0.out⟩
    ·have c7 : s.toList.isEmpty = false := by simpa using c2
     have HG : Hid (B = false) := by show _ = _; rw [HE.out]; simp [c2]
     clear HE
     go_wp2_with fail
     go_ret
     exact ⟨by rw [HG.out]; rfl, D0.out⟩
   ·have HG : Hid (B = false) := by show _ = _; rw [HE.out]; simp [c1]
    clear HE
    go_wp2_with fail
    go_ret
    exact ⟨by rw [HG.out]; rfl, D0.out⟩
end Go.Proofs.YtnebhiaeechpaaaDoor
