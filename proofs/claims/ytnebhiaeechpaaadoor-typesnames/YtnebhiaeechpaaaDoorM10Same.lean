/-
 Layer 10: the document's Same, over two types in memory: true just if they are the same. Condition: they lie in memory.
-/
import Derived.Test.YtnebhiaeechpaaaDoorM10May
namespace Go.Proofs.YtnebhiaeechpaaaDoor
open Go.ChangeShapes Go.WideShapes Go.ChangeAt Go.RowKit Go.Deep
set_option linter.unusedVariables false
set_option linter.unusedSimpArgs false
set_option maxHeartbeats 4000000
set_option maxRecDepth 20000

theorem drew_below10 (w : World) : Below w.heap.size w w.drew := ⟨rfl, rfl, rfl, Nat.le_refl _, fun _ _ => rfl⟩
theorem cell_on10 {w w' : World} {a : Addr} {v : Value} (hb : Below w.drew.heap.size w.drew w') (h : w.cell? a = some v) : w'.cell? a = some v := by
 have e : w'.heap[a.block]? = w.heap[a.block]? := hb.block a.block (cell_ltT h)
 rw [← h]
 exact World.cell?_of_block (a := a) e
theorem list_eq {l l' : List Rw} (hl : l.length = l'.length) (h : ∀ (k : Nat) (x y : Rw), l[k]? = some x → l'[k]? = some y → x = y) : l = l' := by
 refine List.ext_getElem? (fun k => ?_)
 rcases Nat.lt_or_ge k l.length with c | c
 ·rw [List.getElem?_eq_getElem c, List.getElem?_eq_getElem (show k < l'.length by omega)]
  exact congrArg some (h k _ _ (List.getElem?_eq_getElem c) (List.getElem?_eq_getElem (by omega)))
 ·rw [List.getElem?_eq_none c, List.getElem?_eq_none (by omega)]
/-- It tells true just if they are the same. -/
def SameAs (x y : Rw) (w : World) (e : Ending) (w' : World) : Prop := ∃ b : Bool, e = .returned (.bool b) ∧ (b = true ↔ x = y) ∧ Below w.heap.size w w'
def InS10 (L L' : List Rw) (w0 : World) (iv : Value) (wr : World) : Prop := ∃ k : Nat, k ≤ L.length ∧ iv = .int .i64 (k : Int) ∧ (∀ (j : Nat) (x y : Rw), j < k → L[j]? = some x → L'[j]? = some y → x = y) ∧ Below w0.heap.size w0 wr
theorem rsame10 {P P' : Nat → Prop} : ∀ (n : Nat) (x y : Rw), x.sz ≤ n → n ≤ 1000000 → ∀ (w : World) (ao bo : Option Addr) (c d : Nat), RT P w x.L ao → RT P' w y.L bo →
  Calls Tryd.prog 14 #[.agg #[.int .i64 x.V, .string ⟨x.S.toArray⟩, .slice ao x.L.length c], .agg #[.int .i64 y.V, .string ⟨y.S.toArray⟩, .slice bo y.L.length d]] w fun e w' => SameAs x y w e w' := by
 intro n
 induction n with
 | zero => intro x y h; have := sz_L x; omega
 | succ n ih =>
  intro x y hx hn w ao bo c d hrt hrt'
  have hsl := sz_L x
  have hll := len_szRL x.L
  obtain ⟨V, S, L⟩ := x
  obtain ⟨V', S', L'⟩ := y
  simp only [Rw.V, Rw.S, Rw.L] at hrt hrt' hsl hll ⊢
  have IH := hidden ih
  have X := hidden hrt
  have Y := hidden hrt'
  clear ih hrt hrt'
  obtain ⟨s, hs⟩ : ∃ s : ByteArray, ⟨S.toArray⟩ = s := ⟨_, rfl⟩
  obtain ⟨s', hs'⟩ : ∃ s : ByteArray, ⟨S'.toArray⟩ = s := ⟨_, rfl⟩
  have hsd : s.toList = S := by rw [← hs, Go.ByteArray.toList_eq]
  have hsd' : s'.toList = S' := by rw [← hs', Go.ByteArray.toList_eq]
  rw [hs, hs']
  have HSD := hidden hsd
  have HSD' := hidden hsd'
  clear hs hsd hs' hsd'
  obtain ⟨l, hl⟩ : ∃ l, L.length = l := ⟨_, rfl⟩
  obtain ⟨l', hl'⟩ : ∃ l, L'.length = l := ⟨_, rfl⟩
  rw [hl] at hll
  rw [hl, hl']
  have HL := hidden hl
  have HL' := hidden hl'
  clear hl hl'
  by_cases cV : V = V'
  ·subst cV
   by_cases cS : S = S'
   ·subst cS
    have cs : s.toList = s'.toList := by rw [HSD.out, HSD'.out]
    have ces : s = s' := by
     have h9 := cs
     rw [Go.ByteArray.toList_eq, Go.ByteArray.toList_eq] at h9
     exact ByteArray.ext (Array.ext' h9)
    subst ces
    clear cs
    by_cases cl : l = l'
    ·subst cl
     go_enter Tryd.func14, Tryd.ntmps14
     go_upto_region 1 with fail
     have A0 := hidden ((B3.new w V s (.slice ao l c)).alloc (.cells #[.int .i64 V, .string s, .slice bo l d] 24))
     have C0 : Hid (B3 ((w.alloc (.cells #[.int .i64 V, .string s, .slice ao l c] 24)).alloc (.cells #[.int .i64 V, .string s, .slice bo l d] 24)) (w.heap.size + 1) V s (.slice bo l d)) := by
      show _ = _
      rw [← nblk_alloc w (.cells #[.int .i64 V, .string s, .slice ao l c] 24)]
      exact blk_alloc_new _ _
     have D0 : Hid (Below w.heap.size w ((w.alloc (.cells #[.int .i64 V, .string s, .slice ao l c] 24)).alloc (.cells #[.int .i64 V, .string s, .slice bo l d] 24))) := ((Below.refl _ _).alloc (Nat.le_refl _) _).alloc (by simp) _
     have X0 := hidden ((X.out.alloc (.cells #[.int .i64 V, .string s, .slice ao l c] 24)).alloc (.cells #[.int .i64 V, .string s, .slice bo l d] 24))
     have Y0 := hidden ((Y.out.alloc (.cells #[.int .i64 V, .string s, .slice ao l c] 24)).alloc (.cells #[.int .i64 V, .string s, .slice bo l d] 24))
     clear X Y
     generalize (w.alloc (.cells #[.int .i64 V, .string s, .slice ao l c] 24)).alloc (.cells #[.int .i64 V, .string s, .slice bo l d] 24) = w0 at *
     obtain ⟨a0, a1, a2, af⟩ := A0.out.cells
     obtain ⟨b0, b1, b2, bf⟩ := C0.out.cells
     go_wp2_with fail
     go_loopw [5] (fun iv wr => InS10 L L' w0 iv wr) (fun iv wr => (l - intOf iv).toNat)
     case atStart => exact ⟨0, by omega, rfl, fun j x y h => by omega, Below.refl _ _⟩
     case round =>
      obtain ⟨k, k1, rfl, hj, hbl⟩ := hrel
      rw [HL.out] at k1
      have HJ := hidden hj
      have A1 := hidden (A0.out.below hbl (Nat.le_refl _))
      have C1 := hidden (C0.out.below hbl (Nat.le_refl _))
      have X1 := X0.out.beneath hbl (Nat.le_refl _)
      have Y1 := Y0.out.beneath hbl (Nat.le_refl _)
      have BL := hidden hbl
      have hd := D0.out.size
      have he := hbl.size
      clear hbl hj a0 a1 a2 af b0 b1 b2 bf
      obtain ⟨a0, a1, a2, af⟩ := A1.out.cells
      obtain ⟨b0, b1, b2, bf⟩ := C1.out.cells
      by_cases hlt : k < l
      ·have z1 : (k : Int) < (l : Int) := by omega
       have zi : (0 : Int) ≤ (k : Int) ∧ (k : Int) < (l : Int) := ⟨by omega, z1⟩
       obtain ⟨t, ht⟩ : ∃ t, L[k]? = some t := ⟨_, List.getElem?_eq_getElem (by rw [HL.out]; exact hlt)⟩
       obtain ⟨u, hu⟩ : ∃ u, L'[k]? = some u := ⟨_, List.getElem?_eq_getElem (by rw [HL'.out]; exact hlt)⟩
       have htz := sz_part (List.mem_of_getElem? ht)
       obtain ⟨a, al, cp, rfl, t0, t1, t2, _, hr⟩ := rt_part X1 ht
       obtain ⟨a', al', cp', rfl, u0, u1, u2, _, hr'⟩ := rt_part Y1 hu
       have HI := hidden (fun w r r' => IH.out t u (by omega) (by omega) w al al' cp cp' r r')
       have HT := hidden ht
       have HU := hidden hu
       have R1 := hidden hr
       have R1' := hidden hr'
       clear hr hr' ht hu X1 Y1 a0 a1 af b0 b1 bf
       go_wp2_with fail
       go_region_held3 (fun w' => w'.cell? ⟨w.heap.size, 2, none⟩ = some (.slice (some a) l c) ∧ w'.cell? ⟨w.heap.size + 1, 2, none⟩ = some ((.slice (some a') l d)) ∧ w'.cell? (a.add (k * 3)) = some (.int .i64 t.V) ∧ w'.cell? ⟨(a.add (k * 3)).block, (a.add (k * 3)).off + 1, none⟩ = some (.string ⟨t.S.toArray⟩) ∧ w'.cell? ⟨(a.add (k * 3)).block, (a.add (k * 3)).off + 2, none⟩ = some (.slice al t.L.length cp) ∧ w'.cell? (a'.add (k * 3)) = some (.int .i64 u.V) ∧ w'.cell? ⟨(a'.add (k * 3)).block, (a'.add (k * 3)).off + 1, none⟩ = some (.string ⟨u.S.toArray⟩) ∧ w'.cell? ⟨(a'.add (k * 3)).block, (a'.add (k * 3)).off + 2, none⟩ = some ((.slice al' u.L.length cp'))) (go_keep) (first | (go_at_call 14; refine (HI.out _ (R1.out.beneath (drew_below10 wr) (Nat.le_refl _)) (R1'.out.beneath (drew_below10 wr) (Nat.le_refl _))).mono ?_; rintro e w6 ⟨b, rfl, hbi, hb6⟩; have B6 := hidden hb6; have HBI := hidden hbi; have n0 := cell_on10 hb6 a2; have n1 := cell_on10 hb6 b2; have n2 := cell_on10 hb6 t0; have n3 := cell_on10 hb6 t1; have n4 := cell_on10 hb6 t2; have n5 := cell_on10 hb6 u0; have n6 := cell_on10 hb6 u1; have n7 := cell_on10 hb6 u2; clear hb6 hbi))
       clear n0 n1 n2 n3 n4 n5 n6 n7 a2 b2 t0 t1 t2 u0 u1 u2
       cases b with
       | true =>
        go_wp2_with fail
        go_roundw
        case rel =>
         refine ⟨k + 1, by rw [HL.out]; omega, by go_num, fun j x y hj hx hy => ?_, BL.out.trans (((drew_below10 wr).trans B6.out).mono he)⟩
         by_cases e : j = k
         ·subst e
          rw [HT.out] at hx
          rw [HU.out] at hy
          cases hx
          cases hy
          exact HBI.out.1 rfl
         ·exact HJ.out j x y (by omega) hx hy
        case measure => simp [intOf]; omega
       | false =>
        have HN : Hid (¬ L = L') := fun e => by
         have h9 := HU.out
         rw [← e, HT.out] at h9
         have h8 := HBI.out.2 (Option.some.inj h9)
         cases h8
        go_wp2_with fail
        go_ret
        exact ⟨false, rfl, ⟨(fun h => by cases h), (fun h => absurd (Rw.mk.inj h).2.2 HN.out)⟩, D0.out.trans ((BL.out.trans (((drew_below10 wr).trans B6.out).mono he)).mono hd)⟩
      ·have z1 : ¬ (k : Int) < (l : Int) := by omega
       have HE : Hid (L = L') := list_eq (by rw [HL.out, HL'.out]) (fun j x y hx hy => HJ.out j x y (by have h9 := (List.getElem?_eq_some_iff.1 hx).1; rw [HL.out] at h9; omega) hx hy)
       clear X1 Y1
       go_wp2_with fail
       go_ret
       exact ⟨true, rfl, ⟨(fun _ => by rw [HE.out]), (fun _ => rfl)⟩, D0.out.trans (BL.out.mono hd)⟩
    ·have z1 : ((l : Int) != (l' : Int)) = true := by rw [bne_iff_ne]; omega
     have HN : Hid (¬ L = L') := fun e => cl (by rw [← HL.out, ← HL'.out, e])
     clear cl
     go_enter Tryd.func14, Tryd.ntmps14
     go_upto_region 1 with fail
     have A0 := hidden ((B3.new w V s (.slice ao l c)).alloc (.cells #[.int .i64 V, .string s, .slice bo l' d] 24))
     have C0 : Hid (B3 ((w.alloc (.cells #[.int .i64 V, .string s, .slice ao l c] 24)).alloc (.cells #[.int .i64 V, .string s, .slice bo l' d] 24)) (w.heap.size + 1) V s (.slice bo l' d)) := by
      show _ = _
      rw [← nblk_alloc w (.cells #[.int .i64 V, .string s, .slice ao l c] 24)]
      exact blk_alloc_new _ _
     have D0 : Hid (Below w.heap.size w ((w.alloc (.cells #[.int .i64 V, .string s, .slice ao l c] 24)).alloc (.cells #[.int .i64 V, .string s, .slice bo l' d] 24))) := ((Below.refl _ _).alloc (Nat.le_refl _) _).alloc (by simp) _
     have X0 := hidden ((X.out.alloc (.cells #[.int .i64 V, .string s, .slice ao l c] 24)).alloc (.cells #[.int .i64 V, .string s, .slice bo l' d] 24))
     have Y0 := hidden ((Y.out.alloc (.cells #[.int .i64 V, .string s, .slice ao l c] 24)).alloc (.cells #[.int .i64 V, .string s, .slice bo l' d] 24))
     clear X Y
     generalize (w.alloc (.cells #[.int .i64 V, .string s, .slice ao l c] 24)).alloc (.cells #[.int .i64 V, .string s, .slice bo l' d] 24) = w0 at *
     obtain ⟨a0, a1, a2, af⟩ := A0.out.cells
     obtain ⟨b0, b1, b2, bf⟩ := C0.out.cells
     go_wp2_with fail
     go_ret
     exact ⟨false, rfl, ⟨(fun h => by cases h), (fun h => absurd (Rw.mk.inj h).2.2 HN.out)⟩, D0.out⟩
   ·have z1 : ¬ s.toList = s'.toList := by rw [HSD.out, HSD'.out]; exact cS
    have z2 : (s.toList == s'.toList) = false := beq_eq_false_iff_ne.2 z1
    have HN := hidden cS
    clear cS z1
    go_enter Tryd.func14, Tryd.ntmps14
    go_upto_region 1 with fail
    have A0 := hidden ((B3.new w V s (.slice ao l c)).alloc (.cells #[.int .i64 V, .string s', .slice bo l' d] 24))
    have C0 : Hid (B3 ((w.alloc (.cells #[.int .i64 V, .string s, .slice ao l c] 24)).alloc (.cells #[.int .i64 V, .string s', .slice bo l' d] 24)) (w.heap.size + 1) V s' (.slice bo l' d)) := by
     show _ = _
     rw [← nblk_alloc w (.cells #[.int .i64 V, .string s, .slice ao l c] 24)]
     exact blk_alloc_new _ _
    have D0 : Hid (Below w.heap.size w ((w.alloc (.cells #[.int .i64 V, .string s, .slice ao l c] 24)).alloc (.cells #[.int .i64 V, .string s', .slice bo l' d] 24))) := ((Below.refl _ _).alloc (Nat.le_refl _) _).alloc (by simp) _
    have X0 := hidden ((X.out.alloc (.cells #[.int .i64 V, .string s, .slice ao l c] 24)).alloc (.cells #[.int .i64 V, .string s', .slice bo l' d] 24))
    have Y0 := hidden ((Y.out.alloc (.cells #[.int .i64 V, .string s, .slice ao l c] 24)).alloc (.cells #[.int .i64 V, .string s', .slice bo l' d] 24))
    clear X Y
    generalize (w.alloc (.cells #[.int .i64 V, .string s, .slice ao l c] 24)).alloc (.cells #[.int .i64 V, .string s', .slice bo l' d] 24) = w0 at *
    obtain ⟨a0, a1, a2, af⟩ := A0.out.cells
    obtain ⟨b0, b1, b2, bf⟩ := C0.out.cells
    go_wp2_with fail
    go_ret
    exact ⟨false, rfl, ⟨(fun h => by cases h), (fun h => absurd (Rw.mk.inj h).2.1 HN.out)⟩, D0.out⟩
  ·have z1 : (V != V') = true := by rw [bne_iff_ne]; exact cV
   have HN := hidden cV
   clear cV
   go_enter Tryd.func14, Tryd.ntmps14
   go_upto_region 1 with fail
   have A0 := hidden ((B3.new w V s (.slice ao l c)).alloc (.cells #[.int .i64 V', .string s', .slice bo l' d] 24))
   have C0 : Hid (B3 ((w.alloc (.cells #[.int .i64 V, .string s, .slice ao l c] 24)).alloc (.cells #[.int .i64 V', .string s', .slice bo l' d] 24)) (w.heap.size + 1) V' s' (.slice bo l' d)) := by
    show _ = _
    rw [← nblk_alloc w (.cells #[.int .i64 V, .string s, .slice ao l c] 24)]
    exact blk_alloc_new _ _
   have D0 : Hid (Below w.heap.size w ((w.alloc (.cells #[.int .i64 V, .string s, .slice ao l c] 24)).alloc (.cells #[.int .i64 V', .string s', .slice bo l' d] 24))) := ((Below.refl _ _).alloc (Nat.le_refl _) _).alloc (by simp) _
   have X0 := hidden ((X.out.alloc (.cells #[.int .i64 V, .string s, .slice ao l c] 24)).alloc (.cells #[.int .i64 V', .string s', .slice bo l' d] 24))
   have Y0 := hidden ((Y.out.alloc (.cells #[.int .i64 V, .string s, .slice ao l c] 24)).alloc (.cells #[.int .i64 V', .string s', .slice bo l' d] 24))
   clear X Y
   generalize (w.alloc (.cells #[.int .i64 V, .string s, .slice ao l c] 24)).alloc (.cells #[.int .i64 V', .string s', .slice bo l' d] 24) = w0 at *
   obtain ⟨a0, a1, a2, af⟩ := A0.out.cells
   obtain ⟨b0, b1, b2, bf⟩ := C0.out.cells
   go_wp2_with fail
   go_ret
   exact ⟨false, rfl, ⟨(fun h => by cases h), (fun h => absurd (Rw.mk.inj h).1 HN.out)⟩, D0.out⟩
end Go.Proofs.YtnebhiaeechpaaaDoor
