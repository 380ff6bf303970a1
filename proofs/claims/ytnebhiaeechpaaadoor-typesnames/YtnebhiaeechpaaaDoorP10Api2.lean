/-
 Layer 10: the program's Unify, Size, Vars, Resolve, Fresh, as they are called. Condition: the Table lies in memory; what is handed may be.
-/
import Derived.Test.YtnebhiaeechpaaaDoorP10Api
namespace Go.Proofs.YtnebhiaeechpaaaDoor
open Go.ChangeShapes Go.WideShapes Go.ChangeAt Go.RowKit Go.Deep
set_option linter.unusedVariables false
set_option linter.unusedSimpArgs false
set_option maxHeartbeats 4000000
set_option maxRecDepth 20000
section
variable {A : Nat → Prop} {w : World} {tb q r : Nat} {F : List Int} {ρ : Nat → Ty}
theorem ornew_tb (h : TB A w tb q r F ρ) : Calls Tryd.prog 28 #[.pointer (some ⟨tb, 0, none⟩)] w fun e w' => e = .returned (.pointer (some ⟨tb, 0, none⟩)) ∧ w' = w := by
 obtain ⟨O, K, nm, own, hi, σ, μ, R, d, h1, h2, h3, h4, h5, h6⟩ := h
 exact ornew_any h1
theorem viL_le (F : List Int) (L : List Rw) : (F ++ viL L).length ≤ F.length + szRL L := by
 have := viL_len L
 rw [List.length_append]
 omega
theorem inF_of {F : List Int} {L : List Rw} {x : Rw} (hm : mayL L = true) (hx : x ∈ L) : InF (F ++ viL L) x := by
 refine ⟨mayL_mem hm x hx, fun v hv => List.mem_append_right _ ?_⟩
 obtain ⟨k, hk⟩ := List.mem_iff_getElem?.1 hx
 exact mem_viL1.2 ⟨k, x, hk, hv⟩
theorem may_two {x y : Rw} (hx : x.may = true) (hy : y.may = true) : mayL [x, y] = true := by rw [mayL, mayL, mayL, hx, hy]; rfl
theorem may_one {x : Rw} (hx : x.may = true) : mayL [x] = true := by rw [mayL, mayL, hx]; rfl
theorem sz_two (x y : Rw) : szRL [x, y] = x.sz + y.sz := by rw [szRL, szRL, szRL]; omega
theorem sz_one (x : Rw) : szRL [x] = x.sz := by rw [szRL, szRL]; omega
def UnifyAs (A : Nat → Prop) (tb q r : Nat) (F : List Int) (ρ : Nat → Ty) (x y : Rw) (w : World) (e : Ending) (w' : World) : Prop := (e = .returned (.int .i64 3) ∧ (512 < (x.ty.ap ρ).sz ∨ 512 < (y.ty.ap ρ).sz) ∧ Only (Own3 tb q r) w w') ∨ ((x.ty.ap ρ).sz ≤ 512 ∧ (y.ty.ap ρ).sz ≤ 512 ∧ UniB A tb q r (F ++ viL [x, y]) ρ x y w e w')
theorem sz_le_ap {ρ : Nat → Ty} {x : Rw} (h : x.may = true) : x.sz ≤ (x.ty.ap ρ).sz := by
 rw [← x.sz_ty h]
 exact x.ty.sz_ap ρ
theorem api_unify (hA : ∀ g, A g → g < w.heap.size) (h : TB A w tb q r F ρ) {x y : Rw} {ao bo : Option Addr} (c d : Nat) (hx : x.may = true) (hy : y.may = true) (hsx : x.sz + y.sz ≤ 100000) (bx : Bd x) (by' : Bd y) (hrx : RT (fun g => ¬ Own3 tb q r g) w x.L ao) (hry : RT (fun g => ¬ Own3 tb q r g) w y.L bo) (hF : F.length + (x.sz + y.sz) ≤ 300000) : Calls Tryd.prog 11 #[.pointer (some ⟨tb, 0, none⟩), .agg #[.int .i64 x.V, .string ⟨x.S.toArray⟩, .slice ao x.L.length c], .agg #[.int .i64 y.V, .string ⟨y.S.toArray⟩, .slice bo y.L.length d]] w fun e w' => UnifyAs A tb q r F ρ x y w e w' := by
 have T := hidden h
 have HA := hidden hA
 have HB := hidden h.lt
 have X := hidden hrx
 have Y := hidden hry
 have BX := hidden bx
 have BY := hidden by'
 have HM := hidden (may_two hx hy)
 have HSZ := hidden (sz_two x y)
 have HF2 := hidden (viL_le F [x, y])
 have IX : Hid (InF (F ++ viL [x, y]) x) := inF_of (may_two hx hy) (by simp)
 have IY : Hid (InF (F ++ viL [x, y]) y) := inF_of (may_two hx hy) (by simp)
 have HXA := hidden (sz_le_ap (ρ := ρ) hx)
 have HYA := hidden (sz_le_ap (ρ := ρ) hy)
 clear h hA hrx hry bx by' hx hy
 go_enter Tryd.func11, Tryd.ntmps11
 go_upto_region 1 with fail
 obtain ⟨a1, a2, a3⟩ := two_box w x.V y.V ⟨x.S.toArray⟩ ⟨y.S.toArray⟩ (.slice ao x.L.length c) (.slice bo y.L.length d)
 have AX := hidden a1
 have AY := hidden a2
 have D := hidden a3
 have T0 := hidden (T.out.below a3)
 have X0 := hidden ((X.out.mono (Q := (fun g => ¬ Own3 tb q r g ∧ g < w.heap.size)) (fun g hg hl => ⟨hg, hl⟩)).beneath a3 (Nat.le_refl _))
 have Y0 := hidden ((Y.out.mono (Q := (fun g => ¬ Own3 tb q r g ∧ g < w.heap.size)) (fun g hg hl => ⟨hg, hl⟩)).beneath a3 (Nat.le_refl _))
 have S0 : Hid (((w.alloc (.cells #[.int .i64 x.V, .string ⟨x.S.toArray⟩, .slice ao x.L.length c] 24)).alloc (.cells #[.int .i64 y.V, .string ⟨y.S.toArray⟩, .slice bo y.L.length d] 24)).heap.size = w.heap.size + 2) := by show _ = _; rw [nblk_alloc, nblk_alloc]
 clear a1 a2 a3
 generalize (w.alloc (.cells #[.int .i64 x.V, .string ⟨x.S.toArray⟩, .slice ao x.L.length c] 24)).alloc (.cells #[.int .i64 y.V, .string ⟨y.S.toArray⟩, .slice bo y.L.length d] 24) = w0 at *
 have HON := hidden (ornew_tb T0.out)
 obtain ⟨a0, a1, a2, af⟩ := AX.out.cells
 obtain ⟨c0, c1, c2x, cf⟩ := AY.out.cells
 clear af cf
 go_wp2_with fail
 refine HON.out.mono ?_
 rintro e w1 ⟨rfl, hw1⟩
 subst hw1
 have HH : Hid (Calls Tryd.prog 29 #[.pointer (some ⟨tb, 0, none⟩), .slice (some ⟨w1.heap.size, 0, none⟩) 2 2] (w1.alloc (.cells #[.int .i64 x.V, .string ⟨x.S.toArray⟩, .slice ao x.L.length c, .int .i64 y.V, .string ⟨y.S.toArray⟩, .slice bo y.L.length d] 24)) fun e w' => e = .returned (.bool true) ∧ TB A w' tb q r (F ++ viL [x, y]) ρ ∧ Only (Own3 tb q r) (w1.alloc (.cells #[.int .i64 x.V, .string ⟨x.S.toArray⟩, .slice ao x.L.length c, .int .i64 y.V, .string ⟨y.S.toArray⟩, .slice bo y.L.length d] 24)) w') := by
  refine hand_tb (L := [x, y]) (T0.out.alloc _) (rt_two (blk_alloc_new _ _) (fun hg => by have h9 := HB.out _ hg; have h8 := S0.out; omega) ((X0.out.mono (fun g hg _ => hg.1)).alloc _) ((Y0.out.mono (fun g hg _ => hg.1)).alloc _) BX.out BY.out) HM.out (by rw [HSZ.out]; omega) 2
 have O1 : Hid (Only (Own3 tb q r) w (w1.alloc (.cells #[.int .i64 x.V, .string ⟨x.S.toArray⟩, .slice ao x.L.length c, .int .i64 y.V, .string ⟨y.S.toArray⟩, .slice bo y.L.length d] 24))) := (Only.of_below D.out).alloc _
 have AX1 := hidden (AX.out.alloc (.cells #[.int .i64 x.V, .string ⟨x.S.toArray⟩, .slice ao x.L.length c, .int .i64 y.V, .string ⟨y.S.toArray⟩, .slice bo y.L.length d] 24))
 have AY1 := hidden (AY.out.alloc (.cells #[.int .i64 x.V, .string ⟨x.S.toArray⟩, .slice ao x.L.length c, .int .i64 y.V, .string ⟨y.S.toArray⟩, .slice bo y.L.length d] 24))
 have X1 := hidden (X0.out.alloc (.cells #[.int .i64 x.V, .string ⟨x.S.toArray⟩, .slice ao x.L.length c, .int .i64 y.V, .string ⟨y.S.toArray⟩, .slice bo y.L.length d] 24))
 have Y1 := hidden (Y0.out.alloc (.cells #[.int .i64 x.V, .string ⟨x.S.toArray⟩, .slice ao x.L.length c, .int .i64 y.V, .string ⟨y.S.toArray⟩, .slice bo y.L.length d] 24))
 have S1 : Hid ((w1.alloc (.cells #[.int .i64 x.V, .string ⟨x.S.toArray⟩, .slice ao x.L.length c, .int .i64 y.V, .string ⟨y.S.toArray⟩, .slice bo y.L.length d] 24)).heap.size = w.heap.size + 3) := by show _ = _; rw [nblk_alloc, S0.out]
 go_wp2_with fail
 generalize w1.alloc (.cells #[.int .i64 x.V, .string ⟨x.S.toArray⟩, .slice ao x.L.length c, .int .i64 y.V, .string ⟨y.S.toArray⟩, .slice bo y.L.length d] 24) = w2 at *
 clear a0 a1 a2 c0 c1 c2x HON
 refine HH.out.mono ?_
 rintro e w3 ⟨rfl, g1, g2⟩
 have T3 := hidden g1
 have O3 := hidden (O1.out.trans g2)
 have AX3 : Hid (B3 w3 w.heap.size x.V ⟨x.S.toArray⟩ (.slice ao x.L.length c)) := AX1.out.keep (g2.block _ AX1.out.lt (fun e => by have h9 := HB.out _ e; omega))
 have AY3 : Hid (B3 w3 (w.heap.size + 1) y.V ⟨y.S.toArray⟩ (.slice bo y.L.length d)) := AY1.out.keep (g2.block _ AY1.out.lt (fun e => by have h9 := HB.out _ e; omega))
 have X3 : Hid (RT (fun g => ¬ Own3 tb q r g) w3 x.L ao) := (X1.out.keep (fun g hg hl => g2.block g hl hg.1)).mono (fun g hg _ => hg.1)
 have Y3 : Hid (RT (fun g => ¬ Own3 tb q r g) w3 y.L bo) := (Y1.out.keep (fun g hg hl => g2.block g hl hg.1)).mono (fun g hg _ => hg.1)
 have HFF : (F ++ viL [x, y]).length ≤ 300000 := by have h9 := HF2.out; have h8 := HSZ.out; omega
 obtain ⟨F', hF'⟩ : ∃ F', F ++ viL [x, y] = F' := ⟨_, rfl⟩
 rw [hF'] at T3 HFF IX IY
 have HFE := hidden hF'
 clear g1 g2 hF' HF2
 have HN := hidden (size_tb T3.out HFF c IX.out X3.out (most := 512) (by omega))
 obtain ⟨a0, a1, a2, af⟩ := AX3.out.cells
 obtain ⟨c0, c1, c2x, cf⟩ := AY3.out.cells
 obtain ⟨sx, hsx2⟩ : ∃ sx, (x.ty.ap ρ).sz = sx := ⟨_, rfl⟩
 obtain ⟨sy, hsy2⟩ : ∃ sy, (y.ty.ap ρ).sz = sy := ⟨_, rfl⟩
 have HSX := hidden hsx2
 have HSY := hidden hsy2
 rw [hsx2] at HN
 clear hsx2 hsy2
 by_cases cx : 512 < sx
 ·rw [show min sx (512 + 1) = 513 from by omega] at HN
  have em : ((513 : Nat) : Int) = 513 := rfl
  have em2 : ((512 : Nat) : Int) = 512 := rfl
  rw [em, em2] at HN
  clear em em2
  go_wp2_with fail
  refine HN.out.mono ?_
  rintro e w4 ⟨rfl, g1, g2⟩
  have O4 := hidden (O3.out.trans g2)
  clear g1 g2
  go_wp2_with fail
  go_ret
  exact Or.inl ⟨rfl, Or.inl (by rw [HSX.out]; exact cx), O4.out⟩
 ·rw [show min sx (512 + 1) = sx from by omega] at HN
  have em2 : ((512 : Nat) : Int) = 512 := rfl
  rw [em2] at HN
  clear em2
  have zx : ¬ (512 : Int) < (sx : Int) := by omega
  go_wp2_with fail
  refine HN.out.mono ?_
  rintro e w4 ⟨rfl, g1, g2⟩
  have O4 := hidden (O3.out.trans g2)
  have T4 := hidden g1
  have AX4 : Hid (B3 w4 w.heap.size x.V ⟨x.S.toArray⟩ (.slice ao x.L.length c)) := AX3.out.keep (g2.block _ AX3.out.lt (fun e => by have h9 := HB.out _ e; omega))
  have AY4 : Hid (B3 w4 (w.heap.size + 1) y.V ⟨y.S.toArray⟩ (.slice bo y.L.length d)) := AY3.out.keep (g2.block _ AY3.out.lt (fun e => by have h9 := HB.out _ e; omega))
  have X4 : Hid (RT (fun g => ¬ Own3 tb q r g) w4 x.L ao) := X3.out.keep (fun g hg hl => g2.block g hl hg)
  have Y4 : Hid (RT (fun g => ¬ Own3 tb q r g) w4 y.L bo) := Y3.out.keep (fun g hg hl => g2.block g hl hg)
  clear g1 g2 a0 a1 a2 af c0 c1 c2x cf
  obtain ⟨a0, a1, a2, af⟩ := AX4.out.cells
  obtain ⟨c0, c1, c2x, cf⟩ := AY4.out.cells
  have HN2 := hidden (size_tb T4.out HFF d IY.out Y4.out (most := 512) (by omega))
  rw [HSY.out] at HN2
  by_cases cy : 512 < sy
  ·rw [show min sy (512 + 1) = 513 from by omega] at HN2
   have em : ((513 : Nat) : Int) = 513 := rfl
   have em2 : ((512 : Nat) : Int) = 512 := rfl
   rw [em, em2] at HN2
   clear em em2
   go_wp2_with fail
   refine HN2.out.mono ?_
   rintro e w5 ⟨rfl, g1, g2⟩
   have O5 := hidden (O4.out.trans g2)
   clear g1 g2
   go_wp2_with fail
   go_ret
   exact Or.inl ⟨rfl, Or.inr (by rw [HSY.out]; exact cy), O5.out⟩
  ·rw [show min sy (512 + 1) = sy from by omega] at HN2
   have em2 : ((512 : Nat) : Int) = 512 := rfl
   rw [em2] at HN2
   clear em2
   have zy : ¬ (512 : Int) < (sy : Int) := by omega
   go_wp2_with fail
   refine HN2.out.mono ?_
   rintro e w5 ⟨rfl, g1, g2⟩
   have O5 := hidden (O4.out.trans g2)
   have T5 := hidden g1
   have AX5 : Hid (B3 w5 w.heap.size x.V ⟨x.S.toArray⟩ (.slice ao x.L.length c)) := AX4.out.keep (g2.block _ AX4.out.lt (fun e => by have h9 := HB.out _ e; omega))
   have AY5 : Hid (B3 w5 (w.heap.size + 1) y.V ⟨y.S.toArray⟩ (.slice bo y.L.length d)) := AY4.out.keep (g2.block _ AY4.out.lt (fun e => by have h9 := HB.out _ e; omega))
   have X5 : Hid (RT (fun g => ¬ Own3 tb q r g) w5 x.L ao) := X4.out.keep (fun g hg hl => g2.block g hl hg)
   have Y5 : Hid (RT (fun g => ¬ Own3 tb q r g) w5 y.L bo) := Y4.out.keep (fun g hg hl => g2.block g hl hg)
   clear g1 g2 a0 a1 a2 af c0 c1 c2x cf
   obtain ⟨a0, a1, a2, af⟩ := AX5.out.cells
   obtain ⟨c0, c1, c2x, cf⟩ := AY5.out.cells
   have hx1 := HXA.out
   have hy1 := HYA.out
   rw [HSX.out] at hx1
   rw [HSY.out] at hy1
   have HU := hidden (uni_tb (fun g hg => Nat.lt_of_lt_of_le (HA.out g hg) O5.out.size) T5.out HFF c d IX.out IY.out (by omega) (by omega) BX.out BY.out X5.out Y5.out)
   clear hx1 hy1
   go_wp2_with fail
   refine HU.out.mono ?_
   rintro e w6 ⟨g1, g2⟩
   have G1 := hidden (O5.out.trans g1)
   rcases g2 with ⟨c', g2, rfl⟩ | ⟨ρ', g2, rfl, g3⟩
   ·obtain ⟨cd, hcd⟩ : ∃ cd : Int, (if c' = 1 then 26 else 25) = cd := ⟨_, rfl⟩
    rw [hcd]
    have HCD := hidden hcd
    have G2 := hidden g2
    clear hcd g2 g1 a0 a1 a2 af c0 c1 c2x cf
    go_wp2_with fail
    go_ret
    exact Or.inr ⟨by rw [HSX.out]; omega, by rw [HSY.out]; omega, G1.out, Or.inl ⟨c', G2.out, by rw [HCD.out]; rfl⟩⟩
   ·have G2 := hidden g2
    have G3 := hidden g3
    clear g2 g3 g1 a0 a1 a2 af c0 c1 c2x cf
    go_wp2_with fail
    go_ret
    exact Or.inr ⟨by rw [HSX.out]; omega, by rw [HSY.out]; omega, G1.out, Or.inr ⟨ρ', G2.out, rfl, by rw [HFE.out]; exact G3.out⟩⟩
end
end Go.Proofs.YtnebhiaeechpaaaDoor
