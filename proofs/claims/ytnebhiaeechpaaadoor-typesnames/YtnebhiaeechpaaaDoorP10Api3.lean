/-
 Layer 10: the program's Size, Vars, Resolve, Fresh, as they are called. Condition: the Table lies in memory; what is handed may be.
-/
import Derived.Test.YtnebhiaeechpaaaDoorP10Api2
namespace Go.Proofs.YtnebhiaeechpaaaDoor
open Go.ChangeShapes Go.WideShapes Go.ChangeAt Go.RowKit Go.Deep
set_option linter.unusedVariables false
set_option linter.unusedSimpArgs false
set_option maxHeartbeats 4000000
set_option maxRecDepth 20000
section
variable {A : Nat → Prop} {w : World} {tb q r : Nat} {F : List Int} {ρ : Nat → Ty}
theorem api_size (h : TB A w tb q r F ρ) {x : Rw} {ao : Option Addr} (c : Nat) (hx : x.may = true) (hsx : x.sz ≤ 100000) (bx : Bd x) (hrx : RT (fun g => ¬ Own3 tb q r g) w x.L ao) (hF : F.length + x.sz ≤ 300000) {most : Nat} (hm : most ≤ 90000) : Calls Tryd.prog 12 #[.pointer (some ⟨tb, 0, none⟩), .agg #[.int .i64 x.V, .string ⟨x.S.toArray⟩, .slice ao x.L.length c], .int .i64 (most : Int)] w fun e w' => e = .returned (.int .i64 ((min (x.ty.ap ρ).sz (most + 1) : Nat) : Int)) ∧ TB A w' tb q r (F ++ viL [x]) ρ ∧ Only (Own3 tb q r) w w' := by
 have zm : ¬ (most : Int) < 0 := by omega
 obtain ⟨n, hn⟩ : ∃ n, min (x.ty.ap ρ).sz (most + 1) = n := ⟨_, rfl⟩
 rw [hn]
 have HNE := hidden hn
 clear hn
 have T := hidden h
 have HB := hidden h.lt
 have X := hidden hrx
 have BX := hidden bx
 have HM := hidden (may_one hx)
 have HSZ := hidden (sz_one x)
 have HF2 := hidden (viL_le F [x])
 have IX : Hid (InF (F ++ viL [x]) x) := inF_of (may_one hx) (by simp)
 clear h hrx bx hx
 go_enter Tryd.func12, Tryd.ntmps12
 go_upto_region 1 with fail
 have AX := hidden (B3.new w x.V ⟨x.S.toArray⟩ (.slice ao x.L.length c))
 have D := hidden ((Below.refl w.heap.size w).alloc (Nat.le_refl _) (.cells #[.int .i64 x.V, .string ⟨x.S.toArray⟩, .slice ao x.L.length c] 24))
 have T0 := hidden (T.out.below D.out)
 have X0 := hidden ((X.out.mono (Q := (fun g => ¬ Own3 tb q r g ∧ g < w.heap.size)) (fun g hg hl => ⟨hg, hl⟩)).beneath D.out (Nat.le_refl _))
 have S0 : Hid ((w.alloc (.cells #[.int .i64 x.V, .string ⟨x.S.toArray⟩, .slice ao x.L.length c] 24)).heap.size = w.heap.size + 1) := by show _ = _; rw [nblk_alloc]
 generalize w.alloc (.cells #[.int .i64 x.V, .string ⟨x.S.toArray⟩, .slice ao x.L.length c] 24) = w0 at *
 have HON := hidden (ornew_tb T0.out)
 obtain ⟨a0, a1, a2, af⟩ := AX.out.cells
 clear af
 go_wp2_with fail
 refine HON.out.mono ?_
 rintro e w1 ⟨rfl, hw1⟩
 subst hw1
 have HH : Hid (Calls Tryd.prog 29 #[.pointer (some ⟨tb, 0, none⟩), .slice (some ⟨w1.heap.size, 0, none⟩) 1 1] (w1.alloc (.cells #[.int .i64 x.V, .string ⟨x.S.toArray⟩, .slice ao x.L.length c] 24)) fun e w' => e = .returned (.bool true) ∧ TB A w' tb q r (F ++ viL [x]) ρ ∧ Only (Own3 tb q r) (w1.alloc (.cells #[.int .i64 x.V, .string ⟨x.S.toArray⟩, .slice ao x.L.length c] 24)) w') := by
  refine hand_tb (L := [x]) (T0.out.alloc _) (rt_one (blk_alloc_new _ _) (fun hg => by have h9 := HB.out _ hg; have h8 := S0.out; omega) ((X0.out.mono (fun g hg _ => hg.1)).alloc _) BX.out) HM.out (by rw [HSZ.out]; omega) 1
 have O1 : Hid (Only (Own3 tb q r) w (w1.alloc (.cells #[.int .i64 x.V, .string ⟨x.S.toArray⟩, .slice ao x.L.length c] 24))) := (Only.of_below D.out).alloc _
 have AX1 := hidden (AX.out.alloc (.cells #[.int .i64 x.V, .string ⟨x.S.toArray⟩, .slice ao x.L.length c] 24))
 have X1 := hidden (X0.out.alloc (.cells #[.int .i64 x.V, .string ⟨x.S.toArray⟩, .slice ao x.L.length c] 24))
 go_wp2_with fail
 generalize w1.alloc (.cells #[.int .i64 x.V, .string ⟨x.S.toArray⟩, .slice ao x.L.length c] 24) = w2 at *
 clear a0 a1 a2 HON
 refine HH.out.mono ?_
 rintro e w3 ⟨rfl, g1, g2⟩
 have T3 := hidden g1
 have O3 := hidden (O1.out.trans g2)
 have AX3 : Hid (B3 w3 w.heap.size x.V ⟨x.S.toArray⟩ (.slice ao x.L.length c)) := AX1.out.keep (g2.block _ AX1.out.lt (fun e => by have h9 := HB.out _ e; omega))
 have X3 : Hid (RT (fun g => ¬ Own3 tb q r g) w3 x.L ao) := (X1.out.keep (fun g hg hl => g2.block g hl hg.1)).mono (fun g hg _ => hg.1)
 have HFF : (F ++ viL [x]).length ≤ 300000 := by have h9 := HF2.out; have h8 := HSZ.out; omega
 clear g1 g2 HF2
 obtain ⟨a0, a1, a2, af⟩ := AX3.out.cells
 have HN := hidden (size_tb T3.out HFF c IX.out X3.out (most := most) hm)
 rw [HNE.out] at HN
 go_wp2_with fail
 refine HN.out.mono ?_
 rintro e w4 ⟨rfl, g1, g2⟩
 have T4 := hidden g1
 have O4 := hidden (O3.out.trans g2)
 clear g1 g2 a0 a1 a2 af
 go_wp2_with fail
 go_ret
 exact ⟨rfl, T4.out, O4.out⟩

theorem api_vars (h : TB A w tb q r F ρ) {x : Rw} {ao : Option Addr} (c : Nat) (hx : x.may = true) (hsx : x.sz ≤ 100000) (bx : Bd x) (hrx : RT (fun g => ¬ Own3 tb q r g) w x.L ao) (hF : F.length + x.sz ≤ 300000) : Calls Tryd.prog 15 #[.pointer (some ⟨tb, 0, none⟩), .agg #[.int .i64 x.V, .string ⟨x.S.toArray⟩, .slice ao x.L.length c]] w fun e w' => ∃ v, e = .returned v ∧ TB A w' tb q r (F ++ viL [x]) ρ ∧ Only (Own3 tb q r) w w' := by
 have T := hidden h
 have HB := hidden h.lt
 have X := hidden hrx
 have BX := hidden bx
 have HM := hidden (may_one hx)
 have HSZ := hidden (sz_one x)
 have HF2 := hidden (viL_le F [x])
 have IX : Hid (InF (F ++ viL [x]) x) := inF_of (may_one hx) (by simp)
 clear h hrx bx hx
 go_enter Tryd.func15, Tryd.ntmps15
 go_upto_region 1 with fail
 have AX := hidden (B3.new w x.V ⟨x.S.toArray⟩ (.slice ao x.L.length c))
 have D := hidden ((Below.refl w.heap.size w).alloc (Nat.le_refl _) (.cells #[.int .i64 x.V, .string ⟨x.S.toArray⟩, .slice ao x.L.length c] 24))
 have T0 := hidden (T.out.below D.out)
 have X0 := hidden ((X.out.mono (Q := (fun g => ¬ Own3 tb q r g ∧ g < w.heap.size)) (fun g hg hl => ⟨hg, hl⟩)).beneath D.out (Nat.le_refl _))
 have S0 : Hid ((w.alloc (.cells #[.int .i64 x.V, .string ⟨x.S.toArray⟩, .slice ao x.L.length c] 24)).heap.size = w.heap.size + 1) := by show _ = _; rw [nblk_alloc]
 generalize w.alloc (.cells #[.int .i64 x.V, .string ⟨x.S.toArray⟩, .slice ao x.L.length c] 24) = w0 at *
 have HON := hidden (ornew_tb T0.out)
 obtain ⟨a0, a1, a2, af⟩ := AX.out.cells
 clear af
 go_wp2_with fail
 refine HON.out.mono ?_
 rintro e w1 ⟨rfl, hw1⟩
 subst hw1
 have HH : Hid (Calls Tryd.prog 29 #[.pointer (some ⟨tb, 0, none⟩), .slice (some ⟨w1.heap.size, 0, none⟩) 1 1] (w1.alloc (.cells #[.int .i64 x.V, .string ⟨x.S.toArray⟩, .slice ao x.L.length c] 24)) fun e w' => e = .returned (.bool true) ∧ TB A w' tb q r (F ++ viL [x]) ρ ∧ Only (Own3 tb q r) (w1.alloc (.cells #[.int .i64 x.V, .string ⟨x.S.toArray⟩, .slice ao x.L.length c] 24)) w') := by
  refine hand_tb (L := [x]) (T0.out.alloc _) (rt_one (blk_alloc_new _ _) (fun hg => by have h9 := HB.out _ hg; have h8 := S0.out; omega) ((X0.out.mono (fun g hg _ => hg.1)).alloc _) BX.out) HM.out (by rw [HSZ.out]; omega) 1
 have O1 : Hid (Only (Own3 tb q r) w (w1.alloc (.cells #[.int .i64 x.V, .string ⟨x.S.toArray⟩, .slice ao x.L.length c] 24))) := (Only.of_below D.out).alloc _
 have AX1 := hidden (AX.out.alloc (.cells #[.int .i64 x.V, .string ⟨x.S.toArray⟩, .slice ao x.L.length c] 24))
 have X1 := hidden (X0.out.alloc (.cells #[.int .i64 x.V, .string ⟨x.S.toArray⟩, .slice ao x.L.length c] 24))
 go_wp2_with fail
 generalize w1.alloc (.cells #[.int .i64 x.V, .string ⟨x.S.toArray⟩, .slice ao x.L.length c] 24) = w2 at *
 clear a0 a1 a2 HON
 refine HH.out.mono ?_
 rintro e w3 ⟨rfl, g1, g2⟩
 have T3 := hidden g1
 have O3 := hidden (O1.out.trans g2)
 have AX3 : Hid (B3 w3 w.heap.size x.V ⟨x.S.toArray⟩ (.slice ao x.L.length c)) := AX1.out.keep (g2.block _ AX1.out.lt (fun e => by have h9 := HB.out _ e; omega))
 have X3 : Hid (RT (fun g => ¬ Own3 tb q r g) w3 x.L ao) := (X1.out.keep (fun g hg hl => g2.block g hl hg.1)).mono (fun g hg _ => hg.1)
 have HFF : (F ++ viL [x]).length ≤ 300000 := by have h9 := HF2.out; have h8 := HSZ.out; omega
 clear g1 g2 HF2
 obtain ⟨a0, a1, a2, af⟩ := AX3.out.cells
 have HN := hidden (vars_tb T3.out HFF c IX.out (by omega) X3.out)
 go_wp2_with fail
 refine HN.out.mono ?_
 rintro e w4 ⟨v, rfl, g1, g2⟩
 have T4 := hidden g1
 have O4 := hidden (O3.out.trans g2)
 clear g1 g2 a0 a1 a2 af
 go_wp2_with fail
 go_ret
 exact ⟨v, rfl, T4.out, O4.out⟩

theorem api_resolve (h : TB A w tb q r F ρ) {x : Rw} {ao : Option Addr} (c : Nat) (hx : x.may = true) (hsx : x.sz ≤ 100000) (bx : Bd x) (hrx : RT (fun g => ¬ Own3 tb q r g) w x.L ao) (hF : F.length + x.sz ≤ 300000) : Calls Tryd.prog 13 #[.pointer (some ⟨tb, 0, none⟩), .agg #[.int .i64 x.V, .string ⟨x.S.toArray⟩, .slice ao x.L.length c]] w fun e w' => ResB A tb q r (F ++ viL [x]) ρ (x.ty.ap ρ).rw w e w' := by
 obtain ⟨t, ht⟩ : ∃ t, (x.ty.ap ρ).rw = t := ⟨_, rfl⟩
 rw [ht]
 have HTE := hidden ht
 clear ht
 have T := hidden (h.aug (A' := fun g => A g ∨ g = w.heap.size + 1) (fun g hg => hg.imp id (fun e => by omega)))
 have HB := hidden h.lt
 have X := hidden hrx
 have BX := hidden bx
 have HM := hidden (may_one hx)
 have HSZ := hidden (sz_one x)
 have HF2 := hidden (viL_le F [x])
 have IX : Hid (InF (F ++ viL [x]) x) := inF_of (may_one hx) (by simp)
 clear h hrx bx hx
 go_enter Tryd.func13, Tryd.ntmps13
 go_upto_region 1 with fail
 obtain ⟨a1, a2, a3⟩ := two_new w x.V ⟨x.S.toArray⟩ (.slice ao x.L.length c)
 have AX := hidden a1
 have AZ := hidden a2
 have D := hidden a3
 clear a1 a2 a3
 have T0 := hidden (T.out.below D.out)
 have X0 := hidden ((X.out.mono (Q := (fun g => ¬ Own3 tb q r g ∧ g < w.heap.size)) (fun g hg hl => ⟨hg, hl⟩)).beneath D.out (Nat.le_refl _))
 have S0 : Hid (((w.alloc (.cells #[.int .i64 x.V, .string ⟨x.S.toArray⟩, .slice ao x.L.length c] 24)).alloc (.cells #[.int .i64 0, .string ⟨#[]⟩, .slice none 0 0] 24)).heap.size = w.heap.size + 2) := by show _ = _; rw [nblk_alloc, nblk_alloc]
 generalize (w.alloc (.cells #[.int .i64 x.V, .string ⟨x.S.toArray⟩, .slice ao x.L.length c] 24)).alloc (.cells #[.int .i64 0, .string ⟨#[]⟩, .slice none 0 0] 24) = w0 at *
 have HON := hidden (ornew_tb T0.out)
 obtain ⟨a0, a1, a2, af⟩ := AX.out.cells
 clear af
 go_wp2_with fail
 refine HON.out.mono ?_
 rintro e w1 ⟨rfl, hw1⟩
 subst hw1
 have HH : Hid (Calls Tryd.prog 29 #[.pointer (some ⟨tb, 0, none⟩), .slice (some ⟨w1.heap.size, 0, none⟩) 1 1] (w1.alloc (.cells #[.int .i64 x.V, .string ⟨x.S.toArray⟩, .slice ao x.L.length c] 24)) fun e w' => e = .returned (.bool true) ∧ TB (fun g => A g ∨ g = w.heap.size + 1) w' tb q r (F ++ viL [x]) ρ ∧ Only (Own3 tb q r) (w1.alloc (.cells #[.int .i64 x.V, .string ⟨x.S.toArray⟩, .slice ao x.L.length c] 24)) w') := by
  refine hand_tb (L := [x]) (T0.out.alloc _) (rt_one (blk_alloc_new _ _) (fun hg => by have h9 := HB.out _ hg; have h8 := S0.out; omega) ((X0.out.mono (fun g hg _ => hg.1)).alloc _) BX.out) HM.out (by rw [HSZ.out]; omega) 1
 have O1 : Hid (Only (Own3 tb q r) w (w1.alloc (.cells #[.int .i64 x.V, .string ⟨x.S.toArray⟩, .slice ao x.L.length c] 24))) := (Only.of_below D.out).alloc _
 have AX1 := hidden (AX.out.alloc (.cells #[.int .i64 x.V, .string ⟨x.S.toArray⟩, .slice ao x.L.length c] 24))
 have AZ1 := hidden (AZ.out.alloc (.cells #[.int .i64 x.V, .string ⟨x.S.toArray⟩, .slice ao x.L.length c] 24))
 have X1 := hidden (X0.out.alloc (.cells #[.int .i64 x.V, .string ⟨x.S.toArray⟩, .slice ao x.L.length c] 24))
 go_wp2_with fail
 generalize w1.alloc (.cells #[.int .i64 x.V, .string ⟨x.S.toArray⟩, .slice ao x.L.length c] 24) = w2 at *
 clear a0 a1 a2 HON
 refine HH.out.mono ?_
 rintro e w3 ⟨rfl, g1, g2⟩
 have T3 := hidden g1
 have O3 := hidden (O1.out.trans g2)
 have AX3 : Hid (B3 w3 w.heap.size x.V ⟨x.S.toArray⟩ (.slice ao x.L.length c)) := AX1.out.keep (g2.block _ AX1.out.lt (fun e => by have h9 := HB.out _ e; omega))
 have AZ3 : Hid (B3 w3 (w.heap.size + 1) 0 ⟨#[]⟩ (.slice none 0 0)) := AZ1.out.keep (g2.block _ AZ1.out.lt (fun e => by have h9 := HB.out _ e; omega))
 have X3 : Hid (RT (fun g => ¬ Own3 tb q r g) w3 x.L ao) := (X1.out.keep (fun g hg hl => g2.block g hl hg.1)).mono (fun g hg _ => hg.1)
 have HFF : (F ++ viL [x]).length ≤ 300000 := by have h9 := HF2.out; have h8 := HSZ.out; omega
 clear g1 g2 HF2
 obtain ⟨a0, a1, a2, af⟩ := AX3.out.cells
 have HN := hidden (res_tb T3.out HFF c IX.out hsx BX.out X3.out)
 rw [HTE.out] at HN
 have h3 := O3.out.size
 go_wp2_with fail
 refine HN.out.mono ?_
 rintro e w4 ⟨al, cp, rfl, g1, g2, g3, g4⟩
 have T4 := hidden g1
 have R4 : Hid (RT (fun g => w3.heap.size ≤ g) w4 t.L al) := g2
 have O4 := hidden (O3.out.trans g3)
 have BT := hidden g4
 have AZ4 : Hid (B3 w4 (w.heap.size + 1) 0 ⟨#[]⟩ (.slice none 0 0)) := AZ3.out.keep (g3.block _ AZ3.out.lt (fun e => by have h9 := HB.out _ e; omega))
 clear g1 g2 g3 g4 a0 a1 a2 af
 obtain ⟨a0, a1, a2, af⟩ := AZ4.out.cells
 have hz3 := AZ3.out.lt
 go_wp2_with fail
 refine bodyPost_ret (results_cell_row rfl _ _ (w.heap.size + 1) 24 #[.int .i64 t.V, .string ⟨t.S.toArray⟩, .slice al t.L.length cp] (0, 0) _ rfl (AZ4.out.fill t.V ⟨t.S.toArray⟩ (.slice al t.L.length cp)) Tryd.underlying24 rfl (by kernel_rfl)) rfl ?_
 refine ⟨al, cp, rfl, ?_, (R4.out.keep (fun g hg _ => fill3_blk w4 (by omega) _ _ _)).mono (fun g hg _ => by omega), O4.out.fill3 (Or.inl (by omega)) _ _ _, BT.out⟩
 exact (T4.out.only (w' := fill3 w4 (w.heap.size + 1) t.V ⟨t.S.toArray⟩ (.slice al t.L.length cp)) (S := fun g => g = w.heap.size + 1) (Only.fill3 (S := fun g => g = w.heap.size + 1) (p := w.heap.size + 1) (Only.refl _ _) (Or.inr rfl) _ _ _) (fun g hg => Or.inr hg)).aug (fun g hg => Or.inl (Or.inl hg))

/-- What Fresh tells: 1 more than the greatest, if there is such a number. -/
def frI (hi : Int) : Int := if hi = 9223372036854775807 then 0 else hi + 1
theorem api_fresh (h : TB A w tb q r F ρ) (hF : ∀ v, v ∈ F → v ≤ 9223372036854775807) : Calls Tryd.prog 24 #[.pointer (some ⟨tb, 0, none⟩)] w fun e w' => ∃ hi, HiF F hi ∧ e = .returned (.agg #[.int .i64 (frI hi), .string ⟨#[]⟩, .slice none 0 0]) ∧ Only (Own3 tb q r) w w' ∧ (hi < 9223372036854775807 → TB A w' tb q r (F ++ [hi + 1]) ρ) := by
 have HL := hidden h.lt
 have HON0 : Hid (∀ o, Calls Tryd.prog 28 #[.pointer (some ⟨tb, 0, none⟩)] (w.alloc o) fun e w' => e = .returned (.pointer (some ⟨tb, 0, none⟩)) ∧ w' = w.alloc o) := fun o => ornew_tb (h.alloc o)
 obtain ⟨O, K, nm, own, hi, σ, μ, R, d, h1, h2, h3, h4, h5, h6⟩ := h
 have hi1 : -9223372036854775808 ≤ hi ∧ hi ≤ 9223372036854775807 := by
  have := h5.pos
  rcases h5.one with e | e
  ·omega
  ·have := hF _ e; omega
 have T := hidden h1
 have H5 := hidden h5
 have HLO : Hid (∀ g, O g ∨ Own3 tb q r g → g < w.heap.size) := fun g hg => h1.new hg
 have HTB : Hid (hi < 9223372036854775807 → ∀ w', PT O w' tb q r K nm own (hi + 1) σ μ → TB A w' tb q r (F ++ [hi + 1]) ρ) := fun hlt w' hp => by
  have hp0 := h5.pos
  refine ⟨O, K, nm, own, hi + 1, σ, μ, R, d, hp, h2.grow (fun u hu => by rw [List.mem_singleton.1 hu]; omega), h3, ?_, ⟨fun v hv => ?_, Or.inr (by simp), by omega⟩, h6⟩
  ·have h9 := freeF_app F [hi + 1] R
   rw [List.length_append]
   simp only [List.length_cons, List.length_nil] at h9 ⊢
   omega
  ·rcases List.mem_append.1 hv with h9 | h9
   ·have h8 := h5.top v h9; omega
   ·rw [List.mem_singleton.1 h9]; omega
 clear h1 h2 h3 h4 h5 h6
 go_enter Tryd.func24, Tryd.ntmps24
 go_upto_region 1 with fail
 have HON := hidden (HON0.out (.cells #[.int .i64 0, .string ⟨#[]⟩, .slice none 0 0] 24))
 have A0 := hidden (B3.new w 0 ⟨#[]⟩ (.slice none 0 0))
 have T0 := hidden (T.out.alloc (.cells #[.int .i64 0, .string ⟨#[]⟩, .slice none 0 0] 24))
 have L0 := hidden ((Only.refl (Own3 tb q r) w).alloc (.cells #[.int .i64 0, .string ⟨#[]⟩, .slice none 0 0] 24))
 clear HON0
 generalize w.alloc (.cells #[.int .i64 0, .string ⟨#[]⟩, .slice none 0 0] 24) = w0 at *
 obtain ⟨t0, t1, t2, t3, tf⟩ := T0.out.cells
 obtain ⟨a0, a1, a2, af⟩ := A0.out.cells
 clear t0 t1 t3
 have ne : tb ≠ w.heap.size := fun e => by have h9 := HL.out tb (Or.inl rfl); omega
 by_cases c : hi = 9223372036854775807
 ·subst c
  go_wp2_with fail
  refine HON.out.mono ?_
  rintro e w1 ⟨rfl, hw1⟩
  subst hw1
  go_wp2_with fail
  refine bodyPost_ret (results_cell_row rfl _ _ (w.heap.size) 24 #[.int .i64 0, .string ⟨#[]⟩, .slice none 0 0] (0, 0) _ rfl (A0.out.fill 0 ⟨#[]⟩ (.slice none 0 0)) Tryd.underlying24 rfl (by kernel_rfl)) rfl ?_
  exact ⟨_, H5.out, rfl, L0.out.fill3 (Or.inl (Nat.le_refl _)) _ _ _, fun h9 => by omega⟩
 ·have zb : (hi == 9223372036854775807) = false := beq_eq_false_iff_ne.2 c
  have hh : hi + 1 ≤ 9223372036854775807 := by omega
  have HFR : Hid (frI hi = hi + 1) := if_neg c
  have T1 := hidden (T0.out.setHi (hi + 1))
  have A1 : Hid (B3 (w0.setCell ⟨tb, 2, none⟩ (.int .i64 (hi + 1))) w.heap.size 0 ⟨#[]⟩ (.slice none 0 0)) := A0.out.keep (blk_setCell_other _ _ _ _ (fun e => ne e.symm))
  have L1 : Hid (Only (Own3 tb q r) w (w0.setCell ⟨tb, 2, none⟩ (.int .i64 (hi + 1)))) := L0.out.setNew (Or.inr (Or.inl rfl)) _ _
  clear c
  go_upto_region 5 with first | (refine HON.out.mono ?_; rintro e w1 ⟨rfl, hw1⟩; subst hw1) | fail
  have e9 : (w1.setCell ⟨tb, 2, none⟩ (.int .i64 (hi + 1))) = w1.setCell ⟨tb, 2, none⟩ (.int .i64 (hi + 1)) := rfl
  generalize w1.setCell ⟨tb, 2, none⟩ (.int .i64 (hi + 1)) = w2 at *
  clear t2 tf a0 a1 a2 af e9
  obtain ⟨t0, t1, t2, t3, tf⟩ := T1.out.cells
  obtain ⟨a0, a1, a2, af⟩ := A1.out.cells
  clear t0 t1 t3
  go_wp2_with fail
  refine bodyPost_ret (results_cell_row rfl _ _ (w.heap.size) 24 #[.int .i64 (hi + 1), .string ⟨#[]⟩, .slice none 0 0] (0, 0) _ rfl (A1.out.fill (hi + 1) ⟨#[]⟩ (.slice none 0 0)) Tryd.underlying24 rfl (by kernel_rfl)) rfl ?_
  exact ⟨_, H5.out, by rw [HFR.out], L1.out.fill3 (Or.inl (Nat.le_refl _)) _ _ _, fun h9 => HTB.out h9 _ (T1.out.keep (fun g hg hl => fill3_blk w2 (fun e => by have h8 := HLO.out g hg; omega) _ _ _))⟩
end
end Go.Proofs.YtnebhiaeechpaaaDoor
