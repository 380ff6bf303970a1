/-
 Layer 10: the program's New, orNew, handed. Condition: the Table lies in memory.
-/
import Derived.Test.YtnebhiaeechpaaaDoorP10Gr
import Derived.Test.YtnebhiaeechpaaaDoorP10Uni
namespace Go.Proofs.YtnebhiaeechpaaaDoor
open Go.ChangeShapes Go.WideShapes Go.ChangeAt Go.RowKit Go.Deep
set_option linter.unusedVariables false
set_option linter.unusedSimpArgs false
set_option maxHeartbeats 4000000
set_option maxRecDepth 20000
theorem PT.setHi {O : Nat → Prop} {w : World} {tb q r K nm own : Nat} {hi : Int} {σ : Int → Option Rw} {μ : Int → Option Int} (h : PT O w tb q r K nm own hi σ μ) (hi' : Int) : PT O (w.setCell ⟨tb, 2, none⟩ (.int .i64 hi')) tb q r K nm own hi' σ μ := by
 obtain ⟨n, m, h1, h2, h3⟩ := h.mp
 have ko : ∀ g, g ≠ tb → (w.setCell ⟨tb, 2, none⟩ (.int .i64 hi')).heap[g]? = w.heap[g]? := fun g hg => blk_setCell_other _ _ _ _ hg
 refine ⟨?_, ⟨n, m, h1, h2.keep (ko q (fun e => h.tq e.symm)), h3.keep (fun g hg _ => ko g (h.ap g hg).1)⟩, h.mt.keep (ko r (fun e => h.tr e.symm)), h.ow, h.tq, h.tr, h.qr, fun g hg => ⟨(h.ap g hg).1, (h.ap g hg).2.1, (h.ap g hg).2.2.1, by rw [nblk_setCell]; exact (h.ap g hg).2.2.2⟩⟩
 have hb := h.blk
 simp [World.setCell, Array.getElem?_modify, hb]
theorem new_any (w : World) : Calls Tryd.prog 10 #[] w fun e w' => e = .returned (.pointer (some ⟨w.heap.size + 2, 0, none⟩)) ∧ PT (fun _ => False) w' (w.heap.size + 2) w.heap.size (w.heap.size + 1) 0 0 0 0 (fun _ => none) (fun _ => none) ∧ Below w.heap.size w w' := by
 have hmm := @run_makeMap Tryd.prog
 go_enter Tryd.func10, Tryd.ntmps10
 go_wp2_with fail
 go_ret
 have e1 : (w.alloc (.map #[] 0)).heap.size = w.heap.size + 1 := nblk_alloc _ _
 have e2 : ((w.alloc (.map #[] 0)).alloc (.map #[] 0)).heap.size = w.heap.size + 2 := by rw [nblk_alloc, e1]
 refine ⟨by first | rfl | simp, ?_, ?_⟩
 ·refine ⟨?_, ⟨0, _, Nat.le_refl _, ((MapV.made w).alloc _).alloc _, fun k => ⟨(fun _ => rfl), (fun x hx => by cases hx)⟩⟩, ?_, Nat.le_refl _, by omega, by omega, by omega, fun g hg => by cases hg⟩
  ·have h9 := blk_alloc_new ((w.alloc (.map #[] 0)).alloc (.map #[] 0)) (.cells #[.map (some w.heap.size), .int .i64 0, .int .i64 0, .map (some (w.heap.size + 1))] 51)
   rw [e2] at h9
   exact h9
  ·have h8 := MapV.made (w.alloc (.map #[] 0))
   rw [e1] at h8
   exact h8.alloc _
 ·exact (((Below.refl w.heap.size w).alloc (Nat.le_refl _) _).alloc (by omega) _).alloc (by omega) _
section
variable {O : Nat → Prop} {tb q r K nm own : Nat} {hi : Int} {σ : Int → Option Rw} {μ : Int → Option Int} {w : World}
theorem ornew_any (h : PT O w tb q r K nm own hi σ μ) : Calls Tryd.prog 28 #[.pointer (some ⟨tb, 0, none⟩)] w fun e w' => e = .returned (.pointer (some ⟨tb, 0, none⟩)) ∧ w' = w := by
 obtain ⟨t0, t1, t2, t3, tf⟩ := h.cells
 clear h t1 t2 t3 tf
 have hq : ∀ w : World, Sem.run Tryd.prog (binOp BinOp.eql 39 (.map (some q)) (.map none)) w = .ok (.bool false) w := fun _ => rfl
 go_enter Tryd.func28, Tryd.ntmps28
 go_wp2_with fail
 go_ret
 exact ⟨rfl, rfl⟩
/-- All of what is handed may be; the greatest of all is kept. -/
def InHd (O : Nat → Prop) (tb q r K nm own : Nat) (hi : Int) (σ : Int → Option Rw) (μ : Int → Option Int) (L : List Rw) (w0 : World) (bv iv : Value) (wr : World) : Prop := ∃ k : Nat, k ≤ L.length ∧ iv = .int .i64 (k : Int) ∧ bv = .bool true ∧ PT O wr tb q r K nm own (grL (L.take k) hi) σ μ ∧ Only (Own3 tb q r) w0 wr
theorem handed_any (h : PT O w tb q r K nm own hi σ μ) {L : List Rw} {ao : Option Addr} (hrt : RT (fun g => ¬ Own3 tb q r g) w L ao) (hm : mayL L = true) (hsz : szRL L ≤ 100000) (c : Nat) : Calls Tryd.prog 29 #[.pointer (some ⟨tb, 0, none⟩), .slice ao L.length c] w fun e w' => e = .returned (.bool true) ∧ PT O w' tb q r K nm own (grL L hi) σ μ ∧ Only (Own3 tb q r) w w' := by
 have T0 := hidden h
 have X0 := hidden hrt
 have HM := hidden hm
 have HB : Hid (∀ g, O g ∨ Own3 tb q r g → g < w.heap.size) := fun g hg => h.new hg
 have hll := len_szRL L
 obtain ⟨l, hl⟩ : ∃ l, L.length = l := ⟨_, rfl⟩
 rw [hl] at hll ⊢
 have HL := hidden hl
 clear h hrt hm hl
 go_enter Tryd.func29, Tryd.ntmps29
 go_wp2_with fail
 go_loopw [5, 10] (fun bv iv wr => InHd O tb q r K nm own hi σ μ L w bv iv wr) (fun bv iv wr => (l - intOf iv).toNat)
 case atStart => exact ⟨0, Nat.zero_le _, rfl, rfl, by rw [List.take_zero, grL]; exact T0.out, Only.refl _ _⟩
 case round =>
  obtain ⟨k, k1, rfl, rfl, g1, g2⟩ := hrel
  rw [HL.out] at k1
  have G1 := hidden g1
  have G2 := hidden g2
  have hszw := g2.size
  have X1 := X0.out.keep (w' := wr) (fun g hg hl => g2.block g hl hg)
  obtain ⟨m, hm⟩ : ∃ m, grL (L.take k) hi = m := ⟨_, rfl⟩
  rw [hm] at G1
  have HMX := hidden hm
  clear g1 g2 hm
  by_cases hlt : k < l
  ·have z1 : (k : Int) < (l : Int) := by omega
   have zi : (0 : Int) ≤ (k : Int) ∧ (k : Int) < (l : Int) := ⟨by omega, z1⟩
   obtain ⟨t, ht⟩ : ∃ t, L[k]? = some t := ⟨_, List.getElem?_eq_getElem (by rw [HL.out]; exact hlt)⟩
   have htz := sz_part (List.mem_of_getElem? ht)
   have HTM := hidden (mayL_mem HM.out t (List.mem_of_getElem? ht))
   have HT := hidden (grL_take1 (a := hi) ht)
   rw [HMX.out] at HT
   obtain ⟨a, al, cp, rfl, t0, t1, t2, _, hr⟩ := rt_part X1 ht
   have R2 := hidden (hr.alloc (.cells #[.int .i64 t.V, .string ⟨t.S.toArray⟩, .slice al t.L.length cp] 24))
   have T2 := hidden (G1.out.alloc (.cells #[.int .i64 t.V, .string ⟨t.S.toArray⟩, .slice al t.L.length cp] 24))
   have B2 := hidden (B3.new wr t.V ⟨t.S.toArray⟩ (.slice al t.L.length cp))
   have O2 := hidden (G2.out.alloc (.cells #[.int .i64 t.V, .string ⟨t.S.toArray⟩, .slice al t.L.length cp] 24))
   have S2 := hidden (nblk_alloc wr (.cells #[.int .i64 t.V, .string ⟨t.S.toArray⟩, .slice al t.L.length cp] 24))
   have HBW : Hid (∀ g, O g ∨ Own3 tb q r g → g ≠ wr.heap.size) := fun g hg => by have h9 := HB.out g hg; omega
   clear hr ht X1
   go_upto_region 5 with fail
   generalize wr.alloc (.cells #[.int .i64 t.V, .string ⟨t.S.toArray⟩, .slice al t.L.length cp] 24) = w1 at *
   clear t0 t1 t2
   have TD9 : Hid (PT O w1.drew tb q r K nm own m σ μ) := T2.out.keep (fun g _ _ => rfl)
   have RD : Hid (RT (fun g => ¬ Own3 tb q r g) w1.drew t.L al) := R2.out.keep (fun g _ _ => rfl)
   have OD : Hid (Only (Own3 tb q r) w w1.drew) := O2.out.drewN 1
   have HN := hidden (pgr t.sz t (Nat.le_refl _) (by omega) w1.drew al cp RD.out)
   obtain ⟨g, hg⟩ : ∃ g, t.gr = g := ⟨_, rfl⟩
   rw [hg] at HN HT
   clear hg
   obtain ⟨t0, t1, t2, t3, tf⟩ := T2.out.cells
   clear t0 t1 t3
   obtain ⟨b0, b1, b2, bf⟩ := B2.out.cells
   clear bf
   refine region_till (S := (fun w' => w'.cell? ⟨tb, 2, none⟩ = some (.int .i64 m) ∧ w'.cell? ⟨wr.heap.size, 0, none⟩ = some (.int .i64 t.V) ∧ w'.cell? ⟨wr.heap.size, 1, none⟩ = some (.string ⟨t.S.toArray⟩) ∧ w'.cell? ⟨wr.heap.size, 2, none⟩ = some (.slice al t.L.length cp))) (kz := 10) (by kernel_rfl) ⟨t2, b0, b1, b2⟩ (fun hHeld => ?_)
   refine AnyTill.tk (i := 0) (v := ?_) hHeld ?_ ?_
   rotate_left
   ·(intro w hSw; (try dsimp only at hSw); go_simp; (try with_reducible rfl))
   (try simp only [Act.put, q4, q5, q6, q1, q2, q3])
   refine AnyTill.tk (i := 1) (v := ?_) hHeld ?_ ?_
   rotate_left
   ·(intro w hSw; (try dsimp only at hSw); go_simp; (try with_reducible rfl))
   (try simp only [Act.put, q4, q5, q6, q1, q2, q3])
   refine AnyTill.tk (i := 2) (v := ?_) hHeld ?_ ?_
   rotate_left
   ·(intro w hSw; (try dsimp only at hSw); go_simp; (try with_reducible rfl))
   (try simp only [Act.put, q4, q5, q6, q1, q2, q3])
   refine AnyTill.tk (i := 3) (v := ?_) hHeld ?_ ?_
   rotate_left
   ·(intro w hSw; (try dsimp only at hSw); go_simp; (try with_reducible rfl))
   (try simp only [Act.put, q4, q5, q6, q1, q2, q3])
   refine AnyTill.tk (i := 4) (v := ?_) hHeld ?_ ?_
   rotate_left
   ·(intro w hSw; (try dsimp only at hSw); go_simp; (try with_reducible rfl))
   (try simp only [Act.put, q4, q5, q6, q1, q2, q3])
   refine AnyTill.tk (i := 5) (v := ?_) hHeld ?_ ?_
   rotate_left
   ·(intro w hSw; (try dsimp only at hSw); go_simp; (try with_reducible rfl))
   (try simp only [Act.put, q4, q5, q6, q1, q2, q3])
   refine AnyTill.one (i := 6) (by kernel_rfl) rfl (fun K9 hK9 => ?_)
   (try simp only [q1, q2, q3])
   go_simp
   refine HN.out.mono ?_
   rintro e w3 ⟨rfl, hb⟩
   have T3 : Hid (PT O w3 tb q r K nm own m σ μ) := TD9.out.below hb (Nat.le_refl _)
   have B3x : Hid (B3 w3 wr.heap.size t.V ⟨t.S.toArray⟩ (.slice al t.L.length cp)) := B2.out.keep ((hb.block _ (show _ < w1.heap.size from B2.out.lt)).trans rfl)
   have R3 : Hid (RT (fun g => ¬ Own3 tb q r g) w3 t.L al) := RD.out.beneath hb (Nat.le_refl _)
   have O3 : Hid (Only (Own3 tb q r) w w3) := OD.out.trans (Only.of_below hb)
   obtain ⟨s0, s1, s2, s3, sf⟩ := T3.out.cells
   obtain ⟨c0, c1, c2, cf⟩ := B3x.out.cells
   refine hK9.out _ _ (fun _ => ⟨s2, c0, c1, c2⟩) ?_
   clear hK9 K9
   (try simp only [Act.put, q4, q5, q6, q1, q2, q3])
   clear hb s0 s1 s3 cf
   refine AnyTill.take (i := 7) (v := ?_) rfl (by kernel_rfl) (by kernel_rfl) (by kernel_rfl) (by kernel_rfl) (fun _ _ _ h => h) (Or.inl ⟨by rfl, ?_⟩) ⟨s2, c0, c1, c2⟩ ?_
   rotate_left
   ·(intro w hSw; (try dsimp only at hSw); go_simp; (try with_reducible rfl))
   (try simp only [Act.put, q4, q5, q6, q1, q2, q3])
   refine AnyTill.one (i := 8) (by kernel_rfl) rfl (fun K9 hK9 => ?_)
   (try simp only [q1, q2, q3])
   go_simp
   refine hK9.out _ _ (fun _ => ⟨s2, c0, c1, c2⟩) ?_
   clear hK9 K9
   (try simp only [Act.put, q4, q5, q6, q1, q2, q3])
   refine AnyTill.one (i := 9) (by kernel_rfl) rfl (fun K9 hK9 => ?_)
   (try simp only [q1, q2, q3])
   go_simp
   refine hK9.out _ _ (fun _ => ⟨s2, c0, c1, c2⟩) ?_
   clear hK9 K9
   (try simp only [Act.put, q4, q5, q6, q1, q2, q3])
   clear c0 c1 c2
   refine AnyTill.one (i := 10) (by kernel_rfl) rfl (fun K9 hK9 => ?_)
   (try simp only [q1, q2, q3])
   go_simp
   refine hK9.out _ _ (fun h => absurd rfl h) ?_
   clear hK9 K9
   (try simp only [Act.put, q4, q5, q6, q1, q2, q3])
   refine AnyTill.done (by kernel_rfl) ?_ _
   (try simp only [Act.put, q4, q5, q6, q1, q2, q3])
   have eg : (if g > m then g else m) = max m g := by
    by_cases hc : m < g
    ·rw [if_pos hc, Int.max_eq_right (by omega)]
    ·rw [if_neg hc, Int.max_eq_left (by omega)]
   have T4 := hidden (T3.out.setHi (max m g))
   have B4 : Hid (B3 (w3.setCell ⟨tb, 2, none⟩ (.int .i64 (max m g))) wr.heap.size t.V ⟨t.S.toArray⟩ (.slice al t.L.length cp)) := B3x.out.keep (blk_setCell_other _ _ _ _ (fun e => HBW.out tb (Or.inr (Or.inl rfl)) e.symm))
   have R4 : Hid (RT (fun g => ¬ Own3 tb q r g) (w3.setCell ⟨tb, 2, none⟩ (.int .i64 (max m g))) t.L al) := R3.out.keep (fun g hg _ => blk_setCell_other _ _ _ _ (fun e => hg (Or.inl e)))
   have O4 : Hid (Only (Own3 tb q r) w (w3.setCell ⟨tb, 2, none⟩ (.int .i64 (max m g)))) := O3.out.setNew (Or.inr (Or.inl rfl)) _ _
   (try simp only [gt_iff_lt] at eg)
   (try simp only [gt_iff_lt])
   (try rw [eg])
   clear eg
   obtain ⟨w4, hw4⟩ : ∃ w4, w3.setCell ⟨tb, 2, none⟩ (.int .i64 (max m g)) = w4 := ⟨_, rfl⟩
   rw [hw4] at T4 B4 R4 O4
   simp only [hw4]
   clear hw4 s2 t2 b0 b1 b2 tf
   obtain ⟨b0, b1, b2, bf⟩ := B4.out.cells
   have HN2 := hidden (pmay t.sz t (Nat.le_refl _) (by omega) w4 al cp R4.out)
   rw [HTM.out] at HN2
   go_wp2_with fail
   refine HN2.out.mono ?_
   rintro e w5 ⟨rfl, hb5⟩
   have T5 := hidden (T4.out.below hb5 (Nat.le_refl _))
   have O5 := hidden (O4.out.trans (Only.of_below hb5))
   clear hb5 b0 b1 b2 bf
   go_wp2_with fail
   go_roundw
   case rel => exact ⟨k + 1, by rw [HL.out]; omega, by go_num, rfl, by rw [HT.out]; exact T5.out, O5.out⟩
   case measure => simp [intOf]; omega
  ·have z1 : ¬ (k : Int) < (l : Int) := by omega
   have HF : Hid (grL L hi = m) := by
    show _ = _
    have h9 := HMX.out
    rw [List.take_of_length_le (by rw [HL.out]; omega)] at h9
    exact h9
   go_wp2_with fail
   go_ret
   exact ⟨rfl, by rw [HF.out]; exact G1.out, G2.out⟩
end
end Go.Proofs.YtnebhiaeechpaaaDoor
