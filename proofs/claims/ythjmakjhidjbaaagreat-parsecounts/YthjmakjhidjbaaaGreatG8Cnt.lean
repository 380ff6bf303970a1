/-
 Layer 8: Count and Deep, the document's and the program's, over a tree that lies anywhere in memory. Condition: the tree lies in memory.
-/
import Derived.Test.YthjmakjhidjbaaaGreatLibAX
namespace Go.Proofs.YthjmakjhidjbaaaGreat
open Go.ChangeShapes Go.WideShapes Go.ChangeAt Go.RowKit Go.Deep
set_option linter.unusedVariables false
set_option linter.unusedSimpArgs false
set_option maxHeartbeats 2000000
set_option maxRecDepth 20000

/-- Trees that a slice leads to, wherever it begins. -/
inductive RG (f : Nat → Int) (w : World) : List Tr → Option Addr → Prop
 | mk {L : List Tr} {ao : Option Addr} (aos : Nat → Option Addr) (cps : Nat → Nat) (h : ∀ k t, L[k]? = some t → ∃ a : Addr, ao = some a ∧ True ∧ w.cell? (a.add (k * 5)) = some (.int .i64 t.kind) ∧ w.cell? ⟨(a.add (k * 5)).block, (a.add (k * 5)).off + 1, none⟩ = some (.int .i64 (f t.pl)) ∧ w.cell? ⟨(a.add (k * 5)).block, (a.add (k * 5)).off + 2, none⟩ = some (.int .i64 t.N) ∧ w.cell? ⟨(a.add (k * 5)).block, (a.add (k * 5)).off + 3, none⟩ = some (.string ⟨t.S.toArray⟩) ∧ w.cell? ⟨(a.add (k * 5)).block, (a.add (k * 5)).off + 4, none⟩ = some (.slice (aos k) t.L.length (cps k))) (hr : ∀ k t, L[k]? = some t → RG f w t.L (aos k)) : RG f w L ao
theorem cell_ltA {w : World} {a : Addr} {v : Value} (h : w.cell? a = some v) : a.block < w.heap.size := by
 unfold World.cell? at h
 rcases Nat.lt_or_ge a.block w.heap.size with c | c
 ·exact c
 ·rw [Array.getElem?_eq_none c] at h
  cases h
theorem RG.keep {f : Nat → Int} {w w' : World} {L : List Tr} {ao : Option Addr} (h : RG f w L ao) (k : ∀ g, g < w.heap.size → w'.heap[g]? = w.heap[g]?) : RG f w' L ao := by
 induction h with
 | mk aos cps h hr ih =>
  refine .mk aos cps (fun j t hj => ?_) ih
  obtain ⟨a, e, hp, h0, h1, h2, h3, h4⟩ := h j t hj
  have hb := k _ (cell_ltA h0)
  have hc : ∀ o, w'.cell? ⟨(a.add (j * 5)).block, o, none⟩ = w.cell? ⟨(a.add (j * 5)).block, o, none⟩ := fun o => World.cell?_of_block (a := ⟨(a.add (j * 5)).block, o, none⟩) hb
  have hc0 : w'.cell? (a.add (j * 5)) = w.cell? (a.add (j * 5)) := World.cell?_of_block (a := a.add (j * 5)) hb
  exact ⟨a, e, hp, by rw [hc0]; exact h0, by rw [hc]; exact h1, by rw [hc]; exact h2, by rw [hc]; exact h3, by rw [hc]; exact h4⟩
theorem RG.alloc {f : Nat → Int} {w : World} {L : List Tr} {ao : Option Addr} (h : RG f w L ao) (o : Obj) : RG f (w.alloc o) L ao := h.keep (fun g hl => blk_alloc_lt _ _ _ hl)
theorem RG.beneath {f : Nat → Int} {w w' : World} {L : List Tr} {ao : Option Addr} {B : Nat} (h : RG f w L ao) (k : Below B w w') (hB : w.heap.size ≤ B) : RG f w' L ao := h.keep (fun g hl => k.block g (by omega))
theorem deepT_is3 (f : Nat → Int) (m : Nat) (s : Tr) : (match m with | 0 => some (f s.pl) | m + 1 => deepL f m s.L) = deepT f m s := by
 cases m with
 | zero => rw [deepT]
 | succ m => rw [deepT]
theorem countG8 {f : Nat → Int} : ∀ (n : Nat) (x : Tr), x.cnt ≤ n → n ≤ 1000000 → ∀ (w : World) (ao : Option Addr) (c : Nat) (p m : Int), -1000000 ≤ m → m ≤ 1000000 → RG f w x.L ao →
  Calls Tryz.prog 13 #[.agg #[.int .i64 x.kind, .int .i64 p, .int .i64 x.N, .string ⟨x.S.toArray⟩, .slice ao x.L.length c], .int .i64 m] w fun e w' => e = .returned (.int .i64 (cntM x m)) ∧ Below w.heap.size w w' := by
 intro n
 induction n with
 | zero => intro x h; have := cnt_pos x; omega
 | succ n ih =>
  intro x hx hn w ao c p m hm0 hm1 hrl
  have IH := hidden ih
  have X := hidden hrl
  have hcl := cntL_len x.L
  have hcc := cnt_L x
  clear ih hrl
  by_cases hneg : m < 0
  ·have hR : cntM x m = 0 := by unfold cntM; rw [if_pos hneg]
   rw [hR]
   go_enter Tryz.func13, Tryz.ntmps13
   go_wp2_with fail
   go_ret
   exact ⟨rfl, (Below.refl _ _).alloc (Nat.le_refl _) _⟩
  ·obtain ⟨R, hR⟩ : ∃ R, cntM x m = R := ⟨_, rfl⟩
   rw [hR]
   have HR := hidden hR
   clear hR
   obtain ⟨l, hl⟩ : ∃ l, x.L.length = l := ⟨_, rfl⟩
   rw [hl]
   rw [hl] at hcl
   have HLl := hidden hl
   clear hl
   go_enter Tryz.func13, Tryz.ntmps13
   go_wp2_with fail
   have A0 := hidden (B5.new w x.kind p x.N ⟨x.S.toArray⟩ (.slice ao l c))
   have X0 := hidden (X.out.alloc (.cells #[.int .i64 x.kind, .int .i64 p, .int .i64 x.N, .string ⟨x.S.toArray⟩, .slice ao l c] 25))
   have D0 := hidden ((Below.refl w.heap.size w).alloc (Nat.le_refl _) (.cells #[.int .i64 x.kind, .int .i64 p, .int .i64 x.N, .string ⟨x.S.toArray⟩, .slice ao l c] 25))
   clear X
   generalize w.alloc (.cells #[.int .i64 x.kind, .int .i64 p, .int .i64 x.N, .string ⟨x.S.toArray⟩, .slice ao l c] 25) = w0 at *
   go_loopw [5, 6] (fun mv iv wr => ∃ k : Nat, k ≤ l ∧ iv = .int .i64 (k : Int) ∧ mv = .int .i64 (if (cntTo x.L k : Int) ≤ m then (cntTo x.L k : Int) else m + 1) ∧ Below w0.heap.size w0 wr) (fun mv iv wr => (l - intOf iv).toNat)
   case atStart => exact ⟨0, by omega, rfl, by rw [show cntTo x.L 0 = 1 from rfl]; split <;> congr 1; omega, Below.refl _ _⟩
   case round =>
    obtain ⟨k, k1, rfl, rfl, hbl⟩ := hrel
    have X1 := X0.out.beneath hbl (Nat.le_refl _)
    have A1 := hidden (A0.out.below hbl (Nat.le_refl _))
    have BL := hidden hbl
    have hd := D0.out.size
    have he := hbl.size
    have hto := cntTo_le x k
    clear hbl
    obtain ⟨a0, a1, a2, a3, a4, af⟩ := A1.out.cells
    by_cases hq : (cntTo x.L k : Int) ≤ m
    ·rw [if_pos hq]
     by_cases hlt : k < l
     ·have z1 : (k : Int) < (l : Int) := by omega
      have zi : (0 : Int) ≤ (k : Int) ∧ (k : Int) < (l : Int) := ⟨by omega, z1⟩
      obtain ⟨s, hs⟩ : ∃ s, x.L[k]? = some s := ⟨_, List.getElem?_eq_getElem (by rw [HLl.out]; exact hlt)⟩
      have hsc := cntL_mem (List.mem_of_getElem? hs)
      have hsu := cntTo_succ hs
      obtain ⟨aos, cps, hh, hr⟩ := X1
      have R1 := hidden (hr k s hs)
      obtain ⟨g, rfl, _, s0, s1, s2, s3, s4⟩ := hh k s hs
      have HI := hidden (fun w r => IH.out s (by omega) (by omega) w (aos k) (cps k) (f s.pl) (m - (cntTo x.L k : Int)) (by omega) (by omega) r)
      have HC : Hid ((cntTo x.L k : Int) + cntM s (m - (cntTo x.L k : Int)) = if (cntTo x.L (k + 1) : Int) ≤ m then (cntTo x.L (k + 1) : Int) else m + 1) := by
       show _ = _
       unfold cntM
       rw [if_neg (by omega), hsu]
       split <;> split <;> omega
      have hcb : (0 : Int) ≤ cntM s (m - (cntTo x.L k : Int)) ∧ cntM s (m - (cntTo x.L k : Int)) ≤ 2000000 := by
       unfold cntM
       split
       ·omega
       ·split <;> omega
      clear hh hr hs a0 a1 a2 a3 af hsu
      generalize cntM s (m - (cntTo x.L k : Int)) = ct at *
      generalize (cntTo x.L k) = ck at *
      go_wp2_with (go_at_call 13; refine (HI.out _ R1.out).mono ?_; rintro e w6 ⟨rfl, hb6⟩; have B6 := hidden hb6; clear hb6)
      go_roundw
      case rel => exact ⟨k + 1, by omega, by go_num, by rw [HC.out], BL.out.trans (B6.out.mono he)⟩
      case measure => simp [intOf]; omega
     ·have z1 : ¬ (k : Int) < (l : Int) := by omega
      have hkl : k = l := by omega
      have HO : Hid (R = (cntTo x.L k : Int)) := by
       show _ = _
       have e2 : cntTo x.L k = x.cnt := by rw [hkl, ← HLl.out]; exact cntTo_all x
       rw [e2] at hq ⊢
       rw [← HR.out]
       unfold cntM
       rw [if_neg (by omega), if_pos hq]
      clear X1
      generalize (cntTo x.L k) = ck at *
      go_wp2_with fail
      go_ret
      exact ⟨by rw [HO.out]; rfl, D0.out.trans (BL.out.mono hd)⟩
    ·rw [if_neg hq]
     have HO : Hid (R = m + 1) := by
      show _ = _
      rw [← HR.out]
      unfold cntM
      rw [if_neg (by omega), if_neg (by omega)]
     clear X1 hq
     by_cases hlt : (k : Int) < (l : Int)
     ·go_wp2_with fail
      go_ret
      exact ⟨by rw [HO.out]; rfl, D0.out.trans (BL.out.mono hd)⟩
     ·go_wp2_with fail
      go_ret
      exact ⟨by rw [HO.out]; rfl, D0.out.trans (BL.out.mono hd)⟩
theorem countGP {f : Nat → Int} : ∀ (n : Nat) (x : Tr), x.cnt ≤ n → n ≤ 1000000 → ∀ (w : World) (ao : Option Addr) (c : Nat) (p m : Int), -1000000 ≤ m → m ≤ 1000000 → RG f w x.L ao →
  Calls Tryz.prog 16 #[.agg #[.int .i64 x.kind, .int .i64 p, .int .i64 x.N, .string ⟨x.S.toArray⟩, .slice ao x.L.length c], .int .i64 m] w fun e w' => e = .returned (.int .i64 (cntM x m)) ∧ Below w.heap.size w w' := by
 intro n
 induction n with
 | zero => intro x h; have := cnt_pos x; omega
 | succ n ih =>
  intro x hx hn w ao c p m hm0 hm1 hrl
  have IH := hidden ih
  have X := hidden hrl
  have hcl := cntL_len x.L
  have hcc := cnt_L x
  clear ih hrl
  by_cases hneg : m < 0
  ·have hR : cntM x m = 0 := by unfold cntM; rw [if_pos hneg]
   rw [hR]
   go_enter Tryz.func16, Tryz.ntmps16
   go_wp2_with fail
   go_ret
   exact ⟨rfl, (Below.refl _ _).alloc (Nat.le_refl _) _⟩
  ·obtain ⟨R, hR⟩ : ∃ R, cntM x m = R := ⟨_, rfl⟩
   rw [hR]
   have HR := hidden hR
   clear hR
   obtain ⟨l, hl⟩ : ∃ l, x.L.length = l := ⟨_, rfl⟩
   rw [hl]
   rw [hl] at hcl
   have HLl := hidden hl
   clear hl
   go_enter Tryz.func16, Tryz.ntmps16
   go_wp2_with fail
   have A0 := hidden (B5.new w x.kind p x.N ⟨x.S.toArray⟩ (.slice ao l c))
   have X0 := hidden (X.out.alloc (.cells #[.int .i64 x.kind, .int .i64 p, .int .i64 x.N, .string ⟨x.S.toArray⟩, .slice ao l c] 25))
   have D0 := hidden ((Below.refl w.heap.size w).alloc (Nat.le_refl _) (.cells #[.int .i64 x.kind, .int .i64 p, .int .i64 x.N, .string ⟨x.S.toArray⟩, .slice ao l c] 25))
   clear X
   generalize w.alloc (.cells #[.int .i64 x.kind, .int .i64 p, .int .i64 x.N, .string ⟨x.S.toArray⟩, .slice ao l c] 25) = w0 at *
   go_loopw [5, 13] (fun mv iv wr => ∃ k : Nat, k ≤ l ∧ iv = .int .i64 (k : Int) ∧ mv = .int .i64 (if (cntTo x.L k : Int) ≤ m then (cntTo x.L k : Int) else m + 1) ∧ Below w0.heap.size w0 wr) (fun mv iv wr => (l - intOf iv).toNat)
   case atStart => exact ⟨0, by omega, rfl, by rw [show cntTo x.L 0 = 1 from rfl]; split <;> congr 1; omega, Below.refl _ _⟩
   case round =>
    obtain ⟨k, k1, rfl, rfl, hbl⟩ := hrel
    have X1 := X0.out.beneath hbl (Nat.le_refl _)
    have A1 := hidden (A0.out.below hbl (Nat.le_refl _))
    have BL := hidden hbl
    have hd := D0.out.size
    have he := hbl.size
    have hto := cntTo_le x k
    clear hbl
    obtain ⟨a0, a1, a2, a3, a4, af⟩ := A1.out.cells
    by_cases hlt : k < l
    ·have z1 : (k : Int) < (l : Int) := by omega
     have zi : (0 : Int) ≤ (k : Int) ∧ (k : Int) < (l : Int) := ⟨by omega, z1⟩
     obtain ⟨s, hs⟩ : ∃ s, x.L[k]? = some s := ⟨_, List.getElem?_eq_getElem (by rw [HLl.out]; exact hlt)⟩
     have hsc := cntL_mem (List.mem_of_getElem? hs)
     have hsu := cntTo_succ hs
     obtain ⟨aos, cps, hh, hr⟩ := X1
     have R1 := hidden (hr k s hs)
     obtain ⟨g, rfl, _, s0, s1, s2, s3, s4⟩ := hh k s hs
     obtain ⟨tv, htv⟩ : ∃ tv : Int, (if (cntTo x.L k : Int) ≤ m then (cntTo x.L k : Int) else m + 1) = tv := ⟨_, rfl⟩
     rw [htv]
     have htb : 0 ≤ tv ∧ tv ≤ m + 1 := by rw [← htv]; split <;> omega
     have HI := hidden (fun w r => IH.out s (by omega) (by omega) w (aos k) (cps k) (f s.pl) (m - tv) (by omega) (by omega) r)
     have HC : Hid (tv + cntM s (m - tv) = if (cntTo x.L (k + 1) : Int) ≤ m then (cntTo x.L (k + 1) : Int) else m + 1) := by
      show _ = _
      have := cnt_pos s
      unfold cntM
      rw [hsu, ← htv]
      split <;> split <;> (try split) <;> (try split) <;> omega
     have hcb : (0 : Int) ≤ cntM s (m - tv) ∧ cntM s (m - tv) ≤ 2000000 := by
      unfold cntM
      split
      ·omega
      ·split <;> omega
     clear hh hr hs a0 a1 a2 a3 a4 af hsu htv hto
     generalize cntM s (m - tv) = ct at *
     go_wp2_with (go_at_call 16; refine (HI.out _ (R1.out.alloc _)).mono ?_; rintro e w6 ⟨rfl, hb6⟩; have B6 := hidden hb6; clear hb6)
     go_roundw
     case rel => exact ⟨k + 1, by omega, by go_num, by rw [HC.out], BL.out.trans (((Below.refl _ _).alloc (Nat.le_refl _) _).trans (B6.out.mono (by rw [nblk_alloc]; omega)) |>.mono he)⟩
     case measure => simp [intOf]; omega
    ·have z1 : ¬ (k : Int) < (l : Int) := by omega
     have hkl : k = l := by omega
     have HO : Hid (R = (if (cntTo x.L k : Int) ≤ m then (cntTo x.L k : Int) else m + 1)) := by
      show _ = _
      have e2 : cntTo x.L k = x.cnt := by rw [hkl, ← HLl.out]; exact cntTo_all x
      rw [e2, ← HR.out]
      unfold cntM
      rw [if_neg (by omega)]
     clear X1
     generalize (if (cntTo x.L k : Int) ≤ m then (cntTo x.L k : Int) else m + 1) = tv at *
     go_wp2_with fail
     go_ret
     exact ⟨by rw [HO.out]; rfl, D0.out.trans (BL.out.mono hd)⟩
theorem deepG8 {f : Nat → Int} : ∀ (n : Nat) (x : Tr), x.cnt ≤ n → n ≤ 1000000 → ∀ (w : World) (ao : Option Addr) (c : Nat) (p : Int) (m : Nat), m ≤ 1000000 → RG f w x.L ao →
  Calls Tryz.prog 15 #[.agg #[.int .i64 x.kind, .int .i64 p, .int .i64 x.N, .string ⟨x.S.toArray⟩, .slice ao x.L.length c], .int .i64 (m : Int)] w fun e w' => e = .returned (deepR (match m with | 0 => some p | m + 1 => deepL f m x.L)) ∧ Below w.heap.size w w' := by
 intro n
 induction n with
 | zero => intro x h; have := cnt_pos x; omega
 | succ n ih =>
  intro x hx hn w ao c p m hm1 hrl
  have IH := hidden ih
  have X := hidden hrl
  have hcl := cntL_len x.L
  have hcc := cnt_L x
  clear ih hrl
  cases m with
  | zero =>
   go_enter Tryz.func15, Tryz.ntmps15
   go_wp2_with fail
   go_ret2
   exact ⟨rfl, (Below.refl _ _).alloc (Nat.le_refl _) _⟩
  | succ m =>
   obtain ⟨R, hR⟩ : ∃ R, deepL f m x.L = R := ⟨_, rfl⟩
   simp only [hR]
   have HR := hidden hR
   clear hR
   obtain ⟨l, hl⟩ : ∃ l, x.L.length = l := ⟨_, rfl⟩
   rw [hl]
   rw [hl] at hcl
   have HLl := hidden hl
   have hmm : ((m + 1 : Nat) : Int) = (m : Int) + 1 := by omega
   rw [hmm]
   have hm2 : (m : Int) ≤ 1000000 := by omega
   have hm3 : (0 : Int) ≤ (m : Int) := by omega
   have hm4 : ¬ ((m : Int) + 1 < 1) := by omega
   clear hl hmm
   go_enter Tryz.func15, Tryz.ntmps15
   go_wp2_with fail
   have A0 := hidden (B5.new w x.kind p x.N ⟨x.S.toArray⟩ (.slice ao l c))
   have X0 := hidden (X.out.alloc (.cells #[.int .i64 x.kind, .int .i64 p, .int .i64 x.N, .string ⟨x.S.toArray⟩, .slice ao l c] 25))
   have D0 := hidden ((Below.refl w.heap.size w).alloc (Nat.le_refl _) (.cells #[.int .i64 x.kind, .int .i64 p, .int .i64 x.N, .string ⟨x.S.toArray⟩, .slice ao l c] 25))
   clear X
   generalize w.alloc (.cells #[.int .i64 x.kind, .int .i64 p, .int .i64 x.N, .string ⟨x.S.toArray⟩, .slice ao l c] 25) = w0 at *
   go_loopw [6] (fun iv wr => ∃ k : Nat, k ≤ l ∧ iv = .int .i64 (k : Int) ∧ (∀ (j : Nat) (b : Tr), j < k → x.L[j]? = some b → deepT f m b = none) ∧ Below w0.heap.size w0 wr) (fun iv wr => (l - intOf iv).toNat)
   case atStart => exact ⟨0, by omega, rfl, fun j b h => by omega, Below.refl _ _⟩
   case round =>
    obtain ⟨k, k1, rfl, hj, hbl⟩ := hrel
    have X1 := X0.out.beneath hbl (Nat.le_refl _)
    have A1 := hidden (A0.out.below hbl (Nat.le_refl _))
    have BL := hidden hbl
    have HJ := hidden hj
    have hd := D0.out.size
    have he := hbl.size
    clear hbl hj
    obtain ⟨a0, a1, a2, a3, a4, af⟩ := A1.out.cells
    by_cases hlt : k < l
    ·have z1 : (k : Int) < (l : Int) := by omega
     have zi : (0 : Int) ≤ (k : Int) ∧ (k : Int) < (l : Int) := ⟨by omega, z1⟩
     obtain ⟨s, hs⟩ : ∃ s, x.L[k]? = some s := ⟨_, List.getElem?_eq_getElem (by rw [HLl.out]; exact hlt)⟩
     have hsc := cntL_mem (List.mem_of_getElem? hs)
     obtain ⟨aos, cps, hh, hr⟩ := X1
     have R1 := hidden (hr k s hs)
     obtain ⟨g, rfl, _, s0, s1, s2, s3, s4⟩ := hh k s hs
     have HI := hidden (fun w r => IH.out s (by omega) (by omega) w (aos k) (cps k) (f s.pl) m (by omega) r)
     have hdt := deepT_is3 f m s
     rw [hdt] at HI
     have HS := hidden hs
     clear hh hr hs a0 a1 a2 a3 af hdt
     cases hq : deepT f m s with
     | some q =>
      have HO : Hid (R = some q) := by show _ = _; rw [← HR.out]; exact deepL_at HS.out hq HJ.out
      rw [hq] at HI
      have HI2 : Hid (∀ w', RG f w' s.L (aos k) → Calls Tryz.prog 15 #[.agg #[.int .i64 s.kind, .int .i64 (f s.pl), .int .i64 s.N, .string ⟨s.S.toArray⟩, .slice (aos k) s.L.length (cps k)], .int .i64 (m : Int)] w' fun e w'' => e = .returned (.tuple #[.int .i64 q, .bool true]) ∧ Below w'.heap.size w' w'') := HI.out
      clear hq HI
      go_wp2_with (go_at_call 15; refine (HI2.out _ R1.out).mono ?_; rintro e w6 ⟨rfl, hb6⟩; have B6 := hidden hb6; clear hb6)
      go_ret2
      exact ⟨by rw [HO.out]; rfl, D0.out.trans ((BL.out.trans (B6.out.mono he)).mono hd)⟩
     | none =>
      have HJ2 : Hid (∀ (j : Nat) (b : Tr), j < k + 1 → x.L[j]? = some b → deepT f m b = none) := fun j b h hb => by
       by_cases e : j = k
       ·rw [e, HS.out] at hb; cases hb; exact hq
       ·exact HJ.out j b (by omega) hb
      rw [hq] at HI
      have HI2 : Hid (∀ w', RG f w' s.L (aos k) → Calls Tryz.prog 15 #[.agg #[.int .i64 s.kind, .int .i64 (f s.pl), .int .i64 s.N, .string ⟨s.S.toArray⟩, .slice (aos k) s.L.length (cps k)], .int .i64 (m : Int)] w' fun e w'' => e = .returned (.tuple #[.int .i64 0, .bool false]) ∧ Below w'.heap.size w' w'') := HI.out
      clear hq HI
      go_wp2_with (go_at_call 15; refine (HI2.out _ R1.out).mono ?_; rintro e w6 ⟨rfl, hb6⟩; have B6 := hidden hb6; clear hb6)
      go_roundw
      case rel => exact ⟨k + 1, by omega, by go_num, HJ2.out, BL.out.trans (B6.out.mono he)⟩
      case measure => simp [intOf]; omega
    ·have z1 : ¬ (k : Int) < (l : Int) := by omega
     have HO : Hid (R = none) := by
      show _ = _
      rw [← HR.out]
      exact deepL_none (fun j a ha => HJ.out j a (by have := (List.getElem?_eq_some_iff.1 ha).1; rw [HLl.out] at this; omega) ha)
     clear X1
     go_wp2_with fail
     go_ret2
     exact ⟨by rw [HO.out]; rfl, D0.out.trans (BL.out.mono hd)⟩
theorem deepGP {f : Nat → Int} : ∀ (n : Nat) (x : Tr), x.cnt ≤ n → n ≤ 1000000 → ∀ (w : World) (ao : Option Addr) (c : Nat) (p : Int) (m : Nat), m ≤ 1000000 → RG f w x.L ao →
  Calls Tryz.prog 14 #[.agg #[.int .i64 x.kind, .int .i64 p, .int .i64 x.N, .string ⟨x.S.toArray⟩, .slice ao x.L.length c], .int .i64 (m : Int)] w fun e w' => e = .returned (deepR (match m with | 0 => some p | m + 1 => deepL f m x.L)) ∧ Below w.heap.size w w' := by
 intro n
 induction n with
 | zero => intro x h; have := cnt_pos x; omega
 | succ n ih =>
  intro x hx hn w ao c p m hm1 hrl
  have IH := hidden ih
  have X := hidden hrl
  have hcl := cntL_len x.L
  have hcc := cnt_L x
  clear ih hrl
  cases m with
  | zero =>
   go_enter Tryz.func14, Tryz.ntmps14
   go_wp2_with fail
   go_ret2
   exact ⟨rfl, (Below.refl _ _).alloc (Nat.le_refl _) _⟩
  | succ m =>
   obtain ⟨R, hR⟩ : ∃ R, deepL f m x.L = R := ⟨_, rfl⟩
   simp only [hR]
   have HR := hidden hR
   clear hR
   obtain ⟨l, hl⟩ : ∃ l, x.L.length = l := ⟨_, rfl⟩
   rw [hl]
   rw [hl] at hcl
   have HLl := hidden hl
   have hmm : ((m + 1 : Nat) : Int) = (m : Int) + 1 := by omega
   rw [hmm]
   have hm2 : (m : Int) ≤ 1000000 := by omega
   have hm3 : (0 : Int) ≤ (m : Int) := by omega
   have hm4 : ¬ ((m : Int) + 1 < 1) := by omega
   clear hl hmm
   go_enter Tryz.func14, Tryz.ntmps14
   go_wp2_with fail
   have A0 := hidden (B5.new w x.kind p x.N ⟨x.S.toArray⟩ (.slice ao l c))
   have X0 := hidden (X.out.alloc (.cells #[.int .i64 x.kind, .int .i64 p, .int .i64 x.N, .string ⟨x.S.toArray⟩, .slice ao l c] 25))
   have D0 := hidden ((Below.refl w.heap.size w).alloc (Nat.le_refl _) (.cells #[.int .i64 x.kind, .int .i64 p, .int .i64 x.N, .string ⟨x.S.toArray⟩, .slice ao l c] 25))
   clear X
   generalize w.alloc (.cells #[.int .i64 x.kind, .int .i64 p, .int .i64 x.N, .string ⟨x.S.toArray⟩, .slice ao l c] 25) = w0 at *
   go_loopw [17] (fun iv wr => ∃ k : Nat, k ≤ l ∧ iv = .int .i64 (k : Int) ∧ (∀ (j : Nat) (b : Tr), j < k → x.L[j]? = some b → deepT f m b = none) ∧ Below w0.heap.size w0 wr) (fun iv wr => (l - intOf iv).toNat)
   case atStart => exact ⟨0, by omega, rfl, fun j b h => by omega, Below.refl _ _⟩
   case round =>
    obtain ⟨k, k1, rfl, hj, hbl⟩ := hrel
    have X1 := X0.out.beneath hbl (Nat.le_refl _)
    have A1 := hidden (A0.out.below hbl (Nat.le_refl _))
    have BL := hidden hbl
    have HJ := hidden hj
    have hd := D0.out.size
    have he := hbl.size
    clear hbl hj
    obtain ⟨a0, a1, a2, a3, a4, af⟩ := A1.out.cells
    by_cases hlt : k < l
    ·have z1 : (k : Int) < (l : Int) := by omega
     have zi : (0 : Int) ≤ (k : Int) ∧ (k : Int) < (l : Int) := ⟨by omega, z1⟩
     obtain ⟨s, hs⟩ : ∃ s, x.L[k]? = some s := ⟨_, List.getElem?_eq_getElem (by rw [HLl.out]; exact hlt)⟩
     have hsc := cntL_mem (List.mem_of_getElem? hs)
     obtain ⟨aos, cps, hh, hr⟩ := X1
     have R1 := hidden (hr k s hs)
     obtain ⟨g, rfl, _, s0, s1, s2, s3, s4⟩ := hh k s hs
     have HI := hidden (fun w r => IH.out s (by omega) (by omega) w (aos k) (cps k) (f s.pl) m (by omega) r)
     have hdt := deepT_is3 f m s
     rw [hdt] at HI
     have HS := hidden hs
     clear hh hr hs a0 a1 a2 a3 af hdt
     cases hq : deepT f m s with
     | some q =>
      have HO : Hid (R = some q) := by show _ = _; rw [← HR.out]; exact deepL_at HS.out hq HJ.out
      rw [hq] at HI
      have HI2 : Hid (∀ w', RG f w' s.L (aos k) → Calls Tryz.prog 14 #[.agg #[.int .i64 s.kind, .int .i64 (f s.pl), .int .i64 s.N, .string ⟨s.S.toArray⟩, .slice (aos k) s.L.length (cps k)], .int .i64 (m : Int)] w' fun e w'' => e = .returned (.tuple #[.int .i64 q, .bool true]) ∧ Below w'.heap.size w' w'') := HI.out
      clear hq HI
      go_wp2_with (go_at_call 14; refine (HI2.out _ (R1.out.alloc _)).mono ?_; rintro e w6 ⟨rfl, hb6⟩; have B6 := hidden hb6; clear hb6)
      go_ret2
      exact ⟨by rw [HO.out]; rfl, D0.out.trans ((BL.out.trans ((((Below.refl _ _).alloc (Nat.le_refl _) _).trans (B6.out.mono (by rw [nblk_alloc]; omega))).mono he)).mono hd)⟩
     | none =>
      have HJ2 : Hid (∀ (j : Nat) (b : Tr), j < k + 1 → x.L[j]? = some b → deepT f m b = none) := fun j b h hb => by
       by_cases e : j = k
       ·rw [e, HS.out] at hb; cases hb; exact hq
       ·exact HJ.out j b (by omega) hb
      rw [hq] at HI
      have HI2 : Hid (∀ w', RG f w' s.L (aos k) → Calls Tryz.prog 14 #[.agg #[.int .i64 s.kind, .int .i64 (f s.pl), .int .i64 s.N, .string ⟨s.S.toArray⟩, .slice (aos k) s.L.length (cps k)], .int .i64 (m : Int)] w' fun e w'' => e = .returned (.tuple #[.int .i64 0, .bool false]) ∧ Below w'.heap.size w' w'') := HI.out
      clear hq HI
      go_wp2_with (go_at_call 14; refine (HI2.out _ (R1.out.alloc _)).mono ?_; rintro e w6 ⟨rfl, hb6⟩; have B6 := hidden hb6; clear hb6)
      go_roundw
      case rel => exact ⟨k + 1, by omega, by go_num, HJ2.out, BL.out.trans ((((Below.refl _ _).alloc (Nat.le_refl _) _).trans (B6.out.mono (by rw [nblk_alloc]; omega))).mono he)⟩
      case measure => simp [intOf]; omega
    ·have z1 : ¬ (k : Int) < (l : Int) := by omega
     have HO : Hid (R = none) := by
      show _ = _
      rw [← HR.out]
      exact deepL_none (fun j a ha => HJ.out j a (by have := (List.getElem?_eq_some_iff.1 ha).1; rw [HLl.out] at this; omega) ha)
     clear X1
     go_wp2_with fail
     go_ret2
     exact ⟨by rw [HO.out]; rfl, D0.out.trans (BL.out.mono hd)⟩
end Go.Proofs.YthjmakjhidjbaaaGreat
