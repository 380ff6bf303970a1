/-
  Several small texts in one; each tells at its head what it proves, and on what condition.
-/
import Derived.Test.YthjmakjhidjbaaaGreatLibAW
import Derived.Laws.StructEq
import Derived.Test.YthjmakjhidjbaaaGreatLibAU

/-
 Layer 8: Deep of the document, of a tree in memory. Condition: it lies there.
-/
namespace Go.Proofs.YthjmakjhidjbaaaGreat
open Go.ChangeShapes Go.WideShapes Go.ChangeAt Go.RowKit Go.Deep
set_option linter.unusedVariables false
set_option linter.unusedSimpArgs false
set_option maxHeartbeats 4000000
set_option maxRecDepth 20000

mutual
/-- The place of the first node of a tree that is more than m deep. -/
def deepT (f : Nat → Int) : Nat → Tr → Option Int
 | 0, x => some (f x.pl)
 | m + 1, x => deepL f m x.L
def deepL (f : Nat → Int) : Nat → List Tr → Option Int
 | m, [] => none
 | m, a :: L => match deepT f m a with | some p => some p | none => deepL f m L
end
theorem deepL_none {f : Nat → Int} {m : Nat} : ∀ {L : List Tr}, (∀ (j : Nat) (a : Tr), L[j]? = some a → deepT f m a = none) → deepL f m L = none
 | [], h => by rw [deepL]
 | a :: L, h => by
  rw [deepL, h 0 a rfl]
  exact deepL_none (fun j b hb => h (j + 1) b (by simpa using hb))
theorem deepL_at {f : Nat → Int} {m : Nat} : ∀ {L : List Tr} {k : Nat} {a : Tr} {q : Int}, L[k]? = some a → deepT f m a = some q → (∀ (j : Nat) (b : Tr), j < k → L[j]? = some b → deepT f m b = none) → deepL f m L = some q
 | [], k, a, q, h, hq, hj => by simp at h
 | c :: L, 0, a, q, h, hq, hj => by
  simp at h
  subst h
  rw [deepL, hq]
 | c :: L, k + 1, a, q, h, hq, hj => by
  rw [deepL, hj 0 c (by omega) rfl]
  exact deepL_at (k := k) (by simpa using h) hq (fun j b hb hh => hj (j + 1) b (by omega) (by simpa using hh))
theorem deepT_is (f : Nat → Int) (m : Nat) (s : Tr) : (match m with | 0 => some (f s.pl) | m + 1 => deepL f m s.L) = deepT f m s := by
 cases m with
 | zero => rw [deepT]
 | succ m => rw [deepT]
/-- What Deep tells. -/
def deepR (o : Option Int) : Value := match o with | some q => .tuple #[.int .i64 q, .bool true] | none => .tuple #[.int .i64 0, .bool false]
theorem deep8 {f : Nat → Int} {P : Nat → Prop} : ∀ (n : Nat) (x : Tr), x.cnt ≤ n → n ≤ 1000000 → ∀ (w : World) (ao : Option Addr) (c : Nat) (p : Int) (m : Nat), m ≤ 1000000 → RL f P w x.L ao →
  Calls Tryz.prog 15 #[.agg #[.int .i64 x.kind, .int .i64 p, .int .i64 x.N, .string ⟨x.S.toArray⟩, .slice ao x.L.length c], .int .i64 (m : Int)] w fun e w' => e = .returned (deepR (match m with | 0 => some p | m + 1 => deepL f m x.L)) ∧ Below w.heap.size w w' := by
 intro n
 induction n with
 | zero => intro x h; have := cnt_pos x; omega
 | succ n ih =>
  intro x hx hn w ao c p m hm1 hrl
  have IH := hidden ih
  have X := hidden hrl
  have hcl := cntL_len x.L
  have hcc := cnt_L x
  clear ih hrl
  cases m with
  | zero =>
   go_enter Tryz.func15, Tryz.ntmps15
   go_wp2_with fail
   go_ret2
   exact ⟨rfl, (Below.refl _ _).alloc (Nat.le_refl _) _⟩
  | succ m =>
   obtain ⟨R, hR⟩ : ∃ R, deepL f m x.L = R := ⟨_, rfl⟩
   simp only [hR]
   have HR := hidden hR
   clear hR
   obtain ⟨l, hl⟩ : ∃ l, x.L.length = l := ⟨_, rfl⟩
   rw [hl]
   rw [hl] at hcl
   have HLl := hidden hl
   have hmm : ((m + 1 : Nat) : Int) = (m : Int) + 1 := by omega
   rw [hmm]
   have hm2 : (m : Int) ≤ 1000000 := by omega
   have hm3 : (0 : Int) ≤ (m : Int) := by omega
   have hm4 : ¬ ((m : Int) + 1 < 1) := by omega
   clear hl hmm
   go_enter Tryz.func15, Tryz.ntmps15
   go_wp2_with fail
   have A0 := hidden (B5.new w x.kind p x.N ⟨x.S.toArray⟩ (.slice ao l c))
   have X0 := hidden (X.out.alloc (.cells #[.int .i64 x.kind, .int .i64 p, .int .i64 x.N, .string ⟨x.S.toArray⟩, .slice ao l c] 25))
   have D0 := hidden ((Below.refl w.heap.size w).alloc (Nat.le_refl _) (.cells #[.int .i64 x.kind, .int .i64 p, .int .i64 x.N, .string ⟨x.S.toArray⟩, .slice ao l c] 25))
   clear X
   generalize w.alloc (.cells #[.int .i64 x.kind, .int .i64 p, .int .i64 x.N, .string ⟨x.S.toArray⟩, .slice ao l c] 25) = w0 at *
   go_loopw [6] (fun iv wr => ∃ k : Nat, k ≤ l ∧ iv = .int .i64 (k : Int) ∧ (∀ (j : Nat) (b : Tr), j < k → x.L[j]? = some b → deepT f m b = none) ∧ Below w0.heap.size w0 wr) (fun iv wr => (l - intOf iv).toNat)
   case atStart => exact ⟨0, by omega, rfl, fun j b h => by omega, Below.refl _ _⟩
   case round =>
    obtain ⟨k, k1, rfl, hj, hbl⟩ := hrel
    have X1 := X0.out.beneath hbl (Nat.le_refl _)
    have A1 := hidden (A0.out.below hbl (Nat.le_refl _))
    have BL := hidden hbl
    have HJ := hidden hj
    have hd := D0.out.size
    have he := hbl.size
    clear hbl hj
    obtain ⟨a0, a1, a2, a3, a4, af⟩ := A1.out.cells
    by_cases hlt : k < l
    ·have z1 : (k : Int) < (l : Int) := by omega
     have zi : (0 : Int) ≤ (k : Int) ∧ (k : Int) < (l : Int) := ⟨by omega, z1⟩
     obtain ⟨s, hs⟩ : ∃ s, x.L[k]? = some s := ⟨_, List.getElem?_eq_getElem (by rw [HLl.out]; exact hlt)⟩
     have hsc := cntL_mem (List.mem_of_getElem? hs)
     obtain ⟨aos, cps, hh, hr⟩ := X1
     have R1 := hidden (hr k s hs)
     obtain ⟨g, rfl, _, s0, s1, s2, s3, s4⟩ := hh k s hs
     have HI := hidden (fun w r => IH.out s (by omega) (by omega) w (aos k) (cps k) (f s.pl) m (by omega) r)
     have hdt := deepT_is f m s
     rw [hdt] at HI
     have HS := hidden hs
     clear hh hr hs a0 a1 a2 a3 af hdt
     cases hq : deepT f m s with
     | some q =>
      have HO : Hid (R = some q) := by show _ = _; rw [← HR.out]; exact deepL_at HS.out hq HJ.out
      rw [hq] at HI
      have HI2 : Hid (∀ w', RL f P w' s.L (aos k) → Calls Tryz.prog 15 #[.agg #[.int .i64 s.kind, .int .i64 (f s.pl), .int .i64 s.N, .string ⟨s.S.toArray⟩, .slice (aos k) s.L.length (cps k)], .int .i64 (m : Int)] w' fun e w'' => e = .returned (.tuple #[.int .i64 q, .bool true]) ∧ Below w'.heap.size w' w'') := HI.out
      clear hq HI
      go_wp2_with (go_at_call 15; refine (HI2.out _ R1.out).mono ?_; rintro e w6 ⟨rfl, hb6⟩; have B6 := hidden hb6; clear hb6)
      go_ret2
      exact ⟨by rw [HO.out]; rfl, D0.out.trans ((BL.out.trans (B6.out.mono he)).mono hd)⟩
     | none =>
      have HJ2 : Hid (∀ (j : Nat) (b : Tr), j < k + 1 → x.L[j]? = some b → deepT f m b = none) := fun j b h hb => by
       by_cases e : j = k
       ·rw [e, HS.out] at hb; cases hb; exact hq
       ·exact HJ.out j b (by omega) hb
      rw [hq] at HI
      have HI2 : Hid (∀ w', RL f P w' s.L (aos k) → Calls Tryz.prog 15 #[.agg #[.int .i64 s.kind, .int .i64 (f s.pl), .int .i64 s.N, .string ⟨s.S.toArray⟩, .slice (aos k) s.L.length (cps k)], .int .i64 (m : Int)] w' fun e w'' => e = .returned (.tuple #[.int .i64 0, .bool false]) ∧ Below w'.heap.size w' w'') := HI.out
      clear hq HI
      go_wp2_with (go_at_call 15; refine (HI2.out _ R1.out).mono ?_; rintro e w6 ⟨rfl, hb6⟩; have B6 := hidden hb6; clear hb6)
      go_roundw
      case rel => exact ⟨k + 1, by omega, by go_num, HJ2.out, BL.out.trans (B6.out.mono he)⟩
      case measure => simp [intOf]; omega
    ·have z1 : ¬ (k : Int) < (l : Int) := by omega
     have HO : Hid (R = none) := by
      show _ = _
      rw [← HR.out]
      exact deepL_none (fun j a ha => HJ.out j a (by have := (List.getElem?_eq_some_iff.1 ha).1; rw [HLl.out] at this; omega) ha)
     clear X1
     go_wp2_with fail
     go_ret2
     exact ⟨by rw [HO.out]; rfl, D0.out.trans (BL.out.mono hd)⟩
end Go.Proofs.YthjmakjhidjbaaaGreat

/-
 Layer 8, the program's Count and Deep. Condition: the tree lies in memory.
-/
namespace Go.Proofs.YthjmakjhidjbaaaGreat
open Go.ChangeShapes Go.WideShapes Go.ChangeAt Go.RowKit Go.Deep
set_option linter.unusedVariables false
set_option linter.unusedSimpArgs false
set_option maxHeartbeats 2000000
set_option maxRecDepth 20000

theorem countP {f : Nat → Int} {P : Nat → Prop} : ∀ (n : Nat) (x : Tr), x.cnt ≤ n → n ≤ 1000000 → ∀ (w : World) (ao : Option Addr) (c : Nat) (p m : Int), -1000000 ≤ m → m ≤ 1000000 → RL f P w x.L ao →
  Calls Tryz.prog 16 #[.agg #[.int .i64 x.kind, .int .i64 p, .int .i64 x.N, .string ⟨x.S.toArray⟩, .slice ao x.L.length c], .int .i64 m] w fun e w' => e = .returned (.int .i64 (cntM x m)) ∧ Below w.heap.size w w' := by
 intro n
 induction n with
 | zero => intro x h; have := cnt_pos x; omega
 | succ n ih =>
  intro x hx hn w ao c p m hm0 hm1 hrl
  have IH := hidden ih
  have X := hidden hrl
  have hcl := cntL_len x.L
  have hcc := cnt_L x
  clear ih hrl
  by_cases hneg : m < 0
  ·have hR : cntM x m = 0 := by unfold cntM; rw [if_pos hneg]
   rw [hR]
   go_enter Tryz.func16, Tryz.ntmps16
   go_wp2_with fail
   go_ret
   exact ⟨rfl, (Below.refl _ _).alloc (Nat.le_refl _) _⟩
  ·obtain ⟨R, hR⟩ : ∃ R, cntM x m = R := ⟨_, rfl⟩
   rw [hR]
   have HR := hidden hR
   clear hR
   obtain ⟨l, hl⟩ : ∃ l, x.L.length = l := ⟨_, rfl⟩
   rw [hl]
   rw [hl] at hcl
   have HLl := hidden hl
   clear hl
   go_enter Tryz.func16, Tryz.ntmps16
   go_wp2_with fail
   have A0 := hidden (B5.new w x.kind p x.N ⟨x.S.toArray⟩ (.slice ao l c))
   have X0 := hidden (X.out.alloc (.cells #[.int .i64 x.kind, .int .i64 p, .int .i64 x.N, .string ⟨x.S.toArray⟩, .slice ao l c] 25))
   have D0 := hidden ((Below.refl w.heap.size w).alloc (Nat.le_refl _) (.cells #[.int .i64 x.kind, .int .i64 p, .int .i64 x.N, .string ⟨x.S.toArray⟩, .slice ao l c] 25))
   clear X
   generalize w.alloc (.cells #[.int .i64 x.kind, .int .i64 p, .int .i64 x.N, .string ⟨x.S.toArray⟩, .slice ao l c] 25) = w0 at *
   go_loopw [5, 13] (fun mv iv wr => ∃ k : Nat, k ≤ l ∧ iv = .int .i64 (k : Int) ∧ mv = .int .i64 (if (cntTo x.L k : Int) ≤ m then (cntTo x.L k : Int) else m + 1) ∧ Below w0.heap.size w0 wr) (fun mv iv wr => (l - intOf iv).toNat)
   case atStart => exact ⟨0, by omega, rfl, by rw [show cntTo x.L 0 = 1 from rfl]; split <;> congr 1; omega, Below.refl _ _⟩
   case round =>
    obtain ⟨k, k1, rfl, rfl, hbl⟩ := hrel
    have X1 := X0.out.beneath hbl (Nat.le_refl _)
    have A1 := hidden (A0.out.below hbl (Nat.le_refl _))
    have BL := hidden hbl
    have hd := D0.out.size
    have he := hbl.size
    have hto := cntTo_le x k
    clear hbl
    obtain ⟨a0, a1, a2, a3, a4, af⟩ := A1.out.cells
    by_cases hlt : k < l
    ·have z1 : (k : Int) < (l : Int) := by omega
     have zi : (0 : Int) ≤ (k : Int) ∧ (k : Int) < (l : Int) := ⟨by omega, z1⟩
     obtain ⟨s, hs⟩ : ∃ s, x.L[k]? = some s := ⟨_, List.getElem?_eq_getElem (by rw [HLl.out]; exact hlt)⟩
     have hsc := cntL_mem (List.mem_of_getElem? hs)
     have hsu := cntTo_succ hs
     obtain ⟨aos, cps, hh, hr⟩ := X1
     have R1 := hidden (hr k s hs)
     obtain ⟨g, rfl, _, s0, s1, s2, s3, s4⟩ := hh k s hs
     obtain ⟨tv, htv⟩ : ∃ tv : Int, (if (cntTo x.L k : Int) ≤ m then (cntTo x.L k : Int) else m + 1) = tv := ⟨_, rfl⟩
     rw [htv]
     have htb : 0 ≤ tv ∧ tv ≤ m + 1 := by rw [← htv]; split <;> omega
     have HI := hidden (fun w r => IH.out s (by omega) (by omega) w (aos k) (cps k) (f s.pl) (m - tv) (by omega) (by omega) r)
     have HC : Hid (tv + cntM s (m - tv) = if (cntTo x.L (k + 1) : Int) ≤ m then (cntTo x.L (k + 1) : Int) else m + 1) := by
      show _ = _
      have := cnt_pos s
      unfold cntM
      rw [hsu, ← htv]
      split <;> split <;> (try split) <;> (try split) <;> omega
     have hcb : (0 : Int) ≤ cntM s (m - tv) ∧ cntM s (m - tv) ≤ 2000000 := by
      unfold cntM
      split
      ·omega
      ·split <;> omega
     clear hh hr hs a0 a1 a2 a3 a4 af hsu htv hto
     generalize cntM s (m - tv) = ct at *
     go_wp2_with (go_at_call 16; refine (HI.out _ (R1.out.alloc _)).mono ?_; rintro e w6 ⟨rfl, hb6⟩; have B6 := hidden hb6; clear hb6)
     go_roundw
     case rel => exact ⟨k + 1, by omega, by go_num, by rw [HC.out], BL.out.trans (((Below.refl _ _).alloc (Nat.le_refl _) _).trans (B6.out.mono (by rw [nblk_alloc]; omega)) |>.mono he)⟩
     case measure => simp [intOf]; omega
    ·have z1 : ¬ (k : Int) < (l : Int) := by omega
     have hkl : k = l := by omega
     have HO : Hid (R = (if (cntTo x.L k : Int) ≤ m then (cntTo x.L k : Int) else m + 1)) := by
      show _ = _
      have e2 : cntTo x.L k = x.cnt := by rw [hkl, ← HLl.out]; exact cntTo_all x
      rw [e2, ← HR.out]
      unfold cntM
      rw [if_neg (by omega)]
     clear X1
     generalize (if (cntTo x.L k : Int) ≤ m then (cntTo x.L k : Int) else m + 1) = tv at *
     go_wp2_with fail
     go_ret
     exact ⟨by rw [HO.out]; rfl, D0.out.trans (BL.out.mono hd)⟩
theorem deepT_is2 (f : Nat → Int) (m : Nat) (s : Tr) : (match m with | 0 => some (f s.pl) | m + 1 => deepL f m s.L) = deepT f m s := by
 cases m with
 | zero => rw [deepT]
 | succ m => rw [deepT]
theorem deepP {f : Nat → Int} {P : Nat → Prop} : ∀ (n : Nat) (x : Tr), x.cnt ≤ n → n ≤ 1000000 → ∀ (w : World) (ao : Option Addr) (c : Nat) (p : Int) (m : Nat), m ≤ 1000000 → RL f P w x.L ao →
  Calls Tryz.prog 14 #[.agg #[.int .i64 x.kind, .int .i64 p, .int .i64 x.N, .string ⟨x.S.toArray⟩, .slice ao x.L.length c], .int .i64 (m : Int)] w fun e w' => e = .returned (deepR (match m with | 0 => some p | m + 1 => deepL f m x.L)) ∧ Below w.heap.size w w' := by
 intro n
 induction n with
 | zero => intro x h; have := cnt_pos x; omega
 | succ n ih =>
  intro x hx hn w ao c p m hm1 hrl
  have IH := hidden ih
  have X := hidden hrl
  have hcl := cntL_len x.L
  have hcc := cnt_L x
  clear ih hrl
  cases m with
  | zero =>
   go_enter Tryz.func14, Tryz.ntmps14
   go_wp2_with fail
   go_ret2
   exact ⟨rfl, (Below.refl _ _).alloc (Nat.le_refl _) _⟩
  | succ m =>
   obtain ⟨R, hR⟩ : ∃ R, deepL f m x.L = R := ⟨_, rfl⟩
   simp only [hR]
   have HR := hidden hR
   clear hR
   obtain ⟨l, hl⟩ : ∃ l, x.L.length = l := ⟨_, rfl⟩
   rw [hl]
   rw [hl] at hcl
   have HLl := hidden hl
   have hmm : ((m + 1 : Nat) : Int) = (m : Int) + 1 := by omega
   rw [hmm]
   have hm2 : (m : Int) ≤ 1000000 := by omega
   have hm3 : (0 : Int) ≤ (m : Int) := by omega
   have hm4 : ¬ ((m : Int) + 1 < 1) := by omega
   clear hl hmm
   go_enter Tryz.func14, Tryz.ntmps14
   go_wp2_with fail
   have A0 := hidden (B5.new w x.kind p x.N ⟨x.S.toArray⟩ (.slice ao l c))
   have X0 := hidden (X.out.alloc (.cells #[.int .i64 x.kind, .int .i64 p, .int .i64 x.N, .string ⟨x.S.toArray⟩, .slice ao l c] 25))
   have D0 := hidden ((Below.refl w.heap.size w).alloc (Nat.le_refl _) (.cells #[.int .i64 x.kind, .int .i64 p, .int .i64 x.N, .string ⟨x.S.toArray⟩, .slice ao l c] 25))
   clear X
   generalize w.alloc (.cells #[.int .i64 x.kind, .int .i64 p, .int .i64 x.N, .string ⟨x.S.toArray⟩, .slice ao l c] 25) = w0 at *
   go_loopw [17] (fun iv wr => ∃ k : Nat, k ≤ l ∧ iv = .int .i64 (k : Int) ∧ (∀ (j : Nat) (b : Tr), j < k → x.L[j]? = some b → deepT f m b = none) ∧ Below w0.heap.size w0 wr) (fun iv wr => (l - intOf iv).toNat)
   case atStart => exact ⟨0, by omega, rfl, fun j b h => by omega, Below.refl _ _⟩
   case round =>
    obtain ⟨k, k1, rfl, hj, hbl⟩ := hrel
    have X1 := X0.out.beneath hbl (Nat.le_refl _)
    have A1 := hidden (A0.out.below hbl (Nat.le_refl _))
    have BL := hidden hbl
    have HJ := hidden hj
    have hd := D0.out.size
    have he := hbl.size
    clear hbl hj
    obtain ⟨a0, a1, a2, a3, a4, af⟩ := A1.out.cells
    by_cases hlt : k < l
    ·have z1 : (k : Int) < (l : Int) := by omega
     have zi : (0 : Int) ≤ (k : Int) ∧ (k : Int) < (l : Int) := ⟨by omega, z1⟩
     obtain ⟨s, hs⟩ : ∃ s, x.L[k]? = some s := ⟨_, List.getElem?_eq_getElem (by rw [HLl.out]; exact hlt)⟩
     have hsc := cntL_mem (List.mem_of_getElem? hs)
     obtain ⟨aos, cps, hh, hr⟩ := X1
     have R1 := hidden (hr k s hs)
     obtain ⟨g, rfl, _, s0, s1, s2, s3, s4⟩ := hh k s hs
     have HI := hidden (fun w r => IH.out s (by omega) (by omega) w (aos k) (cps k) (f s.pl) m (by omega) r)
     have hdt := deepT_is2 f m s
     rw [hdt] at HI
     have HS := hidden hs
     clear hh hr hs a0 a1 a2 a3 af hdt
     cases hq : deepT f m s with
     | some q =>
      have HO : Hid (R = some q) := by show _ = _; rw [← HR.out]; exact deepL_at HS.out hq HJ.out
      rw [hq] at HI
      have HI2 : Hid (∀ w', RL f P w' s.L (aos k) → Calls Tryz.prog 14 #[.agg #[.int .i64 s.kind, .int .i64 (f s.pl), .int .i64 s.N, .string ⟨s.S.toArray⟩, .slice (aos k) s.L.length (cps k)], .int .i64 (m : Int)] w' fun e w'' => e = .returned (.tuple #[.int .i64 q, .bool true]) ∧ Below w'.heap.size w' w'') := HI.out
      clear hq HI
      go_wp2_with (go_at_call 14; refine (HI2.out _ (R1.out.alloc _)).mono ?_; rintro e w6 ⟨rfl, hb6⟩; have B6 := hidden hb6; clear hb6)
      go_ret2
      exact ⟨by rw [HO.out]; rfl, D0.out.trans ((BL.out.trans ((((Below.refl _ _).alloc (Nat.le_refl _) _).trans (B6.out.mono (by rw [nblk_alloc]; omega))).mono he)).mono hd)⟩
     | none =>
      have HJ2 : Hid (∀ (j : Nat) (b : Tr), j < k + 1 → x.L[j]? = some b → deepT f m b = none) := fun j b h hb => by
       by_cases e : j = k
       ·rw [e, HS.out] at hb; cases hb; exact hq
       ·exact HJ.out j b (by omega) hb
      rw [hq] at HI
      have HI2 : Hid (∀ w', RL f P w' s.L (aos k) → Calls Tryz.prog 14 #[.agg #[.int .i64 s.kind, .int .i64 (f s.pl), .int .i64 s.N, .string ⟨s.S.toArray⟩, .slice (aos k) s.L.length (cps k)], .int .i64 (m : Int)] w' fun e w'' => e = .returned (.tuple #[.int .i64 0, .bool false]) ∧ Below w'.heap.size w' w'') := HI.out
      clear hq HI
      go_wp2_with (go_at_call 14; refine (HI2.out _ (R1.out.alloc _)).mono ?_; rintro e w6 ⟨rfl, hb6⟩; have B6 := hidden hb6; clear hb6)
      go_roundw
      case rel => exact ⟨k + 1, by omega, by go_num, HJ2.out, BL.out.trans ((((Below.refl _ _).alloc (Nat.le_refl _) _).trans (B6.out.mono (by rw [nblk_alloc]; omega))).mono he)⟩
      case measure => simp [intOf]; omega
    ·have z1 : ¬ (k : Int) < (l : Int) := by omega
     have HO : Hid (R = none) := by
      show _ = _
      rw [← HR.out]
      exact deepL_none (fun j a ha => HJ.out j a (by have := (List.getElem?_eq_some_iff.1 ha).1; rw [HLl.out] at this; omega) ha)
     clear X1
     go_wp2_with fail
     go_ret2
     exact ⟨by rw [HO.out]; rfl, D0.out.trans (BL.out.mono hd)⟩
end Go.Proofs.YthjmakjhidjbaaaGreat

/-
 Layer 7, the program's Lex: a source's tokens, or what is wrong first, and where. No condition.
-/
namespace Go.Proofs.YthjmakjhidjbaaaGreat
open Go.ChangeShapes Go.WideShapes Go.ChangeAt Go.RowKit Go.Deep
set_option linter.unusedVariables false
set_option linter.unusedSimpArgs false
set_option maxHeartbeats 1000000

theorem assert_fault (v : Value) (t : TypeId) (w : World) : (Instr.typeAssert (.iface 53 v) t 53 true).run Tryz.prog w = .ok (.tuple #[v, .bool true]) w := by
 simp [Instr.typeAssert, run_underlying Tryz.underlying53, go_sem, Result.andThen]
theorem assert_nil (t : TypeId) (w : World) : (Instr.typeAssert .nilIface t 53 true).run Tryz.prog w = .ok (.tuple #[.agg #[.int .i64 0, .int .i64 0], .bool false]) w := by
 simp [Instr.typeAssert, run_underlying Tryz.underlying53, go_sem, Result.andThen]
theorem catch_idle (p q r : Addr) (w : World) :
  CallsD Tryz.prog 24 #[.pointer (some p), .pointer (some q), .pointer (some r)] .returning w fun e u' w' => e = .returned (.tuple #[]) ∧ u' = .returning ∧ Below w.heap.size w w' := by
 refine callsD_of_wpS Tryz.func24 rfl fun c₀ cs hu => ?_
 have ha : (#[.pointer (some p), .pointer (some q), .pointer (some r)] ++ Array.replicate (Tryz.f24.ntmps - (#[.pointer (some p), .pointer (some q), .pointer (some r)] : Array Value).size) undef : Array Value) = #[.pointer (some p), .pointer (some q), .pointer (some r), undef, undef, undef, undef, undef, undef, undef, undef, undef, undef, undef, undef] := by rw [Tryz.ntmps24]; rfl
 rw [ha]
 apply wpS_seq
 apply wpS_region_lit
 refine opsS_idle rfl (by simp [execOp, go_sem]) (by simp [recoverD, hu]) ?_
 simp only [Act.put, List.setIfInBounds_toArray, List.set_cons_succ, List.set_cons_zero]
 refine opsS_assert (v := .tuple #[.agg #[.int .i64 0, .int .i64 0], .bool false]) rfl rfl (u := .nilIface) (by simp [Act.eval]) (assert_nil _ _) ?_
 simp only [Act.put, List.setIfInBounds_toArray, List.set_cons_succ, List.set_cons_zero]
 refine opsS_move (v := .tuple #[.agg #[.int .i64 0, .int .i64 0], .bool false]) rfl rfl (by simp [Act.eval]) ?_
 simp only [Act.put, List.setIfInBounds_toArray, List.set_cons_succ, List.set_cons_zero]
 refine opsS_extract (v := .agg #[.int .i64 0, .int .i64 0]) (vs := #[.agg #[.int .i64 0, .int .i64 0], .bool false]) rfl rfl (by simp [Act.eval]) rfl ?_
 simp only [Act.put, List.setIfInBounds_toArray, List.set_cons_succ, List.set_cons_zero]
 refine opsS_extract (v := .bool false) (vs := #[.agg #[.int .i64 0, .int .i64 0], .bool false]) rfl rfl (by simp [Act.eval]) rfl ?_
 simp only [Act.put, List.setIfInBounds_toArray, List.set_cons_succ, List.set_cons_zero]
 refine opsS_val rfl (v := .pointer (some ⟨w.heap.size, 0, none⟩)) (w' := w.alloc (.cells #[.int .i64 0, .int .i64 0] 53)) (by simp [execOp, go_sem]) ?_
 simp only [Act.put, List.setIfInBounds_toArray, List.set_cons_succ, List.set_cons_zero]
 refine opsS_skip rfl (w' := ((w.alloc (.cells #[.int .i64 0, .int .i64 0] 53)).setCell ⟨w.heap.size, 0, none⟩ (.int .i64 0)).setCell ⟨w.heap.size, 1, none⟩ (.int .i64 0)) (by simp [execOp, go_sem, Act.eval]) ?_
 simp only [Act.put, List.setIfInBounds_toArray, List.set_cons_succ, List.set_cons_zero]
 refine opsS_assign (v := .bool false) rfl rfl (by simp [Act.eval]) ?_
 simp only [Act.put, List.setIfInBounds_toArray, List.set_cons_succ, List.set_cons_zero]
 refine wl_nil ?_
 show Code.wpS _ _ _ _ _ _
 apply wpS_seq
 apply wpS_region_lit
 refine opsS_move (v := .bool false) rfl rfl (by simp [Act.eval]) ?_
 simp only [Act.put, List.setIfInBounds_toArray, List.set_cons_succ, List.set_cons_zero]
 refine wl_nil ?_
 show Code.wpS _ _ _ _ _ _
 refine wpS_cond (t := false) rfl ?_
 simp only [Bool.false_eq_true, if_false]
 refine wpS_of_wp (wp_skip ?_)
 have hb : Below w.heap.size w (((w.alloc (.cells #[.int .i64 0, .int .i64 0] 53)).setCell ⟨w.heap.size, 0, none⟩ (.int .i64 0)).setCell ⟨w.heap.size, 1, none⟩ (.int .i64 0)) := (((Below.refl _ _).alloc (Nat.le_refl _) _).setCell (Nat.le_refl _) _).setCell (Nat.le_refl _) _
 generalize ((w.alloc (.cells #[.int .i64 0, .int .i64 0] 53)).setCell ⟨w.heap.size, 0, none⟩ (.int .i64 0)).setCell ⟨w.heap.size, 1, none⟩ (.int .i64 0) = w2 at *
 cases c₀
 simp_all [bodyPostS, results, Tryz.results24]
/-- Three results, in blocks of their own. -/
def Out (w : World) (p : Nat) (v : Value) (e k : Int) : Prop := w.heap[p]? = some (.cells #[v] 35 (0, 0)) ∧ w.heap[p + 1]? = some (.cells #[.int .i64 e] 26 (0, 0)) ∧ w.heap[p + 2]? = some (.cells #[.int .i64 k] 3 (0, 0))
theorem Out.cells {w : World} {p : Nat} {v : Value} {e k : Int} (h : Out w p v e k) : w.cell? ⟨p, 0, none⟩ = some v ∧ w.cell? ⟨p + 1, 0, none⟩ = some (.int .i64 e) ∧ w.cell? ⟨p + 2, 0, none⟩ = some (.int .i64 k) ∧ w.frozen? ⟨p, 0, none⟩ = false ∧ w.frozen? ⟨p + 1, 0, none⟩ = false ∧ w.frozen? ⟨p + 2, 0, none⟩ = false := by
 obtain ⟨h1, h2, h3⟩ := h
 simp [World.cell?, World.frozen?, h1, h2, h3]
theorem Out.below {w w' : World} {p : Nat} {v : Value} {e k : Int} (h : Out w p v e k) (b : Below w.heap.size w w') : Out w' p v e k := ⟨(b.block _ (lt_of_some h.1)).trans h.1, (b.block _ (lt_of_some h.2.1)).trans h.2.1, (b.block _ (lt_of_some h.2.2)).trans h.2.2⟩
theorem Out.three {w : World} {p : Nat} {v v' : Value} {e k e' k' : Int} (h : Out w p v e k) : Out (((w.setCell ⟨p, 0, none⟩ v').setCell ⟨p + 1, 0, none⟩ (.int .i64 e')).setCell ⟨p + 2, 0, none⟩ (.int .i64 k')) p v' e' k' := by
 obtain ⟨h1, h2, h3⟩ := h
 refine ⟨?_, ?_, ?_⟩ <;> simp [World.setCell, Array.getElem?_modify, h1, h2, h3]
theorem only_three {S : Nat → Prop} {w w' : World} {p : Nat} {v1 v2 v3 : Value} (h : Only S w w') (h1 : w.heap.size ≤ p ∨ (S p ∧ S (p + 1) ∧ S (p + 2))) : Only S w (((w'.setCell ⟨p, 0, none⟩ v1).setCell ⟨p + 1, 0, none⟩ v2).setCell ⟨p + 2, 0, none⟩ v3) :=
 ((h.setCell (a := ⟨p, 0, none⟩) (h1.imp id (fun c => c.1)) _).setCell (a := ⟨p + 1, 0, none⟩) (h1.imp (fun c => Nat.le_succ_of_le c) (fun c => c.2.1)) _).setCell (a := ⟨p + 2, 0, none⟩) (h1.imp (fun c => Nat.le_succ_of_le (Nat.le_succ_of_le c)) (fun c => c.2.2)) _
theorem catch_panicking (p : Nat) (v : Value) (e0 k0 e k : Int) (older : List PanicEntry) (w : World) (ho : Out w p v e0 k0) :
  CallsD Tryz.prog 24 #[.pointer (some ⟨p, 0, none⟩), .pointer (some ⟨p + 1, 0, none⟩), .pointer (some ⟨p + 2, 0, none⟩)] (.panicking (faultP e k :: older)) w fun r u' w' => r = .returned (.tuple #[]) ∧ u' = .panicking ({ faultP e k with recovered := true } :: older) ∧ Out w' p (.slice none 0 0) e k ∧ Only (fun b => b = p ∨ b = p + 1 ∨ b = p + 2) w w' := by
 refine callsD_of_wpS Tryz.func24 rfl fun c₀ cs hu => ?_
 have ha : (#[.pointer (some ⟨p, 0, none⟩), .pointer (some ⟨p + 1, 0, none⟩), .pointer (some ⟨p + 2, 0, none⟩)] ++ Array.replicate (Tryz.f24.ntmps - (#[.pointer (some ⟨p, 0, none⟩), .pointer (some ⟨p + 1, 0, none⟩), .pointer (some ⟨p + 2, 0, none⟩)] : Array Value).size) undef : Array Value) = #[.pointer (some ⟨p, 0, none⟩), .pointer (some ⟨p + 1, 0, none⟩), .pointer (some ⟨p + 2, 0, none⟩), undef, undef, undef, undef, undef, undef, undef, undef, undef, undef, undef, undef] := by rw [Tryz.ntmps24]; rfl
 rw [ha]
 clear ha
 unfold faultP at hu
 apply wpS_seq
 apply wpS_region_lit
 refine opsS_rec rfl (by simp [execOp, go_sem]) (v := .iface 53 (.agg #[.int .i64 e, .int .i64 k])) (cs' := { c₀ with mode := .panicking ({ faultP e k with recovered := true } :: older) } :: cs) (by simp [recoverD, hu, faultP]) ?_
 simp only [Act.put, List.setIfInBounds_toArray, List.set_cons_succ, List.set_cons_zero]
 refine opsS_assert (v := .tuple #[.agg #[.int .i64 e, .int .i64 k], .bool true]) rfl rfl (u := .iface 53 (.agg #[.int .i64 e, .int .i64 k])) (by simp [Act.eval]) (assert_fault _ _ _) ?_
 simp only [Act.put, List.setIfInBounds_toArray, List.set_cons_succ, List.set_cons_zero]
 refine opsS_move (v := .tuple #[.agg #[.int .i64 e, .int .i64 k], .bool true]) rfl rfl (by simp [Act.eval]) ?_
 simp only [Act.put, List.setIfInBounds_toArray, List.set_cons_succ, List.set_cons_zero]
 refine opsS_extract (v := .agg #[.int .i64 e, .int .i64 k]) (vs := #[.agg #[.int .i64 e, .int .i64 k], .bool true]) rfl rfl (by simp [Act.eval]) rfl ?_
 simp only [Act.put, List.setIfInBounds_toArray, List.set_cons_succ, List.set_cons_zero]
 refine opsS_extract (v := .bool true) (vs := #[.agg #[.int .i64 e, .int .i64 k], .bool true]) rfl rfl (by simp [Act.eval]) rfl ?_
 simp only [Act.put, List.setIfInBounds_toArray, List.set_cons_succ, List.set_cons_zero]
 refine opsS_val rfl (v := .pointer (some ⟨w.heap.size, 0, none⟩)) (w' := w.alloc (.cells #[.int .i64 0, .int .i64 0] 53)) (by simp [execOp, go_sem]) ?_
 simp only [Act.put, List.setIfInBounds_toArray, List.set_cons_succ, List.set_cons_zero]
 refine opsS_skip rfl (w' := ((w.alloc (.cells #[.int .i64 0, .int .i64 0] 53)).setCell ⟨w.heap.size, 0, none⟩ (.int .i64 e)).setCell ⟨w.heap.size, 1, none⟩ (.int .i64 k)) (by simp [execOp, go_sem, Act.eval]) ?_
 simp only [Act.put, List.setIfInBounds_toArray, List.set_cons_succ, List.set_cons_zero]
 refine opsS_assign (v := .bool true) rfl rfl (by simp [Act.eval]) ?_
 simp only [Act.put, List.setIfInBounds_toArray, List.set_cons_succ, List.set_cons_zero]
 refine wl_nil ?_
 show Code.wpS _ _ _ _ _ _
 have hb : Below w.heap.size w (((w.alloc (.cells #[.int .i64 0, .int .i64 0] 53)).setCell ⟨w.heap.size, 0, none⟩ (.int .i64 e)).setCell ⟨w.heap.size, 1, none⟩ (.int .i64 k)) := (((Below.refl _ _).alloc (Nat.le_refl _) _).setCell (Nat.le_refl _) _).setCell (Nat.le_refl _) _
 have hff : (((w.alloc (.cells #[.int .i64 0, .int .i64 0] 53)).setCell ⟨w.heap.size, 0, none⟩ (.int .i64 e)).setCell ⟨w.heap.size, 1, none⟩ (.int .i64 k)).heap[w.heap.size]? = some (.cells #[.int .i64 e, .int .i64 k] 53 (0, 0)) := by
  have h0 : (w.alloc (.cells #[.int .i64 0, .int .i64 0] 53)).heap[w.heap.size]? = some (.cells #[.int .i64 0, .int .i64 0] 53 (0, 0)) := blk_alloc_new _ _
  generalize w.alloc (.cells #[.int .i64 0, .int .i64 0] 53) = w3 at *
  simp [World.setCell, Array.getElem?_modify, h0]
 generalize ((w.alloc (.cells #[.int .i64 0, .int .i64 0] 53)).setCell ⟨w.heap.size, 0, none⟩ (.int .i64 e)).setCell ⟨w.heap.size, 1, none⟩ (.int .i64 k) = w2 at *
 have ho2 := ho.below hb
 obtain ⟨c1, c2, c3, c4, c5, c6⟩ := ho2.cells
 have f0 : w2.cell? ⟨w.heap.size, 0, none⟩ = some (.int .i64 e) := by simp [World.cell?, hff]
 have f1 : w2.cell? ⟨w.heap.size, 1, none⟩ = some (.int .i64 k) := by simp [World.cell?, hff]
 have n0 : ¬ w.heap.size = p := by have := lt_of_some ho.1; omega
 have n1 : ¬ w.heap.size = p + 1 := by have := lt_of_some ho.2.1; omega
 have n2 : ¬ w.heap.size = p + 2 := by have := lt_of_some ho.2.2; omega
 have HB := hidden hb
 have HO := hidden ho2
 clear hb ho2 ho hff
 apply wpS_seq
 apply wpS_region_lit
 refine opsS_move (v := .bool true) rfl rfl (by simp [Act.eval]) ?_
 simp only [Act.put, List.setIfInBounds_toArray, List.set_cons_succ, List.set_cons_zero]
 refine wl_nil ?_
 show Code.wpS _ _ _ _ _ _
 refine wpS_cond (t := true) rfl ?_
 simp only [if_true]
 refine wpS_of_wp ?_
 go_region
 exact ⟨rfl, _, rfl, _, results_none rfl _ _ _, rfl, rfl, HO.out.three, (only_three (Only.of_below HB.out) (Or.inr ⟨Or.inl rfl, Or.inr (Or.inl rfl), Or.inr (Or.inr rfl)⟩)).drewN 1⟩
theorem lex_results {w : World} {p : Nat} {v : Value} {e k : Int} (h : Out w p v e k) (tmps : Array Value) (h2 : tmps.getD 2 undef = .pointer (some ⟨p, 0, none⟩)) (h3 : tmps.getD 3 undef = .pointer (some ⟨p + 1, 0, none⟩)) (h4 : tmps.getD 4 undef = .pointer (some ⟨p + 2, 0, none⟩)) (hv : v.oneCell' = true) : (results Tryz.f17 tmps).run Tryz.prog w = .ok (.tuple #[v, .int .i64 e, .int .i64 k]) w := by
 obtain ⟨c1, c2, c3, _⟩ := h.cells
 have g2 : tmps[2]?.getD undef = .pointer (some ⟨p, 0, none⟩) := by simpa using h2
 have g3 : tmps[3]?.getD undef = .pointer (some ⟨p + 1, 0, none⟩) := by simpa using h3
 have g4 : tmps[4]?.getD undef = .pointer (some ⟨p + 2, 0, none⟩) := by simpa using h4
 simp [results, Tryz.results17, g2, g3, g4, asAddr, go_sem, c1, c2, c3]
theorem out_new (w : World) (v : Value) (e k : Int) : Out (((w.alloc (.cells #[v] 35)).alloc (.cells #[.int .i64 e] 26)).alloc (.cells #[.int .i64 k] 3)) w.heap.size v e k := by
 refine ⟨?_, ?_, ?_⟩
 ·rw [blk_alloc_lt _ _ _ (by rw [nblk_alloc, nblk_alloc]; omega), blk_alloc_lt _ _ _ (by rw [nblk_alloc]; omega)]
  exact blk_alloc_new _ _
 ·rw [blk_alloc_lt _ _ _ (by rw [nblk_alloc, nblk_alloc]; omega), ← nblk_alloc w (.cells #[v] 35)]
  exact blk_alloc_new _ _
 ·have e3 : w.heap.size + 2 = ((w.alloc (.cells #[v] 35)).alloc (.cells #[.int .i64 e] 26)).heap.size := by rw [nblk_alloc, nblk_alloc]
  rw [e3]
  exact blk_alloc_new _ _
theorem lexP_big (s : ByteArray) (w : World) (hs : 4096 < s.size) (hz : s.size ≤ maxLen) : Calls Tryz.prog 17 #[.string s] w fun e w' => e = .returned (.tuple #[.slice none 0 0, .int .i64 4, .int .i64 0]) ∧ Below w.heap.size w w' := by
 have z1 : (4096 : Int) < (s.size : Int) := by omega
 unfold maxLen at hz
 go_enter_defers Tryz.func17, Tryz.ntmps17
 go_wp2
 exact ⟨_, lex_results (out_new w _ _ _) _ rfl rfl rfl rfl, rfl, (((Below.refl _ _).alloc (Nat.le_refl _) _).alloc (by rw [nblk_alloc]; omega) _).alloc (by rw [nblk_alloc, nblk_alloc]; omega) _⟩
/-- What Lex tells. -/
def LexAs (R : Except (Int × Nat) (List (Tk × Nat))) (s : ByteArray) (w : World) (e : Ending) (w' : World) : Prop :=
 Below w.heap.size w w' ∧
 match R with
 | .ok ts => ∃ v, e = .returned (.tuple #[v, .int .i64 0, .int .i64 0]) ∧ TR w' w.heap.size v (tvs s.size ts ++ [endV s.size])
 | .error (e', k) => e = .returned (.tuple #[.slice none 0 0, .int .i64 e', .int .i64 ((s.size - k : Nat) : Int)])
theorem own_keepS {S : Nat → Prop} {w w' : World} {B size n : Nat} {e : TypeId} {v : Value} {xs : List Value} (h : w.ownsRow B e size v n xs) (k : Only S w w') (hS : ∀ q, B ≤ q → ¬ S q) : w'.ownsRow B e size v n xs := by
 obtain ⟨h1, h2⟩ := h
 refine ⟨h1, h2.imp id ?_⟩
 rintro ⟨g, cap, cur, e1, e2, e3, e4⟩
 exact ⟨g, cap, cur, e1, e2, (k.block g (lt_of_some e3) (hS g e2)).trans e3, e4⟩
theorem Out.onlyS {S : Nat → Prop} {w w' : World} {p : Nat} {v : Value} {e k : Int} (h : Out w p v e k) (b : Only S w w') (h0 : ¬ S p) (h1 : ¬ S (p + 1)) (h2 : ¬ S (p + 2)) : Out w' p v e k := ⟨(b.block _ (lt_of_some h.1) h0).trans h.1, (b.block _ (lt_of_some h.2.1) h1).trans h.2.1, (b.block _ (lt_of_some h.2.2) h2).trans h.2.2⟩
theorem own_base {w : World} {B B' size n : Nat} {e : TypeId} {v : Value} {xs : List Value} (h : w.ownsRow B e size v n xs) (hb : B' ≤ B) : w.ownsRow B' e size v n xs := by
 obtain ⟨h1, h2⟩ := h
 refine ⟨h1, h2.imp id ?_⟩
 rintro ⟨g, cap, cur, e1, e2, e3⟩
 exact ⟨g, cap, cur, e1, by omega, e3⟩
theorem start_rd (w : World) (s : ByteArray) : RD ((((w.alloc (.cells #[.slice none 0 0] 35)).alloc (.cells #[.int .i64 0] 26)).alloc (.cells #[.int .i64 0] 3)).alloc (.cells #[.string s, .int .i64 0, .int .i64 0] 57)) (w.heap.size + 1 + 1 + 1) s 0 0 := by
 have e3 : w.heap.size + 1 + 1 + 1 = (((w.alloc (.cells #[.slice none 0 0] 35)).alloc (.cells #[.int .i64 0] 26)).alloc (.cells #[.int .i64 0] 3)).heap.size := by rw [nblk_alloc, nblk_alloc, nblk_alloc]
 show _ = _
 rw [e3]
 exact blk_alloc_new _ _
theorem start_out (w : World) (s : ByteArray) : Out ((((w.alloc (.cells #[.slice none 0 0] 35)).alloc (.cells #[.int .i64 0] 26)).alloc (.cells #[.int .i64 0] 3)).alloc (.cells #[.string s, .int .i64 0, .int .i64 0] 57)) w.heap.size (.slice none 0 0) 0 0 :=
 (out_new w _ _ _).below ((Below.refl _ _).alloc (Nat.le_refl _) _)
theorem start_below (w : World) (s : ByteArray) : Below w.heap.size w ((((w.alloc (.cells #[.slice none 0 0] 35)).alloc (.cells #[.int .i64 0] 26)).alloc (.cells #[.int .i64 0] 3)).alloc (.cells #[.string s, .int .i64 0, .int .i64 0] 57)) :=
 ((((Below.refl _ _).alloc (Nat.le_refl _) _).alloc (by rw [nblk_alloc]; omega) _).alloc (by rw [nblk_alloc, nblk_alloc]; omega) _).alloc (by rw [nblk_alloc, nblk_alloc, nblk_alloc]; omega) _
theorem start_size (w : World) (s : ByteArray) : ((((w.alloc (.cells #[.slice none 0 0] 35)).alloc (.cells #[.int .i64 0] 26)).alloc (.cells #[.int .i64 0] 3)).alloc (.cells #[.string s, .int .i64 0, .int .i64 0] 57)).heap.size = w.heap.size + 4 := by rw [nblk_alloc, nblk_alloc, nblk_alloc, nblk_alloc]
set_option maxRecDepth 20000 in
theorem lexP_as (s : ByteArray) (w : World) (hs : s.size ≤ 4096) : Calls Tryz.prog 17 #[.string s] w fun e w' => LexAs (lexC docW (suf s 0)) s w e w' := by
 have z1 : ¬ (4096 : Int) < (s.size : Int) := by omega
 have hmf : ∀ (fn : Fn) (first cap : Array Value) (w : World), (Instr.makeFunc fn first cap).run Tryz.prog w = .ok (.func fn first cap) w := fun _ _ _ _ => rfl
 have R4 := hidden (start_rd w s)
 have O4 := hidden (start_out w s)
 have B4 := hidden (start_below w s)
 have S4 := hidden (start_size w s)
 cases hR : lexC docW (suf s 0) with
 | ok ts =>
  have HR := hidden hR
  clear hR
  go_enter_defers Tryz.func17, Tryz.ntmps17
  go_wp2_with fail
  generalize (((w.alloc (.cells #[.slice none 0 0] 35)).alloc (.cells #[.int .i64 0] 26)).alloc (.cells #[.int .i64 0] 3)).alloc (.cells #[.string s, .int .i64 0, .int .i64 0] 57) = w4 at *
  refine (all_as R4.out (by omega)).mono ?_
  rw [HR.out]
  rintro e w5 ⟨v, rfl, ht, ho⟩
  obtain ⟨L, hL⟩ : ∃ L, tvs s.size ts ++ [endV s.size] = L := ⟨_, rfl⟩
  rw [hL] at ht
  have HL := hidden hL
  clear hL
  have hs4 := S4.out
  have O5 := hidden (O4.out.onlyS ho (by omega) (by omega) (by omega))
  obtain ⟨c1, c2, c3, c4, c5, c6⟩ := O5.out.cells
  have c3' : w5.cell? ⟨w.heap.size + 1 + 1, 0, none⟩ = some (.int .i64 0) := c3
  have c6' : w5.frozen? ⟨w.heap.size + 1 + 1, 0, none⟩ = false := c6
  have T5 := hidden ht
  have L5 := hidden ho
  have hv : v.oneCell' = true := by
   obtain ⟨ao, c, rfl⟩ := ht.slice
   rfl
  obtain ⟨ao, cp, rfl⟩ := ht.slice
  clear ht ho c3 c6
  go_wp2_with fail
  have O6 := O5.out.three (v' := .slice ao L.length cp) (e' := 0) (k' := 0)
  have K6 : Only (fun b => b = w.heap.size ∨ b = w.heap.size + 1 ∨ b = w.heap.size + 2) w5 (((w5.setCell ⟨w.heap.size, 0, none⟩ (.slice ao L.length cp)).setCell ⟨w.heap.size + 1, 0, none⟩ (.int .i64 0)).setCell ⟨w.heap.size + 2, 0, none⟩ (.int .i64 0)) := only_three (Only.refl _ _) (Or.inr ⟨Or.inl rfl, Or.inr (Or.inl rfl), Or.inr (Or.inr rfl)⟩)
  have T6 := own_keepS T5.out K6 (fun q hq c => by have := S4.out; rcases c with c | c | c <;> omega)
  have B5 : Below w.heap.size w w5 := B4.out.trans (L5.out.below (by omega) (fun k hk c => by omega))
  have B6 : Below w.heap.size w (((w5.setCell ⟨w.heap.size, 0, none⟩ (.slice ao L.length cp)).setCell ⟨w.heap.size + 1, 0, none⟩ (.int .i64 0)).setCell ⟨w.heap.size + 2, 0, none⟩ (.int .i64 0)) := B5.trans (K6.below B5.size (fun k hk c => by rcases c with c | c | c <;> omega))
  refine leaves_cons (f := 24) (args := #[.pointer (some ⟨w.heap.size, 0, none⟩), .pointer (some ⟨w.heap.size + 1, 0, none⟩), .pointer (some ⟨w.heap.size + 1 + 1, 0, none⟩)]) (by simp) (by simp [go_sem]) ?_
  refine (catch_idle _ _ _ _).mono ?_
  rintro e u' w7 ⟨rfl, rfl, hb⟩
  refine ⟨_, lex_results (O6.below hb) _ rfl rfl rfl rfl, B6.trans (hb.mono B6.size), _, rfl, ?_⟩
  rw [HL.out]
  exact own_base (own_keepS T6 (Only.of_below (S := fun _ => False) hb) (fun _ _ c => c)) (by have := S4.out; omega)
 | error ek =>
  obtain ⟨e', k⟩ := ek
  have HR := hidden hR
  clear hR
  go_enter_defers Tryz.func17, Tryz.ntmps17
  go_wp2_with fail
  generalize (((w.alloc (.cells #[.slice none 0 0] 35)).alloc (.cells #[.int .i64 0] 26)).alloc (.cells #[.int .i64 0] 3)).alloc (.cells #[.string s, .int .i64 0, .int .i64 0] 57) = w4 at *
  refine (all_as R4.out (by omega)).mono ?_
  rw [HR.out]
  rintro e w5 ⟨rfl, ho⟩
  have hs4 := S4.out
  have O5 := O4.out.onlyS ho (by omega) (by omega) (by omega)
  have B5 : Below w.heap.size w w5 := B4.out.trans (ho.below (by omega) (fun k hk c => by omega))
  show bodyPostD _ _ _ _ _ _
  refine leaves_cons (f := 24) (args := #[.pointer (some ⟨w.heap.size, 0, none⟩), .pointer (some ⟨w.heap.size + 1, 0, none⟩), .pointer (some ⟨w.heap.size + 1 + 1, 0, none⟩)]) (by simp) (by simp [go_sem]) ?_
  refine (catch_panicking w.heap.size (.slice none 0 0) 0 0 e' ((s.size - k : Nat) : Int) [] w5 O5).mono ?_
  rintro e u' w7 ⟨rfl, rfl, hout, hon⟩
  refine ⟨_, lex_results hout _ rfl rfl rfl rfl, B5.trans (hon.below B5.size (fun k hk c => by rcases c with c | c | c <;> omega)), rfl⟩
end Go.Proofs.YthjmakjhidjbaaaGreat

/-
 Layer 7, the statements: two lists of tokens that are the same. Condition: both lie in memory.
-/
namespace Go.Proofs.YthjmakjhidjbaaaGreat
open Go.ChangeShapes Go.WideShapes Go.ChangeAt Go.RowKit Go.Deep
set_option linter.unusedVariables false
set_option maxHeartbeats 1000000

theorem flatT_at : ∀ (L : List TV) (i j : Nat) (t : TV), L[i]? = some t → j < 4 → (flatT L)[i * 4 + j]? = t.cells[j]?
 | [], i, j, t, h, hj => by cases h
 | u :: L, 0, j, t, h, hj => by
  simp at h
  subst h
  show (u.cells ++ flatT L)[0 * 4 + j]? = _
  rw [Nat.zero_mul, Nat.zero_add, List.getElem?_append_left (by show j < 4; exact hj)]
 | u :: L, i + 1, j, t, h, hj => by
  have ih := flatT_at L i j t (by simpa using h) hj
  show (u.cells ++ flatT L)[(i + 1) * 4 + j]? = _
  rw [List.getElem?_append_right (by show 4 ≤ _; omega)]
  rw [← ih]
  congr 1
  show (i + 1) * 4 + j - 4 = _
  omega
theorem TR.ts {w : World} {B : Nat} {ao : Option Addr} {n c : Nat} {L : List TV} (h : TR w B (.slice ao n c) L) : n = L.length ∧ TS w ao L := by
 have h0 := h
 obtain ⟨h1, h2⟩ := h
 rcases h2 with ⟨e, hn⟩ | ⟨g, cap, cur, e, _, hg, hn, hm, hs, ht⟩
 ·simp only [Value.slice.injEq] at e
  refine ⟨by omega, ⟨fun i t hi => ?_⟩⟩
  have : L = [] := List.length_eq_zero_iff.1 hn
  subst this
  cases hi
 ·simp only [Value.slice.injEq] at e
  obtain ⟨rfl, rfl, rfl⟩ := e
  refine ⟨rfl, ⟨fun i t hi => ⟨g, rfl, ?_⟩⟩⟩
  have hlt : i < L.length := (List.getElem?_eq_some_iff.1 hi).1
  have hc : ∀ j, j < 4 → w.cell? ⟨g, i * 4 + j, none⟩ = t.cells[j]? := by
   intro j hj
   rw [World.ownsRow.cellAt h0 (i * 4 + j) (by omega)]
   exact flatT_at L i j t hi hj
  exact ⟨hc 0 (by omega), hc 1 (by omega), hc 2 (by omega), hc 3 (by omega)⟩
theorem neq_same (a b c : Int) (s : ByteArray) (w : World) : Sem.run Tryz.prog (binOp .neq 40 (.agg #[.int .i64 a, .int .i64 b, .int .i64 c, .string s]) (.agg #[.int .i64 a, .int .i64 b, .int .i64 c, .string s])) w = .ok (.bool false) w := by
 rw [run_neq_struct, run_equalIn_struct w 9999 40 _ _ (by kernel_rfl) (by kernel_rfl)]
 simp [Program.fieldsOf, Tryz.underlying40, Op.eqFields, go_sem]
end Go.Proofs.YthjmakjhidjbaaaGreat

/-
 Layer 7, the statements: what Lex tells of any source, by the plain function; awake. Condition of awake: the table of powers of ten reads as its initialiser lays it.
-/
namespace Go.Proofs.YthjmakjhidjbaaaGreat
open Go.ChangeShapes Go.WideShapes Go.ChangeAt Go.RowKit Go.Deep
set_option linter.unusedVariables false
set_option maxHeartbeats 1000000

/-- What Lex tells of a source. -/
def lexR (s : ByteArray) : Except (Int × Nat) (List (Tk × Nat)) := if 4096 < s.size then .error (4, s.size) else lexC docW (suf s 0)
/-- A source's tokens with their places, the end behind them. -/
def toks (s : ByteArray) (ts : List (Tk × Nat)) : List TV := tvs s.size ts ++ [endV s.size]
theorem toks_len (s : ByteArray) (ts : List (Tk × Nat)) : (toks s ts).length = ts.length + 1 := by
 unfold toks
 rw [List.length_append, tvs_len]
 rfl
theorem lexR_ok {s : ByteArray} {ts : List (Tk × Nat)} (h : lexR s = .ok ts) : s.size ≤ 4096 ∧ lexC docW (suf s 0) = .ok ts := by
 unfold lexR at h
 split at h
 ·cases h
 ·exact ⟨by omega, h⟩
theorem lexP_ok {s : ByteArray} {ts : List (Tk × Nat)} (w : World) (h : lexR s = .ok ts) : Calls Tryz.prog 17 #[.string s] w fun e w' => ∃ ao c, e = .returned (.tuple #[.slice ao (ts.length + 1) c, .int .i64 0, .int .i64 0]) ∧ TS w' ao (toks s ts) ∧ ((∃ g, ao = some ⟨g, 0, none⟩ ∧ w.heap.size ≤ g ∧ ∃ cur, w'.heap[g]? = some (.cells cur 40 (0, 0))) ∧ ts.length + 1 ≤ c) ∧ Below w.heap.size w w' := by
 obtain ⟨h1, h2⟩ := lexR_ok h
 have := lexP_as s w h1
 rw [h2] at this
 refine this.mono (fun e w' hh => ?_)
 obtain ⟨hb, v, rfl, ht⟩ := hh
 obtain ⟨ao, c, rfl⟩ := ht.slice
 refine ⟨ao, c, by rw [← toks_len s ts]; rfl, (TR.ts ht).2, ?_, hb⟩
 rcases ht.2 with ⟨e, hn⟩ | ⟨g, cap, cur, e, h3, h4, h5, h6⟩
 ·have := toks_len s ts
  unfold toks at this
  omega
 ·simp only [Value.slice.injEq] at e
  obtain ⟨rfl, _, rfl⟩ := e
  refine ⟨⟨g, rfl, h3, cur, h4⟩, ?_⟩
  rw [← toks_len s ts]
  exact h5
theorem lexP_err {s : ByteArray} {e' : Int} {k : Nat} (w : World) (h : lexR s = .error (e', k)) (hz : s.size ≤ maxLen) : Calls Tryz.prog 17 #[.string s] w fun e w' => e = .returned (.tuple #[.slice none 0 0, .int .i64 e', .int .i64 ((s.size - k : Nat) : Int)]) ∧ Below w.heap.size w w' := by
 unfold lexR at h
 split at h
 ·rename_i hbig
  simp only [Except.error.injEq, Prod.mk.injEq] at h
  obtain ⟨rfl, rfl⟩ := h
  rw [Nat.sub_self]
  exact lexP_big s w hbig hz
 ·have := lexP_as s w (by omega)
  rw [h] at this
  exact this.mono (fun e w' hh => ⟨hh.2, hh.1⟩)
theorem lexes_count {W : LexW} (hW : SignsOk W) {l : List UInt8} {ts : List (Tk × Nat)} (h : Lexes W l ts) : ts.length ≤ l.length := by
 induction h with
 | nil => simp
 | blank hc h ih => simp only [List.length_cons]; omega
 | comment hc h ih => have := skipC_len _ _ hc; simp only [List.length_cons]; omega
 | tok hb hn ht h ih => have := tok_len hW ht; simp only [List.length_cons]; omega
theorem lexR_count {s : ByteArray} {ts : List (Tk × Nat)} (h : lexR s = .ok ts) : s.size ≤ 4096 ∧ ts.length ≤ 4096 := by
 have h1 := lexes_count docSigns ((lexC_lexes docSigns).1 (lexR_ok h).2)
 rw [suf_len] at h1
 have := (lexR_ok h).1
 omega
theorem tok_err {l : List UInt8} {e : Int} (h : tokAt docW l = .error e) : e ≠ 0 := by
 unfold tokAt at h
 split at h
 ·simp only [Except.error.injEq] at h; omega
 ·split at h
  ·cases h
  ·split at h
   ·split at h
    ·simp only [Except.error.injEq] at h; omega
    ·split at h
     ·rename_i c _; simp only [Except.error.injEq] at h; rw [← h]; assumption
     ·cases h
   ·split at h
    ·split at h
     ·cases h
     ·simp only [Except.error.injEq] at h; omega
    ·split at h
     ·cases h
     ·simp only [Except.error.injEq] at h; omega
theorem lexF_err : ∀ (n : Nat) (l : List UInt8) {e : Int} {k : Nat}, l.length < n → lexF docW n l = .error (e, k) → e ≠ 0
 | 0, l, e, k, hn, h => by omega
 | n + 1, [], e, k, hn, h => by cases h
 | n + 1, c :: x, e, k, hn, h => by
  simp only [List.length_cons] at hn
  unfold lexF at h
  by_cases c1 : blankB c = true
  ·rw [if_pos c1] at h; exact lexF_err n x (by omega) h
  ·rw [if_neg c1] at h
   by_cases c2 : opensC (c :: x) = true
   ·rw [if_pos c2] at h
    cases hr : skipC 0 (x.drop 1) with
    | none => rw [hr] at h; simp only [Except.error.injEq, Prod.mk.injEq] at h; omega
    | some r =>
     rw [hr] at h
     have := skipC_len _ _ hr
     rw [List.length_drop] at this
     exact lexF_err n r (by omega) h
   ·rw [if_neg c2] at h
    cases ht : tokAt docW (c :: x) with
    | error e2 =>
     rw [ht] at h
     simp only [Except.error.injEq, Prod.mk.injEq] at h
     rw [← h.1]
     exact tok_err ht
    | ok p =>
     obtain ⟨t, r⟩ := p
     rw [ht] at h
     simp only at h
     have hl := tok_len docSigns ht
     simp only [List.length_cons] at hl
     cases hr : lexF docW n r with
     | error ek =>
      rw [hr] at h
      obtain ⟨e3, k3⟩ := ek
      simp only [Except.error.injEq, Prod.mk.injEq] at h
      rw [← h.1]
      exact lexF_err n r (by omega) hr
     | ok us => rw [hr] at h; cases h
theorem lexR_err {s : ByteArray} {e : Int} {k : Nat} (h : lexR s = .error (e, k)) : e ≠ 0 := by
 unfold lexR at h
 split at h
 ·simp only [Except.error.injEq, Prod.mk.injEq] at h; omega
 ·exact lexF_err _ _ (by omega) h
def awA : ByteArray := ⟨#[108, 101, 116, 32, 120, 39, 32, 61, 32, 49, 40, 42, 32, 97, 32, 40, 42, 32, 98, 32, 42, 41, 32, 42, 41]⟩
def awB : ByteArray := ⟨#[97, 32, 40, 42, 32, 40, 42, 32, 42, 41]⟩
theorem aw_a : lexR awA = .ok [(⟨5, [108, 101, 116], 0⟩, 25), (⟨3, [120, 39], 0⟩, 21), (⟨5, [61], 0⟩, 18), (⟨1, [], 1⟩, 16)] := by kernel_rfl
theorem aw_b : lexR awB = .error (20, 8) := by kernel_rfl
theorem aw_lex1 (w : World) : Calls Tryz.prog 17 #[.string ⟨#[108, 101, 116, 32, 120, 39, 32, 61, 32, 49, 40, 42, 32, 97, 32, 40, 42, 32, 98, 32, 42, 41, 32, 42, 41]⟩] w fun e w' => ∃ g c, e = .returned (.tuple #[.slice (some ⟨g, 0, none⟩) 5 c, .int .i64 0, .int .i64 0]) ∧ (w'.cell? ⟨g, 7, none⟩ = some (.string ⟨#[120, 39]⟩) ∧ w'.cell? ⟨g, 14, none⟩ = some (.int .i64 1) ∧ w'.cell? ⟨g, 17, none⟩ = some (.int .i64 25)) ∧ Below w.heap.size w w' := by
 have h : Calls Tryz.prog 17 #[.string awA] w _ := lexP_ok w aw_a
 refine Calls.mono h ?_
 rintro e w' ⟨ao, c, rfl, ht, _, hb⟩
 obtain ⟨g, rfl, _, _, _, h1⟩ := ht.at_ 1 ⟨3, 4, 0, [120, 39]⟩ rfl
 obtain ⟨g2, e2, _, _, h2, _⟩ := ht.at_ 3 ⟨1, 9, 1, []⟩ rfl
 obtain ⟨g3, e3, _, h3, _, _⟩ := ht.at_ 4 ⟨0, 25, 0, []⟩ rfl
 simp only [Option.some.injEq, Addr.mk.injEq, and_true] at e2 e3
 subst e2
 subst e3
 exact ⟨g, c, rfl, ⟨h1, h2, h3⟩, hb⟩
theorem aw_lex2 (w : World) : Calls Tryz.prog 17 #[.string ⟨#[97, 32, 40, 42, 32, 40, 42, 32, 42, 41]⟩] w fun e w' => e = .returned (.tuple #[.slice none 0 0, .int .i64 20, .int .i64 2]) ∧ Below w.heap.size w w' := by
 have h : Calls Tryz.prog 17 #[.string awB] w _ := lexP_err w aw_b (by decide)
 exact h
end Go.Proofs.YthjmakjhidjbaaaGreat
