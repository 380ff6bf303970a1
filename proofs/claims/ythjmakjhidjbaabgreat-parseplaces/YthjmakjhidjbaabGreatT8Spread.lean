/-
 Layer 8: the law's own spread over a tree in memory. Condition: the tree's places are tokens', in order.
-/
import Derived.Test.YthjmakjhidjbaabGreatLibAX
import Derived.Deep.Cut
import Derived.BigQuiet
namespace Go.Proofs.YthjmakjhidjbaabGreat
open Go.ChangeShapes Go.WideShapes Go.ChangeAt Go.RowKit Go.Deep
set_option linter.unusedVariables false
set_option linter.unusedSimpArgs false
set_option maxHeartbeats 4000000
set_option maxRecDepth 20000

/-- What a list's first part leaves. -/
theorem lies_at {i j k : Nat} {L : List Tr} {s : Tr} (h : LiesL i j (L.drop k)) (hs : L[k]? = some s) : ∃ a b, i ≤ a ∧ a ≤ s.pl ∧ s.pl < b ∧ b ≤ j ∧ LiesL a b s.L ∧ LiesL b j (L.drop (k + 1)) := by
 have hk : k < L.length := by
  rcases Nat.lt_or_ge k L.length with h | h
  ·exact h
  ·rw [List.getElem?_eq_none h] at hs; cases hs
 rw [List.drop_eq_getElem_cons hk] at h
 have e : L[k] = s := by
  have := List.getElem?_eq_getElem hk
  rw [this] at hs
  exact Option.some.inj hs
 rw [e] at h
 cases h with
 | @cons _ a b _ _ _ h1 hx h2 hl =>
  cases hx with
  | mk g1 g2 gL => exact ⟨a, b, h1, g1, g2, h2, gL, hl⟩
theorem drewN_below (w : World) (n : Nat) : Below w.heap.size w (w.drewN n) := ⟨rfl, rfl, rfl, Nat.le_refl _, fun _ _ => rfl⟩
/-- How it stands while the token is looked for. -/
def SpA (f : Nat → Int) (m : Nat) (kd p : Int) (w0 : World) (bv iv : Value) (wr : World) : Prop := ∃ (b : Bool) (k : Nat), k ≤ m ∧ bv = .bool b ∧ iv = .int .i64 (k : Int) ∧ (kd = 211 ∧ p = 0 → b = true) ∧ (∀ k', k' < k → p = f k' → b = true) ∧ Below w0.heap.size w0 wr
/-- How it stands while the parts are looked at. -/
def SpB (f : Nat → Int) (m i j : Nat) (L : List Tr) (m0 p : Int) (w0 : World) (lov hiv lav iv : Value) (wr : World) : Prop := ∃ (lo hi la : Int) (k c : Nat), k ≤ L.length ∧ lov = .int .i64 lo ∧ hiv = .int .i64 hi ∧ lav = .int .i64 la ∧ iv = .int .i64 (k : Int) ∧ m0 ≤ lo ∧ lo ≤ p ∧ LiesL c j (L.drop k) ∧ i ≤ c ∧ (∀ d, c ≤ d → d < m → la ≤ f d) ∧ Below w0.heap.size w0 wr
/-- All is well; the least place. -/
def SpreadAs (m0 p : Int) (w : World) (e : Ending) (w' : World) : Prop := ∃ a b : Int, e = .returned (.tuple #[.int .i64 a, .int .i64 b, .bool true]) ∧ m0 ≤ a ∧ a ≤ p ∧ Below w.heap.size w w'
theorem spread8 {f : Nat → Int} {P : Nat → Prop} {M : List TV} (hM : M.length ≤ 5000) (hf : ∀ k t, M[k]? = some t → t.pl = f k) (hmo : ∀ a b, a ≤ b → b < M.length → f a ≤ f b ∧ 0 ≤ f a) :
  ∀ (n : Nat) (x : Tr), x.cnt ≤ n → n ≤ 1000000 → ∀ (i j : Nat) (p m0 : Int) (w : World) (ao lo : Option Addr) (c lc : Nat), LiesL i j x.L → j ≤ M.length → (x.kind = 211 ∧ p = 0 ∨ ∃ k, k < M.length ∧ p = f k) → m0 ≤ p → (∀ d, i ≤ d → d < M.length → m0 ≤ f d) → RL f P w x.L ao → TS w lo M →
  Calls Tryz.prog 8 #[.agg #[.int .i64 x.kind, .int .i64 p, .int .i64 x.N, .string ⟨x.S.toArray⟩, .slice ao x.L.length c], .slice lo M.length lc] w fun e w' => SpreadAs m0 p w e w' := by
 intro n
 induction n with
 | zero => intro x h; have := cnt_pos x; omega
 | succ n ih =>
  intro x hx hn i j p m0 w ao lo c lc hL hj hp hm hd hrl hts
  have IH := hidden ih
  have X := hidden hrl
  have T := hidden hts
  have HF := hidden hf
  have HMO := hidden hmo
  have HL := hidden hL
  have HP := hidden hp
  have HD := hidden hd
  have hcl := cntL_len x.L
  have hcc := cnt_L x
  clear ih hrl hts hf hmo hL hp hd
  obtain ⟨m, hm'⟩ : ∃ m, M.length = m := ⟨_, rfl⟩
  rw [hm'] at hM hj HP HD HMO IH ⊢
  have HMl := hidden hm'
  obtain ⟨l, hl⟩ : ∃ l, x.L.length = l := ⟨_, rfl⟩
  rw [hl] at hcl ⊢
  have HLl := hidden hl
  obtain ⟨kd, hkd⟩ : ∃ kd, x.kind = kd := ⟨_, rfl⟩
  rw [hkd] at HP ⊢
  clear hm' hl hkd
  have hb0 : ((kd == 211) = true ∧ (p == 0) = true) ∨ ((kd == 211) = true ∧ (p == 0) = false) ∨ (kd == 211) = false := by
   cases kd == 211 <;> cases p == 0 <;> simp
  have HR : Hid (∀ b1 b2, (kd == 211) = b1 → (p == 0) = b2 → (kd = 211 ∧ p = 0 → (b1 && b2) = true)) := fun b1 b2 h1 h2 h => by rw [← h1, ← h2, h.1, h.2]; rfl
  rcases hb0 with ⟨z1, z2⟩ | ⟨z1, z2⟩ | z1
  all_goals
   go_enter Tryz.func8, Tryz.ntmps8
   go_upto_region 2 with fail
   have A0 := hidden (B5.new w kd p x.N ⟨x.S.toArray⟩ (.slice ao l c))
   have X0 := hidden (X.out.alloc (.cells #[.int .i64 kd, .int .i64 p, .int .i64 x.N, .string ⟨x.S.toArray⟩, .slice ao l c] 25))
   have T0 := hidden (T.out.below ((Below.refl w.heap.size w).alloc (Nat.le_refl _) (.cells #[.int .i64 kd, .int .i64 p, .int .i64 x.N, .string ⟨x.S.toArray⟩, .slice ao l c] 25)))
   have D0 := hidden ((Below.refl w.heap.size w).alloc (Nat.le_refl _) (.cells #[.int .i64 kd, .int .i64 p, .int .i64 x.N, .string ⟨x.S.toArray⟩, .slice ao l c] 25))
   clear X T
   generalize w.alloc (.cells #[.int .i64 kd, .int .i64 p, .int .i64 x.N, .string ⟨x.S.toArray⟩, .slice ao l c] 25) = w0 at *
   go_wp2_with fail
   go_loopw [7, 26] (fun bv iv wr => SpA f m kd p w0 bv iv wr) (fun bv iv wr => (m - intOf iv).toNat)
   case atStart => exact ⟨_, 0, by omega, rfl, rfl, by first | (intro _; rfl) | exact HR.out _ _ z1 z2 | (intro h; rw [h.1] at z1; cases z1), fun k' h => by omega, Below.refl _ _⟩
   case round =>
    obtain ⟨b, k, k1, rfl, rfl, hbr, hbk, hbl⟩ := hrel
    have BL := hidden hbl
    have A1 := hidden (A0.out.below hbl (Nat.le_refl _))
    have X1 := hidden (X0.out.beneath hbl (Nat.le_refl _))
    have T1 := hidden (T0.out.below hbl)
    have HBR := hidden hbr
    have HBK := hidden hbk
    have hd := D0.out.size
    have he := hbl.size
    clear hbl hbr hbk
    obtain ⟨a0, a1, a2, a3, a4, af⟩ := A1.out.cells
    by_cases hlt : k < m
    ·have zz : (k : Int) < (m : Int) := by omega
     obtain ⟨t, ht⟩ : ∃ t, M[k]? = some t := ⟨_, List.getElem?_eq_getElem (by rw [HMl.out]; exact hlt)⟩
     have hft := HF.out k t ht
     obtain ⟨g, rfl, t0, t1, t2, t3⟩ := T1.out.at_ k t ht
     rw [hft] at t1
     have HB1 : Hid (p = f k → (f k == p) = true) := fun e => by rw [e]; exact beq_self_eq_true _
     clear hft ht t0 t2 t3 a0 a2 a3 af
     cases b with
     | true =>
      go_wp2_with fail
      go_quiet (fail)
      go_wp2_with fail
      go_roundw
      case rel => exact ⟨_, k + 1, by omega, rfl, by go_num, fun _ => rfl, fun _ _ _ => rfl, BL.out.trans ((drewN_below wr _).mono he)⟩
      case measure => simp [intOf]; omega
     | false =>
      have zi : (0 : Int) ≤ (k : Int) ∧ (k : Int) < (m : Int) := ⟨by omega, zz⟩
      obtain ⟨fk, hfk⟩ : ∃ fk, f k = fk := ⟨_, rfl⟩
      rw [hfk] at t1
      have HFK := hidden hfk
      clear hfk HB1
      go_wp2_with fail
      go_quiet (fail)
      go_wp2_with fail
      go_roundw
      case rel =>
       refine ⟨_, k + 1, by omega, rfl, by go_num, fun h => ?_, fun k' h1 h2 => ?_, BL.out.trans ((drewN_below wr _).mono he)⟩
       ·have := HBR.out h
        cases this
       ·by_cases hk' : k' < k
        ·have := HBK.out k' hk' h2
         cases this
        ·obtain rfl : k' = k := by omega
         rw [h2, HFK.out]
         simp
      case measure => simp [intOf]; omega
    ·have zz : ¬ (k : Int) < (m : Int) := by omega
     have hbt : b = true := by
      rcases HP.out with h | ⟨k', h1, h2⟩
      ·exact HBR.out h
      ·exact HBK.out k' (by omega) h2
     subst hbt
     clear HBR HBK
     go_wp2_with fail
     go_quiet (fail)
     have D1 := hidden ((D0.out.trans (BL.out.mono hd)).trans ((drewN_below wr nq).mono (by omega)))
     have A2 := hidden (A1.out.below (drewN_below wr nq) (Nat.le_refl _))
     have X2 := hidden (X1.out.beneath (drewN_below wr nq) (Nat.le_refl _))
     have T2 := hidden (T1.out.below (drewN_below wr nq))
     clear a0 a1 a2 a3 a4 af D0 BL A1 X1 T1 A0 X0 T0 hd he zz hlt
     generalize wr.drewN nq = w1 at *
     obtain ⟨a0, a1, a2, a3, a4, af⟩ := A2.out.cells
     go_wp2_with fail
     clear a0 a1 a2 a3 a4 af
     go_loopw [9, 10, 11, 48] (fun lov hiv lav iv wr => SpB f m i j x.L m0 p w1 lov hiv lav iv wr) (fun lov hiv lav iv wr => (l - intOf iv).toNat)
     case atStart => exact ⟨_, _, _, 0, i, Nat.zero_le _, rfl, rfl, rfl, rfl, hm, by omega, HL.out, Nat.le_refl _, fun d _ h => by have := (HMO.out d d (Nat.le_refl _) h).2; omega, Below.refl _ _⟩
     case round =>
      obtain ⟨lo', hi', la, k2, c', k21, rfl, rfl, rfl, rfl, h1, h2, h3, h4, h5, hbl⟩ := hrel
      have BL := hidden hbl
      have A1 := hidden (A2.out.below hbl (Nat.le_refl _))
      have X1 := X2.out.beneath hbl (Nat.le_refl _)
      have T1 := hidden (T2.out.below hbl)
      have H5 := hidden h5
      have H3 := hidden h3
      have hd := D1.out.size
      have he := hbl.size
      rw [HLl.out] at k21
      clear hbl h5 h3
      obtain ⟨a0, a1, a2, a3, a4, af⟩ := A1.out.cells
      by_cases hlt : k2 < l
      ·have zz : (k2 : Int) < (l : Int) := by omega
       have zi : (0 : Int) ≤ (k2 : Int) ∧ (k2 : Int) < (l : Int) := ⟨by omega, zz⟩
       obtain ⟨s, hs⟩ : ∃ s, x.L[k2]? = some s := ⟨_, List.getElem?_eq_getElem (by rw [HLl.out]; exact hlt)⟩
       have hsc := cntL_mem (List.mem_of_getElem? hs)
       obtain ⟨a, b, g1, g2, g3, g4, gL, gR⟩ := lies_at H3.out hs
       obtain ⟨aos, cps, hh, hr⟩ := X1
       have R1 := hidden (hr k2 s hs)
       obtain ⟨g, rfl, _, s0, s1, s2, s3, s4⟩ := hh k2 s hs
       have HI := hidden (IH.out s (by omega) (by omega) a b (f s.pl) (f a) wr (aos k2) lo (cps k2) lc gL (by omega) (Or.inr ⟨s.pl, by omega, rfl⟩) (HMO.out a s.pl g2 (by omega)).1 (fun d d1 d2 => (HMO.out a d d1 d2).1) R1.out T1.out)
       have HGR := hidden gR
       have q1 := HD.out a (by omega) (by omega)
       have q2 := H5.out a g1 (by omega)
       have Q3 : Hid (∀ d, b ≤ d → d < m → f s.pl ≤ f d) := fun d d1 d2 => (HMO.out s.pl d (by omega) d2).1
       clear hh hr hs a0 a1 a2 a3 af gL gR
       go_wp2_with fail
       refine HI.out.mono ?_
       rintro e w6 ⟨a', b', rfl, r1, r2, hb6⟩
       have B6 := hidden hb6
       have q4 : ¬ a' < la := by omega
       clear hb6
       go_wp2_with fail
       go_roundw
       case rel => exact ⟨_, _, _, k2 + 1, b, by rw [HLl.out]; omega, rfl, rfl, rfl, by go_num, by omega, by omega, HGR.out, by omega, fun d d1 d2 => by have := Q3.out d d1 d2; omega, BL.out.trans (B6.out.mono he)⟩
       case measure => simp [intOf]; omega
      ·have zz : ¬ (k2 : Int) < (l : Int) := by omega
       clear X1
       go_wp2_with fail
       go_ret3
       exact ⟨_, _, rfl, h1, h2, D1.out.trans (BL.out.mono hd)⟩
end Go.Proofs.YthjmakjhidjbaabGreat
