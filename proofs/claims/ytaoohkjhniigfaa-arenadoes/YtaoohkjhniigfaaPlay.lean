/-
  What the statements' play does: whatever steps are played to both arenas, they tell the same, and are in one state behind it. Condition: both lie in memory, in one state; the steps lie in memory below them.
-/
import Derived.Test.YtaoohkjhniigfaaRefAllocAny
import Derived.Test.YtaoohkjhniigfaaRefSetAny
import Derived.Test.YtaoohkjhniigfaaFlips
import Derived.Deep.RegionHeld3
namespace Go.Proofs.Ytaoohkjhniigfaa
open Go.ChangeShapes Go.WideShapes Go.ChangeAt Go.RowKit Go.Deep
set_option linter.unusedVariables false
set_option maxHeartbeats 2000000

structure Stp where
  (kind A B W X : Int)
/-- Steps lie in memory, below block Bd. -/
def Steps (w : World) (Bd : Nat) (al : Option Addr) (len : Nat) (S : Nat → Stp) : Prop :=
  ∀ i, i < len → ∃ x : Addr, al = some x ∧ (x.add (i * 5)).block < Bd ∧
    w.cell? (x.add (i * 5)) = some (.int .i64 (S i).kind) ∧ w.cell? ⟨(x.add (i * 5)).block, (x.add (i * 5)).off + 1, none⟩ = some (.int .i64 (S i).A) ∧ w.cell? ⟨(x.add (i * 5)).block, (x.add (i * 5)).off + 2, none⟩ = some (.int .i64 (S i).B) ∧
    w.cell? ⟨(x.add (i * 5)).block, (x.add (i * 5)).off + 3, none⟩ = some (.int .u64 (S i).W) ∧ w.cell? ⟨(x.add (i * 5)).block, (x.add (i * 5)).off + 4, none⟩ = some (.int .u64 (S i).X) ∧
    0 ≤ (S i).W ∧ (S i).W ≤ 18446744073709551615 ∧ 0 ≤ (S i).X ∧ (S i).X ≤ 18446744073709551615
/-- The two arenas lie in one memory, in one state. -/
structure Two (w : World) (p : Pl) (s : St) (rb : Nat) (r : RS) (a : Option Addr) (cap : Nat) (V : Nat → Value) : Prop where
  ar : Ar w p s
  bo : Both w p s rb r a cap V
variable {w w' : World} {p : Pl} {s s' : St} {rb : Nat} {r r' : RS} {a a' : Option Addr} {cap cap' : Nat} {V V' : Nat → Value}
theorem Two.frame {S : Nat → Prop} (h : Two w p s rb r a cap V) (k : Only S w w') (hs : ∀ q, q < w.heap.size → ¬ S q) : Two w' p s rb r a cap V := by
  have k2 : Only (fun _ => False) w w' := k.mono (fun q hq c => hs q hq c)
  exact ⟨h.ar.frame k2 id id id id, ⟨h.bo.ar, h.bo.rf.frame k2 (fun _ _ => id), h.bo.rep, h.bo.below⟩⟩
theorem Two.alloc (h : Two w p s rb r a cap V) (o : Obj) : Two (w.alloc o) p s rb r a cap V := h.frame ((Only.refl (fun _ => False) w).alloc o) (fun _ _ => id)
theorem Two.drewN (h : Two w p s rb r a cap V) (n : Nat) : Two (w.drewN n) p s rb r a cap V := ⟨h.ar.drewN n, h.bo.drewN n⟩
/-- Behind a method of the program's arena: the document's own one is as it was. -/
theorem Two.left (h : Two w p s rb r a cap V) (k : Only p.own w w') : Both w' p s rb r a cap V := by
  obtain ⟨b1, b2, b3, b4⟩ := h.bo.below
  exact ⟨h.bo.ar, h.bo.rf.frame k (fun g hg hs => by unfold Pl.own at hs; omega), h.bo.rep, h.bo.below⟩
/-- Behind a method of the document's own arena: the program's is as it was. -/
theorem ar_right (h : Both w p s rb r a cap V) (ha : Ar w p s') (k : Only (Rown rb a) w w') : Ar w' p s' := by
  obtain ⟨b1, b2, b3, b4⟩ := h.below
  have hg : ∀ q, Rown rb a q → rb ≤ q := by
    intro q hq
    rcases hq with rfl | hq
    · exact Nat.le_refl _
    · obtain ⟨g, cur, e, hb, _⟩ := h.rf.hl.2.2.2 _ hq
      have : q = g := by simpa using e
      omega
  exact ha.frame k (fun c => by have := hg _ c; omega) (fun c => by have := hg _ c; omega) (fun c => by have := hg _ c; omega) (fun c => by have := hg _ c; omega)
theorem rown_old (h : Both w p s rb r a cap V) : ∀ q, Rown rb a q → rb ≤ q ∧ q < w.heap.size := by
  intro q hq
  rcases hq with rfl | hq
  · exact ⟨Nat.le_refl _, lt_of_some h.rf.hr⟩
  · obtain ⟨g, cur, e, hb, hg, _⟩ := h.rf.hl.2.2.2 _ hq
    have : q = g := by simpa using e
    exact ⟨by omega, by have := lt_of_some hg; omega⟩
theorem step_cells {wr w2 : World} {v0 v1 v2 v3 v4 : Value} {t : TypeId} (h : Two wr p s rb r a cap V) (k : Only p.own (wr.alloc (.cells #[v0, v1, v2, v3, v4] t)) w2) :
    w2.cell? ⟨wr.heap.size, 0, none⟩ = some v0 ∧ w2.cell? ⟨wr.heap.size, 1, none⟩ = some v1 ∧ w2.cell? ⟨wr.heap.size, 2, none⟩ = some v2 ∧ w2.cell? ⟨wr.heap.size, 3, none⟩ = some v3 ∧ w2.cell? ⟨wr.heap.size, 4, none⟩ = some v4 := by
  have l1 := lt_of_some h.ar.hh
  have l2 := h.ar.hc.lt
  have l3 := h.ar.hb.lt
  have e := (k.block wr.heap.size (by rw [nblk_alloc]; omega) (by unfold Pl.own; omega)).trans (blk_alloc_new _ _)
  simp [World.cell?, e]
theorem only_of_drew {S : Nat → Prop} (h : Only S w.drew w') : Only S w w' := ⟨h.os, h.tape, h.output, h.size, h.block⟩
theorem step_cells3 {wr w2 w3 : World} {x y z : Value} (h : Two wr p s rb r a cap V) (hb : Both w2 p s rb r a cap V) (k : Only (Rown rb a) w2 w3) (q2 : w2.cell? ⟨wr.heap.size, 1, none⟩ = some x) (q4 : w2.cell? ⟨wr.heap.size, 3, none⟩ = some y) (q5 : w2.cell? ⟨wr.heap.size, 4, none⟩ = some z) :
    w3.cell? ⟨wr.heap.size, 1, none⟩ = some x ∧ w3.cell? ⟨wr.heap.size, 3, none⟩ = some y ∧ w3.cell? ⟨wr.heap.size, 4, none⟩ = some z := by
  have hlt : wr.heap.size < w2.heap.size := by
    by_cases c : wr.heap.size < w2.heap.size
    · exact c
    · exfalso; unfold World.cell? at q2; rw [Array.getElem?_eq_none (by show _ ≤ wr.heap.size; omega)] at q2; cases q2
  have e := k.block wr.heap.size hlt (fun c => by have := (rown_old h.bo _ c).2; omega)
  exact ⟨(World.cell?_of_block (w := w2) (a := ⟨wr.heap.size, 1, none⟩) e).trans q2, (World.cell?_of_block (w := w2) (a := ⟨wr.heap.size, 3, none⟩) e).trans q4, (World.cell?_of_block (w := w2) (a := ⟨wr.heap.size, 4, none⟩) e).trans q5⟩
theorem play_two {w2 w3 : World} {s2 : St} {r3 : RS} {a3 : Option Addr} {cap3 : Nat} {V3 : Nat → Value} (hb : Both w2 p s rb r a cap V) (ha : Ar w2 p s2) (rf3 : Rf w3 rb r3 a3 cap3 V3) (rep3 : Rep s2 r3) (o3 : Only (Rown rb a) w2 w3) : Two w3 p s2 rb r3 a3 cap3 V3 :=
  have ar := ar_right hb ha o3
  ⟨ar, ⟨⟨_, ar⟩, rf3, rep3, hb.below⟩⟩
theorem alloc_n (s : St) (t z : Int) : (s.alloc t z).n = s.n := by unfold St.alloc; split <;> rfl
theorem put_n (s : St) (x i v : Int) : (s.put x i v).n = s.n := by unfold St.put; split <;> rfl
theorem play_below {wr w2 w3 : World} {Bd : Nat} {o : Obj} (hb : Below Bd w wr) (h : Two wr p s rb r a cap V) (o2 : Only p.own (wr.alloc o) w2) (hb2 : Both w2 p s rb r a cap V) (o3 : Only (Rown rb a) w2 w3) (B1 : Bd ≤ p.a) (B2 : Bd ≤ p.h) (B3 : Bd ≤ p.c) (B4 : Bd ≤ p.b) (hBw : Bd ≤ w.heap.size) : Below Bd w w3 := by
  have z := hb.size
  have b1 := hb.alloc (by omega) o
  have b2 := b1.trans (o2.under (by rw [nblk_alloc]; omega) B2 B3 B4)
  have z2 := o2.size
  rw [nblk_alloc] at z2
  have := h.bo.below
  exact b2.trans (o3.below (by omega) (fun k hk hs => by have := (rown_old hb2 k hs).1; omega))
theorem play_any (n0 Bd : Nat) (al : Option Addr) (len capl : Nat) (S : Nat → Stp) (w : World) (h : Two w p s rb r a cap V) (hn : s.n = n0) (hl : len ≤ maxLen) (hS : Steps w Bd al len S) (hB : Bd ≤ p.a ∧ Bd ≤ p.h ∧ Bd ≤ p.c ∧ Bd ≤ p.b) (hBw : Bd ≤ w.heap.size) :
    Calls Try.prog 11 #[.pointer (some ⟨p.a, 0, none⟩), .pointer (some ⟨rb, 0, none⟩), .slice al len capl] w fun e w' => e = .returned (.bool true) ∧ ∃ s' r' a' cap' V', Two w' p s' rb r' a' cap' V' ∧ s'.n = n0 ∧ Below Bd w w' := by
  unfold maxLen at hl
  obtain ⟨B1, B2, B3, B4⟩ := hB
  have HS : Hid _ := hS
  have HN : Hid _ := hn
  clear hS hn
  go_enter Try.func11, Try.ntmps11
  go_wp2
  go_loopw [7] (fun i wr => ∃ (k : Nat) (s : St) (r : RS) (a : Option Addr) (cap : Nat) (V : Nat → Value), k ≤ 60 ∧ k ≤ len ∧ i = .int .i64 k ∧ Two wr p s rb r a cap V ∧ s.n = n0 ∧ Below Bd w wr) (fun i _ => 60 - (intOf i).toNat)
  case atStart => exact ⟨0, s, r, a, cap, V, by omega, by omega, rfl, h, HN.out, Below.refl _ _⟩
  case round =>
    clear h HN
    obtain ⟨k, s, r, a, cap, V, hk, hkl, rfl, h, hn, hb⟩ := hrel
    have HN : Hid _ := hn
    clear hn
    by_cases hlt : k < len
    · by_cases h60 : k < 60
      · obtain ⟨x, rfl, x0, y0, y1, y2, y3, y4, w0, w1, v0, v1⟩ := HS.out k hlt
        have z0 := (hb.cell x0).trans y0
        have z1 := (hb.cell (p := ⟨(x.add (k * 5)).block, (x.add (k * 5)).off + 1, none⟩) x0).trans y1
        have z2 := (hb.cell (p := ⟨(x.add (k * 5)).block, (x.add (k * 5)).off + 2, none⟩) x0).trans y2
        have z3 := (hb.cell (p := ⟨(x.add (k * 5)).block, (x.add (k * 5)).off + 3, none⟩) x0).trans y3
        have z4 := (hb.cell (p := ⟨(x.add (k * 5)).block, (x.add (k * 5)).off + 4, none⟩) x0).trans y4
        generalize hSk : S k = st at *
        obtain ⟨K, A, B, W, X⟩ := st
        simp only at z0 z1 z2 z3 z4 w0 w1 v0 v1
        clear x0 y0 y1 y2 y3 y4 hSk
        by_cases k0 : K = 0
        · have K0 : (K == 0) = true := by rw [beq_iff_eq]; exact k0
          clear k0
          go_wp2_with (first | (go_at_call 21; refine (alloc_any A B _ (h.alloc _).ar).mono ?_; rintro e w2 ⟨rfl, ha2, o2⟩; obtain ⟨q1, q2, q3, q4, q5⟩ := step_cells h o2; have hb2 := (h.alloc _).left o2) | (go_at_call 27; refine (ralloc_any A B _ hb2).mono ?_; rintro e w3 ⟨rfl, a3, cap3, V3, rf3, o3⟩))
          go_roundw
          case rel => exact ⟨k + 1, s.alloc A B, r.after s A B, a3, cap3, V3, by omega, by omega, by go_num, play_two hb2 ha2 rf3 (rep_after h.bo.rep h.ar.t1 A B) o3, (alloc_n s A B).trans HN.out, play_below hb h o2 hb2 o3 B1 B2 B3 B4 hBw⟩
          case measure => simp [intOf]; omega
        · have K0 : (K == 0) = false := beq_eq_false_iff_ne.2 k0
          by_cases k1 : K = 1
          · have K1 : (K == 1) = true := by rw [beq_iff_eq]; exact k1
            clear k0 k1
            have hf := h.bo.rep.fits
            go_wp2_with fail
            go_region_held3 (fun w' => w'.cell? ⟨wr.heap.size, 1, none⟩ = some (.int .i64 A) ∧ w'.cell? ⟨wr.heap.size, 3, none⟩ = some (.int .u64 W) ∧ w'.cell? ⟨wr.heap.size, 4, none⟩ = some (.int .u64 X)) (go_keep) (first | (go_at_call 17; refine (set_any W A X _ ?_ hf w0 w1 v0 v1).mono ?_; exact (h.alloc _).ar.drewN 1; rintro e w2 ⟨rfl, ha2, o2⟩; obtain ⟨q1, q2, q3, q4, q5⟩ := step_cells h (only_of_drew o2); have hb2 := (h.alloc _).left (only_of_drew o2)) | (go_at_call 28; refine (rset_any W A X _ hb2 w0 w1).mono ?_; rintro e w3 ⟨rfl, r3, V3, rf3, rep3, o3⟩; obtain ⟨t2, t4, t5⟩ := step_cells3 h hb2 o3 q2 q4 q5))
            go_wp2_with fail
            go_roundw
            case rel => exact ⟨k + 1, s.put W A X, r3, a, cap, V3, by omega, by omega, by go_num, play_two hb2 ha2 rf3 rep3 o3, (put_n s W A X).trans HN.out, play_below hb h (only_of_drew o2) hb2 o3 B1 B2 B3 B4 hBw⟩
            case measure => simp [intOf]; omega
          · have K1 : (K == 1) = false := beq_eq_false_iff_ne.2 k1
            by_cases k2 : K = 2
            · have K2 : (K == 2) = true := by rw [beq_iff_eq]; exact k2
              clear k0 k1 k2
              go_wp2_with (first | (go_at_call 25; refine (flip_any _ (h.alloc _).ar).mono ?_; rintro e w2 ⟨rfl, ha2, o2⟩; have hb2 := (h.alloc _).left o2) | (go_at_call 29; refine (rflip_any _ hb2).mono ?_; rintro e w3 ⟨rfl, rf3, o3⟩))
              go_roundw
              case rel => exact ⟨k + 1, s.flip, r.flip, none, 0, fun _ => .slice none 0 0, by omega, by omega, by go_num, play_two hb2 ha2 rf3 (rep_flip h.bo.rep) o3, HN.out, play_below hb h o2 hb2 o3 B1 B2 B3 B4 hBw⟩
              case measure => simp [intOf]; omega
            · have K2 : (K == 2) = false := beq_eq_false_iff_ne.2 k2
              clear k0 k1 k2
              go_wp2_with fail
              go_roundw
              case rel => exact ⟨k + 1, s, r, a, cap, V, by omega, by omega, by go_num, h.alloc _, HN.out, hb.alloc (by have := hb.size; omega) _⟩
              case measure => simp [intOf]; omega
      · go_wp2
        go_ret
        exact ⟨rfl, s, r, a, cap, V, h, HN.out, hb⟩
    · go_wp2
      go_ret
      exact ⟨rfl, s, r, a, cap, V, h, HN.out, hb⟩
end Go.Proofs.Ytaoohkjhniigfaa
