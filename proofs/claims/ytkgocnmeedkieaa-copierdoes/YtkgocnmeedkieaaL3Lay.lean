/-
  Layer 3's statements: what their helper lay makes of a list of blocks: two arenas in one state, which a plain function tells. Condition: the blocks lie in memory.
-/
import Derived.Test.YtkgocnmeedkieaaL3Words
import Derived.Test.YtkgocnmeedkieaaTwoMem
import Derived.Test.YtkgocnmeedkieaaFound
import Derived.Deep.RegionHeld3
import Derived.Deep.AppendLies
namespace Go.Proofs.Ytkgocnmeedkieaa
open Go.ChangeShapes Go.WideShapes Go.ChangeAt Go.RowKit Go.Deep
set_option linter.unusedVariables false
set_option maxHeartbeats 2000000

/-- A block as it came in: a tag, and a slice of words. -/
structure BI where
  tag : Int
  fa : Option Addr
  (fl fc : Nat)
  F : Nat → Int
def BlocksIn (w : World) (Bd : Nat) (al : Option Addr) (len : Nat) (I : Nat → BI) : Prop :=
  ∀ i, i < len → ∃ x : Addr, al = some x ∧ (x.add (i * 2)).block < Bd ∧ w.cell? (x.add (i * 2)) = some (.int .i64 (I i).tag) ∧ w.cell? ⟨(x.add (i * 2)).block, (x.add (i * 2)).off + 1, none⟩ = some (.slice (I i).fa (I i).fl (I i).fc) ∧
    WS w (I i).fa (I i).fl (I i).fc (I i).F ∧ (0 < (I i).fl → ∀ ad, (I i).fa = some ad → ad.block < Bd) ∧ (I i).fl ≤ maxLen
theorem ws_below {w w' : World} {Bd : Nat} {al : Option Addr} {m c : Nat} {X : Nat → Int} (h : WS w al m c X) (hb : 0 < m → ∀ ad, al = some ad → ad.block < Bd) (k : Below Bd w w') : WS w' al m c X := by
  refine ⟨h.nil, fun i hi => ?_, h.lo, h.hi⟩
  obtain ⟨ad, e, hc⟩ := h.cell i hi
  exact ⟨ad, e, (k.cell (by rw [add_block]; exact hb (by omega) ad e)).trans hc⟩
theorem BlocksIn.below {w w' : World} {Bd : Nat} {al : Option Addr} {len : Nat} {I : Nat → BI} (h : BlocksIn w Bd al len I) (k : Below Bd w w') : BlocksIn w' Bd al len I := by
  intro i hi
  obtain ⟨x, e, x0, y0, y1, y2, y3, y4⟩ := h i hi
  exact ⟨x, e, x0, (k.cell x0).trans y0, (k.cell (p := ⟨(x.add (i * 2)).block, (x.add (i * 2)).off + 1, none⟩) x0).trans y1, ws_below y2 y3 k, y3, y4⟩
theorem BlocksIn.mono {w : World} {Bd Bd' : Nat} {al : Option Addr} {len : Nat} {I : Nat → BI} (h : BlocksIn w Bd al len I) (k : Bd ≤ Bd') : BlocksIn w Bd' al len I := by
  intro i hi
  obtain ⟨x, e, x0, y0, y1, y2, y3, y4⟩ := h i hi
  exact ⟨x, e, by omega, y0, y1, y2, fun hp ad had => by have := y3 hp ad had; omega, y4⟩
/-- The state behind k blocks that were asked for; the word of block k, 0 if there was no room. -/
def layA (n : Nat) (I : Nat → BI) : Nat → St
  | 0 => St.new n
  | k + 1 => (layA n I k).alloc (I k).tag (min (I k).fl 60 : Nat)
def layW (n : Nat) (I : Nat → BI) (k : Nat) : Int := (layA n I k).allocW (I k).tag (min (I k).fl 60 : Nat)
/-- The state behind k fields more of block i. -/
def layC (n m : Nat) (I : Nat → BI) (s : St) (i : Nat) : Nat → St
  | 0 => s
  | k + 1 => (layC n m I s i k).put (layW n I i) k (wordV ((I i).F k) m (layW n I))
def layN (n : Nat) (I : Nat → BI) (i : Nat) : Nat := if layW n I i = 0 then 0 else min (I i).fl 60
def layB (n m : Nat) (I : Nat → BI) : Nat → St
  | 0 => layA n I m
  | i + 1 => layC n m I (layB n m I i) i (layN n I i)
theorem allocW_rng {w : World} {p : Pl} {s : St} (h : Ar w p s) (t z : Int) : 0 ≤ s.allocW t z ∧ s.allocW t z ≤ 18446744073709551615 := by
  have := h.t2; have := h.n2; have := h.b1
  unfold St.allocW; split <;> omega
variable {w : World} {p : Pl} {s : St} {rb : Nat} {r : RS} {a : Option Addr} {cap : Nat} {V : Nat → Value}
theorem own_left {wr w4 : World} {gB k : Nat} {v : Value} {xs : List Value} (h : Two wr p s rb r a cap V) (ho : wr.ownsRow gB 49 1 v k xs) (o4 : Only p.own wr w4) (hg : rb < gB) : w4.ownsRow gB 49 1 v k xs := by
  obtain ⟨b1, b2, b3, b4⟩ := h.bo.below
  refine ⟨ho.1, ?_⟩
  rcases ho.2 with h2 | ⟨g, c, cur, hv, hge, hh, rest⟩
  · exact .inl h2
  · exact .inr ⟨g, c, cur, hv, hge, (o4.block g (lt_of_some hh) (by unfold Pl.own; omega)).trans hh, rest⟩
theorem own_right {w4 w5 : World} {gB k : Nat} {v : Value} {xs : List Value} (h : Both w4 p s rb r a cap V) (ho : w4.ownsRow gB 49 1 v k xs) (o5 : Only (Rown rb a) w4 w5) : w5.ownsRow gB 49 1 v k xs := by
  refine ⟨ho.1, ?_⟩
  rcases ho.2 with h2 | ⟨g, c, cur, hv, hge, hh, rest⟩
  · exact .inl h2
  · refine .inr ⟨g, c, cur, hv, hge, (o5.block g (lt_of_some hh) ?_).trans hh, rest⟩
    rintro (rfl | hs)
    · have := h.rf.hr
      rw [hh] at this
      simp at this
    · obtain ⟨g', cur', e, _, hg', _⟩ := h.rf.hl.2.2.2 _ hs
      have : g = g' := by simpa using e
      subst this
      rw [hh] at hg'
      simp at hg'
theorem own_size {w5 : World} {gB k : Nat} {g cp : Nat} {xs : List Value} (ho : w5.ownsRow gB 49 1 (.slice (some ⟨g, 0, none⟩) k cp) k xs) : gB ≤ w5.heap.size := by
  rcases ho.2 with ⟨h2, _⟩ | ⟨g', c, cur, hv, hge, hh, rest⟩
  · cases h2
  · have := lt_of_some hh; omega
theorem lay_below {w4 w5 : World} {Bd : Nat} (hb : Below Bd w w4) (h : Both w4 p s rb r a cap V) (o5 : Only (Rown rb a) w4 w5) (hrb : Bd ≤ rb) : Below Bd w w5 := by
  have := lt_of_some h.rf.hr
  exact hb.trans (o5.below (by omega) (fun q hq hs => by have := (rown_old h q hs).1; omega))
/-- No block's row of fields is block g. -/
def Off (m : Nat) (V : Nat → Value) (g : Nat) : Prop := ∀ i, i < m → ∀ ad n c, V i = .slice (some ad) n c → ad.block ≠ g
theorem Off.fresh {m m' g B : Nat} {V V' : Nat → Value} (h : Off m V g) (f : Fresh B m V m' V') (hg : g < B) : Off m' V' g := by
  intro i hi ad n c e
  rcases f i hi with ⟨h1, h2⟩ | h1
  · exact h i h1 ad n c (by rw [← h2]; exact e)
  · have := h1 ad n c e; omega
theorem off_new {g : Nat} (h : Rf w rb r a cap V) (hg : w.heap.size ≤ g) : Off r.L.length V g := by
  intro i hi ad n c e
  obtain ⟨ga, _, _, _, _, h5⟩ := h.row (by omega)
  obtain ⟨_, _, _, a', cap', e2, _, h6⟩ := h5 i _ (List.getElem?_eq_getElem hi)
  rw [e] at e2
  simp only [Value.slice.injEq] at e2
  obtain ⟨g', e3, _, h7⟩ := h6 ad e2.1.symm
  have := h7.lt
  rw [e3]
  show g' ≠ g
  omega
theorem own_blk {w : World} {gB g k cp : Nat} {xs : List Value} (ho : w.ownsRow gB 49 1 (.slice (some ⟨g, 0, none⟩) k cp) k xs) : ∃ cur, w.heap[g]? = some (.cells cur 49 (0, 0)) := own_row ho g rfl
theorem two_only {w5 w6 : World} {g : Nat} {cur : Array Value} (h : Two w5 p s rb r a cap V) (hc : w5.heap[g]? = some (.cells cur 49 (0, 0))) (hg : rb < g) (hoff : Off r.L.length V g) (k : Only (fun q => q = g) w5 w6) : Two w6 p s rb r a cap V := by
  obtain ⟨b1, b2, b3, b4⟩ := h.bo.below
  refine ⟨h.ar.frame k (by omega) (by omega) (by omega) (by omega), ⟨h.bo.ar, ⟨(k.block _ (lt_of_some h.bo.rf.hr) (by omega)).trans h.bo.rf.hr, h.bo.rf.hl.1, h.bo.rf.hl.2.1, h.bo.rf.hl.2.2.1, fun ad had => ?_⟩, h.bo.rep, h.bo.below⟩⟩
  obtain ⟨ga, cur', e, hb, hga, hcs, hcell⟩ := h.bo.rf.hl.2.2.2 ad had
  have hne : ga ≠ g := by
    rintro rfl
    rw [hc] at hga
    simp at hga
  refine ⟨ga, cur', e, hb, (k.block _ (lt_of_some hga) hne).trans hga, hcs, fun i b hib => ?_⟩
  obtain ⟨c1, c2, c3, a', cap', e2, hn, hf⟩ := hcell i b hib
  refine ⟨c1, c2, c3, a', cap', e2, hn, fun ad' had' => ?_⟩
  obtain ⟨g', e3, hb', ho⟩ := hf ad' had'
  have hi := (List.getElem?_eq_some_iff.1 hib).1
  have := hoff i hi ad' _ _ (by rw [e2, had'])
  rw [e3] at this
  exact ⟨g', e3, hb', ho.frame k this⟩
theorem only_grown {w5 w6 : World} {g : Nat} {o : Obj} (gr : (w5.alloc o).grownBy w6 (some g)) : Only (fun q => q = g) w5 w6 :=
  ⟨gr.os, gr.tape, gr.output, Nat.le_trans (by rw [nblk_alloc]; omega) gr.size, fun q hq hs => (gr.block q (by rw [nblk_alloc]; omega) (by simpa using hs)).trans (blk_alloc_lt _ _ _ hq)⟩
/-- Behind an append to the row of words: both arenas are as they were; no block's fields lie in the new row. -/
theorem two_grown {w5 w6 : World} {gB g g6 k cp : Nat} {xs : List Value} {o : Obj} (h : Two w5 p s rb r a cap V) (ho : w5.ownsRow gB 49 1 (.slice (some ⟨g, 0, none⟩) k cp) k xs) (hg : rb < gB) (hoff : Off r.L.length V g) (gr : (w5.alloc o).grownBy w6 (some g)) (hat : some g = some g6 ∨ g6 = (w5.alloc o).heap.size) : Two w6 p s rb r a cap V ∧ Off r.L.length V g6 := by
  obtain ⟨cur, hc⟩ := own_blk ho
  have hge := own_ge ho g rfl
  refine ⟨two_only h hc (by omega) hoff (only_grown gr), ?_⟩
  rcases hat with e | e
  · cases e; exact hoff
  · rw [nblk_alloc] at e
    exact off_new h.bo.rf (by omega)
theorem wpList_append_lie {w : World} {ops : Array Oper} {rest : List Oper} {o : Oper} {a : Act} {Q : Exit → Act → World → Prop} (hgd : o.guard = none) (s x : Operand)
    (ho : o.op = .call { callee := .builtin .append, args := #[s, x], argTypes := #[23, 23] }) (B : Nat) (v : Value) (n : Nat) (xs : List Value) (hs : a.eval s = v) (hown : w.ownsRow B 49 1 v n xs)
    (ad : Addr) (c : Nat) (u : Int) (hx : a.eval x = .slice (some ad) 1 c) (hu : w.cell? (ad.add 0) = some (.int .u64 u)) (hn : n ≤ 1000000) (hB : B ≤ w.heap.size)
    (h : ∀ g cap w', w'.ownsRow B 49 1 (.slice (some ⟨g, 0, none⟩) (n + 1) cap) (n + 1) (xs ++ [.int .u64 u]) → w.grownBy w' v.ownBlock → (v.ownBlock = some g ∨ g = w.heap.size) → wpList Try.prog ops Q rest (a.put o.dst (.slice (some ⟨g, 0, none⟩) (n + 1) cap)) w') : wpList Try.prog ops Q (o :: rest) a w := by
  obtain ⟨i0, hi, hz0, hz1, hz2⟩ := info_parts Try.info49
  refine wpList_append_lies w hgd s x 23 ho B 49 i0 (.int .u64 0) 1 8 Try.underlying23 hi hz0 hz1 hz2 rfl (by decide) v n xs hs hown ad 1 c [.int .u64 u] hx rfl ?_ ?_ (by omega) (by unfold maxLen; omega) (by omega) hB _ rfl ?_
  · intro j y hy
    match j, hy with
    | 0, hy => simp at hy; subst hy; exact hu
  · intro y hy; simp at hy; subst hy; rfl
  · intro g cap w' h1 h2 h3 _
    exact h g cap w' h1 h2 h3
theorem own_keepL {wr w4 : World} {g k gB : Nat} {X : Nat → Int} (h : Two wr p s rb r a cap V) (ho : Own wr g k X) (hg : rb < gB) (hgg : gB ≤ g) (o4 : Only p.own wr w4) : Own w4 g k X := by
  obtain ⟨b1, b2, b3, b4⟩ := h.bo.below
  exact ho.frame o4 (by unfold Pl.own; omega)
theorem own_keepR {w4 w5 : World} {g k : Nat} {X : Nat → Int} (h : Both w4 p s rb r a cap V) (ho : Own w4 g k X) (o5 : Only (Rown rb a) w4 w5) : Own w5 g k X := by
  refine ho.frame o5 ?_
  obtain ⟨cur, hc, _⟩ := ho
  rintro (rfl | hs)
  · have := h.rf.hr
    rw [hc] at this
    simp at this
  · obtain ⟨g', cur', e, _, hg', _⟩ := h.rf.hl.2.2.2 _ hs
    have : g = g' := by simpa using e
    subst this
    rw [hc] at hg'
    simp at hg'
theorem layN_zero {n : Nat} {I : Nat → BI} {i : Nat} (h : layW n I i = 0) : layN n I i = 0 := by unfold layN; rw [if_pos h]
theorem layN_pos {n : Nat} {I : Nat → BI} {i : Nat} (h : layW n I i ≠ 0) : layN n I i = min (I i).fl 60 := by unfold layN; rw [if_neg h]
theorem lay_lt {wr w4 : World} {S : Nat → Prop} {gB g k cp : Nat} {xs : List Value} (ho : wr.ownsRow gB 49 1 (.slice (some ⟨g, 0, none⟩) k cp) k xs) (o4 : Only S wr w4) : g < w4.heap.size := by
  obtain ⟨cur, hc⟩ := own_blk ho
  have := lt_of_some hc
  exact Nat.lt_of_lt_of_le this o4.size
theorem lay_no (n : Int) (al : Option Addr) (ll cl : Nat) (w : World) (h : n < 2 ∨ 32768 < n) :
    Calls Try.prog 10 #[.int .i64 n, .slice al ll cl] w fun e w' => e = .returned (.tuple #[.pointer none, .pointer none]) ∧ w' = w := by
  go_enter Try.func10, Try.ntmps10
  go_wp2_with (first | (go_at_call 29; refine (new_no n _ h).mono ?_; rintro e w' ⟨rfl, rfl⟩) | (go_at_call 30; refine (rnew_no n _ h).mono ?_; rintro e w' ⟨rfl, rfl⟩))
  all_goals go_ret2
  all_goals exact ⟨rfl, rfl⟩
set_option maxRecDepth 100000 in
theorem lay_yes (n : Int) (al : Option Addr) (ll cl : Nat) (I : Nat → BI) (w : World) (h1 : 2 ≤ n) (h2 : n ≤ 32768) (hl : ll ≤ maxLen) (hI : BlocksIn w w.heap.size al ll I) :
    Calls Try.prog 10 #[.int .i64 n, .slice al ll cl] w fun e w' => ∃ p rb r a cap V, e = .returned (.tuple #[.pointer (some ⟨p.a, 0, none⟩), .pointer (some ⟨rb, 0, none⟩)]) ∧ Two w' p (layB n.toNat (min ll 60) I (min ll 60)) rb r a cap V ∧ Below w.heap.size w w' ∧ (w.heap.size ≤ p.a ∧ w.heap.size ≤ p.h ∧ w.heap.size ≤ p.c ∧ w.heap.size ≤ p.b ∧ w.heap.size ≤ rb) := by
  unfold maxLen at hl
  have HI : Hid (BlocksIn w w.heap.size al ll I) := hI
  clear hI
  go_enter Try.func10, Try.ntmps10
  go_wp2_with fail
  refine (new_at n _ h1 h2).mono ?_
  rintro e w1 ⟨p, rfl, ha, b1, i1, i2, i3, i4⟩
  go_wp2_with fail
  refine (rnew_yes n _ h1 h2).mono ?_
  rintro e w2 ⟨rfl, hr, b2⟩
  have h0 := two_new ha hr b2
  have hB2 := b1.trans (b2.mono b1.size)
  have hrb : w.heap.size ≤ w1.heap.size := b1.size
  clear hr ha b1 b2
  generalize w1.heap.size = rb at h0 hrb ⊢
  go_wp2
  have h3 : Two (w2.alloc (.cells #[] 49)) p (St.new n.toNat) rb ⟨n.toNat, 0, []⟩ none 0 (fun _ => .slice none 0 0) := h0.alloc _
  have hB3 : Below w.heap.size w (w2.alloc (.cells #[] 49)) := hB2.alloc hB2.size _
  have hq : w.heap.size ≤ w2.heap.size := hB2.size
  have hown : (w2.alloc (.cells #[] 49)).ownsRow w2.heap.size 49 1 (.slice (some ⟨w2.heap.size, 0, none⟩) 0 0) 0 ((List.range 0).map fun j => .int .u64 (layW n.toNat I j)) := ⟨rfl, .inr ⟨w2.heap.size, 0, #[], rfl, Nat.le_refl _, blk_alloc_new _ _, Nat.le_refl _, Nat.zero_le _, rfl, rfl⟩⟩
  have hz0 := lt_of_some h0.bo.rf.hr
  have hz1 := h0.bo.below
  obtain ⟨gB, hgB⟩ : ∃ gB, gB = w2.heap.size := ⟨_, rfl⟩
  rw [← hgB] at hown hz0 hq ⊢
  clear hgB
  generalize w2.alloc (.cells #[] 49) = w3 at *
  clear h0 hB2
  go_loopw [8, 9] (fun v i wr => ∃ (k g cp : Nat) (r : RS) (a : Option Addr) (cap : Nat) (V : Nat → Value), k ≤ ll ∧ k ≤ 60 ∧ i = .int .i64 k ∧ v = .slice (some ⟨g, 0, none⟩) k cp ∧ wr.ownsRow gB 49 1 v k ((List.range k).map fun j => .int .u64 (layW n.toNat I j)) ∧ Two wr p (layA n.toNat I k) rb r a cap V ∧ Off r.L.length V g ∧ Hid (∀ j, j < k → 0 ≤ layW n.toNat I j ∧ layW n.toNat I j ≤ 18446744073709551615) ∧ Below w.heap.size w wr) (fun _ i _ => 60 - (intOf i).toNat)
  case atStart => exact ⟨0, gB, 0, _, _, _, _, by omega, by omega, rfl, rfl, hown, h3, by intro i hi; exact absurd hi (Nat.not_lt_zero _), fun j hj => absurd hj (Nat.not_lt_zero _), hB3⟩
  case round =>
    clear hown h3 hB3
    obtain ⟨k, g, cp, r, a, cap, V, hk, hk6, rfl, rfl, ho, h3, hoff, HLR, hb⟩ := hrel
    have HOFF : Hid _ := hoff
    clear hoff
    by_cases hlt : k < ll
    · by_cases h60 : k < 60
      · obtain ⟨x, rfl, x0, y0, y1, y2, y3, y4⟩ := HI.out k hlt
        unfold maxLen at y4
        have z0 := (hb.cell x0).trans y0
        have z1 := (hb.cell (p := ⟨(x.add (k * 2)).block, (x.add (k * 2)).off + 1, none⟩) x0).trans y1
        have x1 : (0 : Int) ≤ (k : Int) := by omega
        have x2 : (k : Int) < (ll : Int) := by omega
        have y0' : Hid _ := y0
        have y1' : Hid _ := y1
        generalize hIk : I k = b at *
        obtain ⟨tag, fa, fl, fc, F⟩ := b
        simp only at z0 z1 y4
        have HO : Hid (wr.ownsRow gB 49 1 (.slice (some ⟨g, 0, none⟩) k cp) k ((List.range k).map fun j => .int .u64 (layW n.toNat I j))) := ho
        obtain ⟨z, hz⟩ : ∃ z : Nat, z = min fl 60 := ⟨_, rfl⟩
        have hmin : (if 60 < (fl : Int) then (60 : Int) else fl) = (z : Int) := by split <;> omega
        have HLA : Hid (layA n.toNat I (k + 1) = (layA n.toNat I k).alloc tag z) := by show (layA n.toNat I k).alloc (I k).tag (min (I k).fl 60 : Nat) = _; rw [hIk, hz]
        have HLW : Hid (layW n.toNat I k = (layA n.toNat I k).allocW tag z) := by show (layA n.toNat I k).allocW (I k).tag (min (I k).fl 60 : Nat) = _; rw [hIk, hz]
        obtain ⟨aw0, aw1⟩ := allocW_rng h3.ar tag z
        have HLR2 : Hid (∀ j, j < k + 1 → 0 ≤ layW n.toNat I j ∧ layW n.toNat I j ≤ 18446744073709551615) := by
          intro j hj
          by_cases e : j < k
          · exact HLR.out j e
          · have : j = k := by omega
            subst this
            rw [HLW.out]; exact ⟨aw0, aw1⟩
        have HB : Hid _ := hb
        clear y0 y1 y2 y3 ho hIk hz
        generalize layA n.toNat I k = s at *
        by_cases hE : s.allocE tag z = 0
        · have E1 : (s.allocE tag z != 0) = false := by rw [hE]; rfl
          clear hE
          go_wp2_with fail
          go_region_held3 (fun w' => w'.cell? (x.add (k * 2)) = some (.int .i64 tag) ∧ w'.cell? ⟨(x.add (k * 2)).block, (x.add (k * 2)).off + 1, none⟩ = some (.slice fa fl fc)) (go_keep) (first | (go_at_call 31; refine (alloc_any (p := p) (s := s) tag z _ ?_).mono ?_; exact h3.ar.drewN 1; rintro e w4 ⟨rfl, ha4, o4⟩; have bo4 := h3.left (only_of_drew o4); have hb4 := HB.out.trans ((only_of_drew o4).under HB.out.size i2 i3 i4); have c4 := (hb4.cell x0).trans y0'.out; have d4 := (hb4.cell (p := ⟨(x.add (k * 2)).block, (x.add (k * 2)).off + 1, none⟩) x0).trans y1'.out))
          go_wp2_with fail
          go_region_held3 (fun w' => w'.cell? (x.add (k * 2)) = some (.int .i64 tag) ∧ w'.cell? ⟨(x.add (k * 2)).block, (x.add (k * 2)).off + 1, none⟩ = some (.slice fa fl fc)) (go_keep) (first | (go_at_call 32; refine (ralloc_fresh (p := p) (s := s) (r := r) (a := a) (cap := cap) (V := V) tag z _ ?_).mono ?_; exact bo4.drewN 1; rintro e w5 ⟨rfl, a5, cap5, V5, rf5, o5, f5⟩; have h5 := play_two bo4 ha4 rf5 (rep_after h3.bo.rep h3.ar.t1 tag z) (only_of_drew o5); have hb5 := lay_below hb4 bo4 (only_of_drew o5) hrb; have c5 := (hb5.cell x0).trans y0'.out; have d5 := (hb5.cell (p := ⟨(x.add (k * 2)).block, (x.add (k * 2)).off + 1, none⟩) x0).trans y1'.out; have ho5 := own_right bo4 (own_left h3 HO.out (only_of_drew o4) hz0) (only_of_drew o5); have q5 := hb5.size; have q6 := own_size ho5; have q7 := lay_lt HO.out (only_of_drew o4); have off5 := hidden (Off.fresh HOFF.out f5 q7); clear f5 q7))
          have HO5 : Hid _ := ho5
          go_wp2_with (at_builtin; refine wpList_append_lie rfl (.tmp 69) (.tmp 71) rfl gB _ k _ rfl (ho5.alloc _) ⟨w5.heap.size, 0, none⟩ 1 (s.allocW tag z) rfl (by simp [Addr.add]) (by omega) (by rw [nblk_alloc]; omega) ?_; intro g6 cp6 w6 ho6 gr hat; obtain ⟨h6, off6⟩ := two_grown h5 ho5 hz0 off5.out gr hat; have HOFF6 := hidden off6; clear off6 hat; have hb6 := (hb5.alloc q5 _).grown gr (by rw [nblk_alloc]; omega) (fun q hq => by have := own_ge' ho5 q hq; omega); clear gr)
          go_roundw
          case rel => exact ⟨k + 1, g6, cp6, _, _, _, _, by omega, by omega, by go_num, rfl, by rw [List.range_succ, List.map_append, List.map_singleton, HLW.out]; exact ho6, by rw [HLA.out]; exact h6, HOFF6.out, HLR2, hb6⟩
          case measure => simp [intOf]; omega
        · have E1 : (s.allocE tag z != 0) = true := by rw [bne_iff_ne]; exact hE
          have HEW : Hid (s.allocW tag z = 0) := by show _ = _; unfold St.allocW; rw [if_neg hE]
          clear hE
          go_wp2_with fail
          go_region_held3 (fun w' => w'.cell? (x.add (k * 2)) = some (.int .i64 tag) ∧ w'.cell? ⟨(x.add (k * 2)).block, (x.add (k * 2)).off + 1, none⟩ = some (.slice fa fl fc)) (go_keep) (first | (go_at_call 31; refine (alloc_any (p := p) (s := s) tag z _ ?_).mono ?_; exact h3.ar.drewN 1; rintro e w4 ⟨rfl, ha4, o4⟩; have bo4 := h3.left (only_of_drew o4); have hb4 := HB.out.trans ((only_of_drew o4).under HB.out.size i2 i3 i4); have c4 := (hb4.cell x0).trans y0'.out; have d4 := (hb4.cell (p := ⟨(x.add (k * 2)).block, (x.add (k * 2)).off + 1, none⟩) x0).trans y1'.out))
          go_wp2_with fail
          go_region_held3 (fun w' => w'.cell? (x.add (k * 2)) = some (.int .i64 tag) ∧ w'.cell? ⟨(x.add (k * 2)).block, (x.add (k * 2)).off + 1, none⟩ = some (.slice fa fl fc)) (go_keep) (first | (go_at_call 32; refine (ralloc_fresh (p := p) (s := s) (r := r) (a := a) (cap := cap) (V := V) tag z _ ?_).mono ?_; exact bo4.drewN 1; rintro e w5 ⟨rfl, a5, cap5, V5, rf5, o5, f5⟩; have h5 := play_two bo4 ha4 rf5 (rep_after h3.bo.rep h3.ar.t1 tag z) (only_of_drew o5); have hb5 := lay_below hb4 bo4 (only_of_drew o5) hrb; have c5 := (hb5.cell x0).trans y0'.out; have d5 := (hb5.cell (p := ⟨(x.add (k * 2)).block, (x.add (k * 2)).off + 1, none⟩) x0).trans y1'.out; have ho5 := own_right bo4 (own_left h3 HO.out (only_of_drew o4) hz0) (only_of_drew o5); have q5 := hb5.size; have q6 := own_size ho5; have q7 := lay_lt HO.out (only_of_drew o4); have off5 := hidden (Off.fresh HOFF.out f5 q7); clear f5 q7))
          have HO5 : Hid _ := ho5
          go_wp2_with (at_builtin; refine wpList_append_lie rfl (.tmp 69) (.tmp 71) rfl gB _ k _ rfl (ho5.alloc _) ⟨w5.heap.size, 0, none⟩ 1 0 rfl (by simp [Addr.add]) (by omega) (by rw [nblk_alloc]; omega) ?_; intro g6 cp6 w6 ho6 gr hat; obtain ⟨h6, off6⟩ := two_grown h5 ho5 hz0 off5.out gr hat; have HOFF6 := hidden off6; clear off6 hat; have hb6 := (hb5.alloc q5 _).grown gr (by rw [nblk_alloc]; omega) (fun q hq => by have := own_ge' ho5 q hq; omega); clear gr)
          go_roundw
          case rel => exact ⟨k + 1, g6, cp6, _, _, _, _, by omega, by omega, by go_num, rfl, by rw [List.range_succ, List.map_append, List.map_singleton, HLW.out, HEW.out]; exact ho6, by rw [HLA.out]; exact h6, HOFF6.out, HLR2, hb6⟩
          case measure => simp [intOf]; omega
      · have HEK : Hid (k = min ll 60) := by show _ = _; omega
        obtain ⟨hown, hgg⟩ := own_of_row ho
        have HWS : Hid (∀ wq, Own wq g k (layW n.toNat I) → WS wq (some ⟨g, 0, none⟩) k cp (layW n.toNat I)) := fun wq hq => ws_own hq (fun i hi => (HLR.out i hi).1) (fun i hi => (HLR.out i hi).2)
        clear ho
        go_wp2_with fail
        go_loopw [75] (fun i wr => ∃ (q : Nat) (r : RS) (a : Option Addr) (cap : Nat) (V : Nat → Value), q ≤ k ∧ i = .int .i64 q ∧ Own wr g k (layW n.toNat I) ∧ Two wr p (layB n.toNat k I q) rb r a cap V ∧ Below w.heap.size w wr) (fun i _ => k - (intOf i).toNat)
        case atStart => exact ⟨0, r, a, cap, V, by omega, rfl, hown, h3, hb⟩
        case round =>
          clear hown h3 hb HOFF
          obtain ⟨q, r, a, cap, V, hq, rfl, hown, h3, hb⟩ := hrel
          by_cases hqk : q < k
          · obtain ⟨x, rfl, x0, y0, y1, y2, y3, y4⟩ := HI.out q (by omega)
            unfold maxLen at y4
            obtain ⟨w0, w1⟩ := HLR.out q hqk
            have HCL : Hid (∀ wq, Own wq g k (layW n.toNat I) → wq.cell? ⟨g, q, none⟩ = some (.int .u64 (layW n.toNat I q))) := fun wq h => h.cell hqk
            have Z1 : Hid (∀ wq, Below w.heap.size w wq → wq.cell? ⟨(x.add (q * 2)).block, (x.add (q * 2)).off + 1, none⟩ = some (.slice (I q).fa (I q).fl (I q).fc)) := fun wq hb => (hb.cell (p := ⟨(x.add (q * 2)).block, (x.add (q * 2)).off + 1, none⟩) x0).trans y1
            have Y2 : Hid (∀ wq, Below w.heap.size w wq → WS wq (I q).fa (I q).fl (I q).fc (I q).F) := fun wq hb => ws_below y2 y3 hb
            have HLB : Hid (layB n.toNat k I (q + 1) = layC n.toNat k I (layB n.toNat k I q) q (layN n.toNat I q)) := rfl
            have HLC : Hid (∀ t, layC n.toNat k I (layB n.toNat k I q) q (t + 1) = (layC n.toNat k I (layB n.toNat k I q) q t).put (layW n.toNat I q) t (wordV ((I q).F t) k (layW n.toNat I))) := fun _ => rfl
            have HLN : Hid (∀ t, t ≤ layN n.toNat I q → (layW n.toNat I q = 0 → t = 0 ∧ layN n.toNat I q = 0) ∧ (layW n.toNat I q ≠ 0 → layN n.toNat I q = min (I q).fl 60)) := fun t ht => ⟨fun h => by have := layN_zero h; omega, fun h => layN_pos h⟩
            have x1 : (0 : Int) ≤ (q : Int) := by omega
            have x2 : (q : Int) < (ll : Int) := by omega
            have x3 : (q : Int) < (k : Int) := by omega
            have hc0 : layC n.toNat k I (layB n.toNat k I q) q 0 = layB n.toNat k I q := rfl
            rw [← hc0] at h3
            clear y0 y1 y2 y3 hc0
            generalize hIq : I q = b at *
            obtain ⟨tag, fa, fl, fc, F⟩ := b
            simp only at y4 Z1 Y2 HLC HLN
            clear hIq
            generalize layC n.toNat k I (layB n.toNat k I q) q = S at *
            generalize layN n.toNat I q = N at *
            generalize hW : layW n.toNat I q = W at *
            clear hW
            have z1 := Z1.out wr hb
            have hcl := HCL.out wr hown
            go_wp2_with fail
            go_loopw [13] (fun i wr => ∃ (t : Nat) (r : RS) (a : Option Addr) (cap : Nat) (V : Nat → Value), t ≤ N ∧ i = .int .i64 t ∧ Own wr g k (layW n.toNat I) ∧ Two wr p (S t) rb r a cap V ∧ Below w.heap.size w wr) (fun i _ => 60 - (intOf i).toNat)
            case atStart => exact ⟨0, r, a, cap, V, by omega, rfl, hown, h3, hb⟩
            case round =>
              clear hown h3 hb z1 hcl
              obtain ⟨t, r, a, cap, V, ht, rfl, hown, h3, hb⟩ := hrel
              have z1 := Z1.out wr hb
              have hcl := HCL.out wr hown
              obtain ⟨n0, n1⟩ := HLN.out t ht
              by_cases W0 : W = 0
              · obtain ⟨e1, e2⟩ := n0 W0
                have HT : Hid (t = N) := by show _ = _; omega
                have W1 : (W != 0) = false := by rw [W0]; rfl
                clear n0 n1 e1 e2 W0 ht
                go_wp2_with fail
                all_goals go_roundw
                all_goals first | exact ⟨q + 1, r, a, cap, V, by omega, by go_num, hown, by rw [HLB.out, ← HT.out]; exact h3, hb⟩ | (simp [intOf]; omega)
              · have e2 := n1 W0
                have W1 : (W != 0) = true := by rw [bne_iff_ne]; exact W0
                have t60 : t ≤ 60 := by omega
                clear n0 n1 W0
                by_cases tf : t < fl
                · by_cases t6 : t < 60
                  · have tN : t < N := by omega
                    have WSF := Y2.out wr hb
                    obtain ⟨y, rfl, hy⟩ := WSF.cell t tf
                    have f0 := WSF.lo t tf
                    have f1 := WSF.hi t tf
                    have v0 := wordV_lo (m := k) (X := layW n.toNat I) f0
                    have v1 := wordV_hi (m := k) (X := layW n.toNat I) f1
                    have hWS := HWS.out wr hown
                    have HFIT : Hid (S t).Fits := h3.bo.rep.fits
                    have HS1 : Hid (S (t + 1) = (S t).put W t (wordV (F t) k (layW n.toNat I))) := HLC.out t
                    clear e2 ht WSF
                    have x4 : (0 : Int) ≤ (t : Int) := by omega
                    have x5 : (t : Int) < (fl : Int) := by omega
                    go_wp2_with fail
                    refine (word3_any (F t) _ hWS (by unfold maxLen; omega) f0 f1).mono ?_
                    rintro e w' ⟨rfl, hw'⟩
                    rw [hw']
                    clear hw' w'
                    generalize wordV (F t) k (layW n.toNat I) = v at *
                    go_wp2_with fail
                    refine (set_any W t v _ h3.ar HFIT.out w0 w1 v0 v1).mono ?_
                    rintro e w4 ⟨rfl, ha4, o4⟩
                    have bo4 := h3.left o4
                    have hown4 := own_keepL h3 hown hz0 hgg o4
                    have hb4 := hb.trans (o4.under hb.size i2 i3 i4)
                    have hcl4 := HCL.out w4 hown4
                    clear hcl z1 hy hWS
                    go_wp2_with fail
                    refine (rset_any (p := p) (s := S t) (r := r) (a := a) (cap := cap) (V := V) W t v _ bo4 w0 w1).mono ?_
                    rintro e w5 ⟨rfl, r5, V5, rf5, rep5, o5⟩
                    have h5 := play_two bo4 ha4 rf5 rep5 o5
                    have hown5 := own_keepR bo4 hown4 o5
                    have hb5 := lay_below hb4 bo4 o5 hrb
                    clear hcl4 h3 ha4 o4 bo4 rf5 rep5 o5
                    go_wp2_with fail
                    go_roundw
                    case rel => exact ⟨t + 1, r5, a, cap, V5, by omega, by go_num, hown5, by rw [HS1.out]; exact h5, hb5⟩
                    case measure => simp [intOf]; omega
                  · have HT : Hid (t = N) := by show _ = _; omega
                    clear e2 ht
                    go_wp2_with fail
                    all_goals go_roundw
                    all_goals first | exact ⟨q + 1, r, a, cap, V, by omega, by go_num, hown, by rw [HLB.out, ← HT.out]; exact h3, hb⟩ | (simp [intOf]; omega)
                · have HT : Hid (t = N) := by show _ = _; omega
                  clear e2 ht
                  go_wp2_with fail
                  all_goals go_roundw
                  all_goals first | exact ⟨q + 1, r, a, cap, V, by omega, by go_num, hown, by rw [HLB.out, ← HT.out]; exact h3, hb⟩ | (simp [intOf]; omega)
          · have HQ : Hid (q = min ll 60) := by have := HEK.out; show _ = _; omega
            have HKM : Hid (k = min ll 60) := HEK.out
            go_wp2_with fail
            go_ret2
            exact ⟨p, rb, r, a, cap, V, rfl, by rw [← HKM.out]; have e := HQ.out; rw [← HKM.out] at e; rw [← e]; rw [← e] at h3; exact h3, hb, i1, i2, i3, i4, hrb⟩
    · have HEK : Hid (k = min ll 60) := by show _ = _; omega
      obtain ⟨hown, hgg⟩ := own_of_row ho
      have HWS : Hid (∀ wq, Own wq g k (layW n.toNat I) → WS wq (some ⟨g, 0, none⟩) k cp (layW n.toNat I)) := fun wq hq => ws_own hq (fun i hi => (HLR.out i hi).1) (fun i hi => (HLR.out i hi).2)
      clear ho
      go_wp2_with fail
      go_loopw [75] (fun i wr => ∃ (q : Nat) (r : RS) (a : Option Addr) (cap : Nat) (V : Nat → Value), q ≤ k ∧ i = .int .i64 q ∧ Own wr g k (layW n.toNat I) ∧ Two wr p (layB n.toNat k I q) rb r a cap V ∧ Below w.heap.size w wr) (fun i _ => k - (intOf i).toNat)
      case atStart => exact ⟨0, r, a, cap, V, by omega, rfl, hown, h3, hb⟩
      case round =>
        clear hown h3 hb HOFF
        obtain ⟨q, r, a, cap, V, hq, rfl, hown, h3, hb⟩ := hrel
        by_cases hqk : q < k
        · obtain ⟨x, rfl, x0, y0, y1, y2, y3, y4⟩ := HI.out q (by omega)
          unfold maxLen at y4
          obtain ⟨w0, w1⟩ := HLR.out q hqk
          have HCL : Hid (∀ wq, Own wq g k (layW n.toNat I) → wq.cell? ⟨g, q, none⟩ = some (.int .u64 (layW n.toNat I q))) := fun wq h => h.cell hqk
          have Z1 : Hid (∀ wq, Below w.heap.size w wq → wq.cell? ⟨(x.add (q * 2)).block, (x.add (q * 2)).off + 1, none⟩ = some (.slice (I q).fa (I q).fl (I q).fc)) := fun wq hb => (hb.cell (p := ⟨(x.add (q * 2)).block, (x.add (q * 2)).off + 1, none⟩) x0).trans y1
          have Y2 : Hid (∀ wq, Below w.heap.size w wq → WS wq (I q).fa (I q).fl (I q).fc (I q).F) := fun wq hb => ws_below y2 y3 hb
          have HLB : Hid (layB n.toNat k I (q + 1) = layC n.toNat k I (layB n.toNat k I q) q (layN n.toNat I q)) := rfl
          have HLC : Hid (∀ t, layC n.toNat k I (layB n.toNat k I q) q (t + 1) = (layC n.toNat k I (layB n.toNat k I q) q t).put (layW n.toNat I q) t (wordV ((I q).F t) k (layW n.toNat I))) := fun _ => rfl
          have HLN : Hid (∀ t, t ≤ layN n.toNat I q → (layW n.toNat I q = 0 → t = 0 ∧ layN n.toNat I q = 0) ∧ (layW n.toNat I q ≠ 0 → layN n.toNat I q = min (I q).fl 60)) := fun t ht => ⟨fun h => by have := layN_zero h; omega, fun h => layN_pos h⟩
          have x1 : (0 : Int) ≤ (q : Int) := by omega
          have x2 : (q : Int) < (ll : Int) := by omega
          have x3 : (q : Int) < (k : Int) := by omega
          have hc0 : layC n.toNat k I (layB n.toNat k I q) q 0 = layB n.toNat k I q := rfl
          rw [← hc0] at h3
          clear y0 y1 y2 y3 hc0
          generalize hIq : I q = b at *
          obtain ⟨tag, fa, fl, fc, F⟩ := b
          simp only at y4 Z1 Y2 HLC HLN
          clear hIq
          generalize layC n.toNat k I (layB n.toNat k I q) q = S at *
          generalize layN n.toNat I q = N at *
          generalize hW : layW n.toNat I q = W at *
          clear hW
          have z1 := Z1.out wr hb
          have hcl := HCL.out wr hown
          go_wp2_with fail
          go_loopw [13] (fun i wr => ∃ (t : Nat) (r : RS) (a : Option Addr) (cap : Nat) (V : Nat → Value), t ≤ N ∧ i = .int .i64 t ∧ Own wr g k (layW n.toNat I) ∧ Two wr p (S t) rb r a cap V ∧ Below w.heap.size w wr) (fun i _ => 60 - (intOf i).toNat)
          case atStart => exact ⟨0, r, a, cap, V, by omega, rfl, hown, h3, hb⟩
          case round =>
            clear hown h3 hb z1 hcl
            obtain ⟨t, r, a, cap, V, ht, rfl, hown, h3, hb⟩ := hrel
            have z1 := Z1.out wr hb
            have hcl := HCL.out wr hown
            obtain ⟨n0, n1⟩ := HLN.out t ht
            by_cases W0 : W = 0
            · obtain ⟨e1, e2⟩ := n0 W0
              have HT : Hid (t = N) := by show _ = _; omega
              have W1 : (W != 0) = false := by rw [W0]; rfl
              clear n0 n1 e1 e2 W0 ht
              go_wp2_with fail
              all_goals go_roundw
              all_goals first | exact ⟨q + 1, r, a, cap, V, by omega, by go_num, hown, by rw [HLB.out, ← HT.out]; exact h3, hb⟩ | (simp [intOf]; omega)
            · have e2 := n1 W0
              have W1 : (W != 0) = true := by rw [bne_iff_ne]; exact W0
              have t60 : t ≤ 60 := by omega
              clear n0 n1 W0
              by_cases tf : t < fl
              · by_cases t6 : t < 60
                · have tN : t < N := by omega
                  have WSF := Y2.out wr hb
                  obtain ⟨y, rfl, hy⟩ := WSF.cell t tf
                  have f0 := WSF.lo t tf
                  have f1 := WSF.hi t tf
                  have v0 := wordV_lo (m := k) (X := layW n.toNat I) f0
                  have v1 := wordV_hi (m := k) (X := layW n.toNat I) f1
                  have hWS := HWS.out wr hown
                  have HFIT : Hid (S t).Fits := h3.bo.rep.fits
                  have HS1 : Hid (S (t + 1) = (S t).put W t (wordV (F t) k (layW n.toNat I))) := HLC.out t
                  clear e2 ht WSF
                  have x4 : (0 : Int) ≤ (t : Int) := by omega
                  have x5 : (t : Int) < (fl : Int) := by omega
                  go_wp2_with fail
                  refine (word3_any (F t) _ hWS (by unfold maxLen; omega) f0 f1).mono ?_
                  rintro e w' ⟨rfl, hw'⟩
                  rw [hw']
                  clear hw' w'
                  generalize wordV (F t) k (layW n.toNat I) = v at *
                  go_wp2_with fail
                  refine (set_any W t v _ h3.ar HFIT.out w0 w1 v0 v1).mono ?_
                  rintro e w4 ⟨rfl, ha4, o4⟩
                  have bo4 := h3.left o4
                  have hown4 := own_keepL h3 hown hz0 hgg o4
                  have hb4 := hb.trans (o4.under hb.size i2 i3 i4)
                  have hcl4 := HCL.out w4 hown4
                  clear hcl z1 hy hWS
                  go_wp2_with fail
                  refine (rset_any (p := p) (s := S t) (r := r) (a := a) (cap := cap) (V := V) W t v _ bo4 w0 w1).mono ?_
                  rintro e w5 ⟨rfl, r5, V5, rf5, rep5, o5⟩
                  have h5 := play_two bo4 ha4 rf5 rep5 o5
                  have hown5 := own_keepR bo4 hown4 o5
                  have hb5 := lay_below hb4 bo4 o5 hrb
                  clear hcl4 h3 ha4 o4 bo4 rf5 rep5 o5
                  go_wp2_with fail
                  go_roundw
                  case rel => exact ⟨t + 1, r5, a, cap, V5, by omega, by go_num, hown5, by rw [HS1.out]; exact h5, hb5⟩
                  case measure => simp [intOf]; omega
                · have HT : Hid (t = N) := by show _ = _; omega
                  clear e2 ht
                  go_wp2_with fail
                  all_goals go_roundw
                  all_goals first | exact ⟨q + 1, r, a, cap, V, by omega, by go_num, hown, by rw [HLB.out, ← HT.out]; exact h3, hb⟩ | (simp [intOf]; omega)
              · have HT : Hid (t = N) := by show _ = _; omega
                clear e2 ht
                go_wp2_with fail
                all_goals go_roundw
                all_goals first | exact ⟨q + 1, r, a, cap, V, by omega, by go_num, hown, by rw [HLB.out, ← HT.out]; exact h3, hb⟩ | (simp [intOf]; omega)
        · have HQ : Hid (q = min ll 60) := by have := HEK.out; show _ = _; omega
          have HKM : Hid (k = min ll 60) := HEK.out
          go_wp2_with fail
          go_ret2
          exact ⟨p, rb, r, a, cap, V, rfl, by rw [← HKM.out]; have e := HQ.out; rw [← HKM.out] at e; rw [← e]; rw [← e] at h3; exact h3, hb, i1, i2, i3, i4, hrb⟩
end Go.Proofs.Ytkgocnmeedkieaa
