/-
  Layer 4's statement MemFull: whatever number of cells and steps are handed in, it returns true.
-/
import Derived.Test.YtjnlfnecmiklhaaP4Real
import Derived.Test.YtjnlfnecmiklhaaP4Awake
import Derived.Test.YtjnlfnecmiklhaaL4Play
namespace Go.Proofs.Ytjnlfnecmiklhaa
open Go.ChangeShapes Go.WideShapes Go.ChangeAt Go.RowKit Go.Deep
set_option linter.unusedVariables false
set_option maxHeartbeats 2000000

theorem ss4_lt {w : World} {al : Option Addr} {m c : Nat} {T : Nat → St4} (h : SS4 w al m c T) : ∀ x, al = some x → 0 < m → x.block < w.heap.size := by
  intro x e hm
  obtain ⟨y, e2, c1, _⟩ := h.cell 0 hm
  have := cell_lt c1
  rw [add_block] at this
  rw [e] at e2
  cases e2
  exact this
/-- There is no room just if what is in reach and what is asked for don't fit. -/
theorem full_iff {s : St} {r : RS} {k t z E W : Int} {X Y : Nat → Int} {a' : RS × Int} (hs : Good s r) (h : MM.al (r, k) t z X E W Y a') (hz : 0 ≤ z) (hz2 : z ≤ 4096) (hE : E = 0 ∨ E = 10) : (E == 10) = decide ((r.n : Int) < (lenG r (reachG s r (listX X 8)) : Nat) + z + 1) := by
  have hp := pick_good hs
  have hg := (goodG_len (reach_good hs.rep (listX X 8))).1
  have hv := good_valid hs
  unfold MM at h; dsimp only at h
  rw [← agree_allocE hs hp, ← agree_reach hs hp] at h
  split at h
  · rename_i g
    split at h
    · rename_i g2
      rw [h.1, decide_eq_true g2]; rfl
    · rename_i g2
      rw [h.1, decide_eq_false g2]; rfl
  · rename_i g
    obtain ⟨h1, _⟩ := h
    have e0 : E = 0 := by
      rcases hE with e | e
      · exact e
      · exact absurd (h1.symm.trans e) g
    rw [e0, decide_eq_false]
    · rfl
    · rw [e0] at h1
      have h2 := h1.symm
      unfold St.allocE at h2
      split at h2
      · omega
      · split at h2
        · omega
        · split at h2
          · omega
          · rename_i g3
            have e1 := hs.rep.top
            have e2 := hs.rep.n
            omega
theorem al_n {s : St} {r : RS} {k t z E W : Int} {X Y : Nat → Int} {a' : RS × Int} (hs : Good s r) (h : MM.al (r, k) t z X E W Y a') : a'.1.n = r.n := by
  have an : ∀ (r : RS) (s : St) (t z : Int), (r.after s t z).n = r.n := fun r s t z => by unfold RS.after; split <;> rfl
  unfold MM at h; dsimp only at h
  split at h
  · split at h
    · rw [h.2]
    · rw [h.2.2.2]; exact an _ _ _ _
  · rw [h.2.2]; exact an _ _ _ _
theorem set_n (r : RS) (x k v : Int) : (r.setR x k v).n = r.n := by
  unfold RS.setR
  split <;> first | rfl | (split <;> rfl)
/-- What the wrapped Alloc stands on: four variables that were caught. -/
structure FI (kb : Nat) (p : Pl) (bm bp bo bn n : Nat) (w : World) (s : St) (r : RS) (k : Int) : Prop where
  pi : PI kb p w s r k
  hm : w.heap[bm]? = some (.cells #[.pointer (some ⟨kb, 0, none⟩)] 24 (0, 0))
  hp : w.heap[bp]? = some (.cells #[.func (.func 28) #[.pointer (some ⟨kb, 0, none⟩)] #[]] 32 (0, 0))
  ho : w.heap[bo]? = some (.cells #[.bool true] 4 (0, 0))
  hn : w.heap[bn]? = some (.cells #[.int .i64 n] 3 (0, 0))
  rn : r.n = n
  nb : ¬ Pown kb p bm ∧ ¬ Pown kb p bp ∧ ¬ Pown kb p bo ∧ ¬ Pown kb p bn
def Fown (kb : Nat) (p : Pl) (bm bp bo bn : Nat) (q : Nat) : Prop := Pown kb p q ∨ q = bm ∨ q = bp ∨ q = bo ∨ q = bn
section
variable {kb : Nat} {p : Pl} {bm bp bo bn n : Nat} {w w' : World} {s : St} {r : RS} {k : Int} {X : Nat → Int}
theorem FI.frame {S : Nat → Prop} (h : FI kb p bm bp bo bn n w s r k) (o : Only S w w') (hs : ∀ q, Fown kb p bm bp bo bn q → ¬ S q) : FI kb p bm bp bo bn n w' s r k :=
  ⟨h.pi.frame o (fun q hq => hs q (Or.inl hq)), (o.block _ (lt_of_some h.hm) (hs _ (Or.inr (Or.inl rfl)))).trans h.hm, (o.block _ (lt_of_some h.hp) (hs _ (Or.inr (Or.inr (Or.inl rfl))))).trans h.hp, (o.block _ (lt_of_some h.ho) (hs _ (Or.inr (Or.inr (Or.inr (Or.inl rfl)))))).trans h.ho, (o.block _ (lt_of_some h.hn) (hs _ (Or.inr (Or.inr (Or.inr (Or.inr rfl)))))).trans h.hn, h.rn, h.nb⟩
theorem FI.lt (h : FI kb p bm bp bo bn n w s r k) : ∀ q, Fown kb p bm bp bo bn q → q < w.heap.size := by
  rintro q (e | e | e | e | e)
  · exact h.pi.lt q e
  · rw [e]; exact lt_of_some h.hm
  · rw [e]; exact lt_of_some h.hp
  · rw [e]; exact lt_of_some h.ho
  · rw [e]; exact lt_of_some h.hn
/-- Behind what writes to the Mem alone. -/
theorem FI.moved {s' : St} {r' : RS} {k' : Int} (h : FI kb p bm bp bo bn n w s r k) (hI : PI kb p w' s' r' k') (o : Only (Pown kb p) w w') (hr : r'.n = r.n) : FI kb p bm bp bo bn n w' s' r' k' :=
  ⟨hI, (o.block _ (lt_of_some h.hm) h.nb.1).trans h.hm, (o.block _ (lt_of_some h.hp) h.nb.2.1).trans h.hp, (o.block _ (lt_of_some h.ho) h.nb.2.2.1).trans h.ho, (o.block _ (lt_of_some h.hn) h.nb.2.2.2).trans h.hn, hr.trans h.rn, h.nb⟩
theorem one4 {w : World} {b : Nat} {x : Value} {t : TypeId} (h : w.heap[b]? = some (.cells #[x] t (0, 0))) : w.cell? ⟨b, 0, none⟩ = some x ∧ w.frozen? ⟨b, 0, none⟩ = false := by
  simp [World.cell?, World.frozen?, h]
theorem FI.write (h : FI kb p bm bp bo bn n w s r k) : FI kb p bm bp bo bn n (w.setCell ⟨bo, 0, none⟩ (.bool true)) s r k := by
  have o : Only (fun q => q = bo) w (w.setCell ⟨bo, 0, none⟩ (.bool true)) := (Only.refl (fun q => q = bo) w).setCell (a := ⟨bo, 0, none⟩) (Or.inr rfl) _
  refine ⟨h.pi.frame o (fun q hq e => h.nb.2.2.1 (e ▸ hq)), (o.block _ (lt_of_some h.hm) (ty_two h.hm h.ho (by decide))).trans h.hm, (o.block _ (lt_of_some h.hp) (ty_two h.hp h.ho (by decide))).trans h.hp, ?_, (o.block _ (lt_of_some h.hn) (ty_two h.hn h.ho (by decide))).trans h.hn, h.rn, h.nb⟩
  have hm := h.ho
  simp [World.setCell, Array.getElem?_modify, hm]
def FAllocAs (kb : Nat) (p : Pl) (bm bp bo bn n g : Nat) (r : RS) (k t z : Int) (X : Nat → Int) (w : World) (e : Ending) (w' : World) : Prop := ∃ E W X' a' now, e = .returned (.tuple #[.int .u64 W, now, .int .i64 E]) ∧ MM.al (r, k) t z X E W X' a' ∧ (∃ s, FI kb p bm bp bo bn n w' s a'.1 a'.2) ∧ Only (Fown kb p bm bp bo bn) w w' ∧ R64 W ∧ (E = 0 → HeldAs (Fown kb p bm bp bo bn) w.heap.size g w' X' now)
theorem held_more {own own' : Nat → Prop} {g m m' : Nat} {now : Value} {X' : Nat → Int} (h : HeldAs own m g w' X' now) (hm : m' ≤ m) (hn : ∀ q, own' q → own q ∨ q < m' ∧ q ≠ g) : HeldAs own' m' g w' X' now := by
  obtain ⟨g', c', e, ho, hg, hat, hrx⟩ := h
  refine ⟨g', c', e, ho, fun hc => ?_, hat.imp id (fun h => Nat.le_trans hm h), hrx⟩
  rcases hn g' hc with h1 | ⟨h1, h2⟩
  · exact hg h1
  · rcases hat with e2 | e2
    · exact h2 e2
    · omega
theorem held_write {own : Nat → Prop} {g m : Nat} {now v : Value} {X' : Nat → Int} (h : HeldAs own m g w X' now) (hb : own bo) : HeldAs own m g (w.setCell ⟨bo, 0, none⟩ v) X' now := by
  obtain ⟨g', c', e, ho, hg, hat, hrx⟩ := h
  have o : Only (fun q => q = bo) w (w.setCell ⟨bo, 0, none⟩ v) := (Only.refl (fun q => q = bo) w).setCell (a := ⟨bo, 0, none⟩) (Or.inr rfl) _
  exact ⟨g', c', e, ho.frame o (fun e => hg (e ▸ hb)), hg, hat, hrx⟩
theorem fown_bo : Fown kb p bm bp bo bn bo := Or.inr (Or.inr (Or.inr (Or.inl rfl)))
set_option maxRecDepth 100000 in
theorem full1_any {g c : Nat} {t z : Int} (w : World) (h : FI kb p bm bp bo bn n w s r k) (ho : Own w g 8 X) (hx : RX X) (hg : ¬ Fown kb p bm bp bo bn g) (hz : RI z) : Calls Try.prog 26 #[.int .i64 t, .int .i64 z, .slice (some ⟨g, 0, none⟩) 8 c, .pointer (some ⟨bm, 0, none⟩), .pointer (some ⟨bp, 0, none⟩), .pointer (some ⟨bo, 0, none⟩), .pointer (some ⟨bn, 0, none⟩)] w fun e w' => FAllocAs kb p bm bp bo bn n g r k t z X w e w' := by
  obtain ⟨c0, _⟩ := one4 h.hm
  obtain ⟨m0, m1, m2⟩ := h.pi.cells
  have hfn : ∀ (args : Array Value) (w : World), (callFunc 28 args).run Try.prog w = .ok (.enter 28 args) w := fun _ _ => rfl
  have HI := hidden h
  have HO := hidden ho
  have HG := hidden hg
  have hgl := (goodG_len (reach_good h.pi.rep (listX X 8))).1
  have hv := good_valid h.pi.good
  have hl1 := hv.len
  have hl2 := hv.n2
  have hrn := h.rn
  obtain ⟨lg, hlg⟩ : ∃ lg, lg = lenG r (reachG s r (listX X 8)) := ⟨_, rfl⟩
  have HLG := hidden hlg
  have hlb : lg ≤ 32768 := by rw [hlg]; omega
  clear h ho hg hv hgl hl1 hlg
  go_enter Try.func26, Try.ntmps26
  go_upto_region 2 with (first
    | (go_at_call 16; refine (mArena (p := p) _ m0).mono ?_; rintro e w' ⟨rfl, hw'⟩; rw [hw']; clear hw' w')
    | (go_at_call 27; refine (reach_any _ HI.out.pi.ar HI.out.pi.rep (ws_own HO.out (fun i hi => (hx i hi).1) (fun i hi => (hx i hi).2)) (by omega)).mono ?_; rintro e w1 ⟨al1, c1, rfl, _, _, b1⟩; rw [← HLG.out]; have I1 := hidden (HI.out.frame (S := fun _ => False) (Only.of_below b1) (fun _ _ => id)); have O1 := hidden (HO.out.frame (S := fun _ => False) (Only.of_below b1) id); have B1 := hidden b1; obtain ⟨d0, _⟩ := one4 I1.out.hp; clear b1))
  go_wp2_with fail
  refine (mAlloc_does _ I1.out.pi O1.out hx).mono ?_
  rintro e w2 ⟨E, W, X', a', now, rfl, hal, ⟨s2, i2⟩, o2, _, hW, hh⟩
  have I2 := hidden (I1.out.moved i2 o2 (al_n I1.out.pi.good hal))
  have HAL := hidden hal
  have ON2 : Hid (Only (Fown kb p bm bp bo bn) w w2) := (Only.of_below B1.out).trans (o2.mono (fun q _ hq => Or.inl hq))
  have HW := hidden hW
  have HHH : Hid (E = 0 → HeldAs (Fown kb p bm bp bo bn) w.heap.size g w2 X' now) := fun e => held_more (hh e) B1.out.size (fun q hq => by
    by_cases hP : Pown kb p q
    · exact Or.inl hP
    · exact Or.inr ⟨HI.out.lt q hq, fun e => HG.out (e ▸ hq)⟩)
  obtain ⟨e0, e1⟩ := one4 I2.out.ho
  obtain ⟨f0, f1⟩ := one4 I2.out.hn
  have HIF : Hid (0 ≤ z → z ≤ 4096 → (E = 0 ∨ E = 10) → (E == 10) = decide ((n : Int) < (lg : Int) + z + 1)) := fun h1 h2 h3 => by
    have := full_iff I1.out.pi.good hal h1 h2 h3
    rw [I1.out.rn, ← HLG.out] at this
    exact this
  clear i2 o2 hal hW hh m0 m1 m2 c0 d0
  by_cases cz : 0 ≤ z ∧ z ≤ 4096 ∧ (E = 0 ∨ E = 10)
  · obtain ⟨z0, z1, hE⟩ := cz
    have hI := HIF.out z0 z1 hE
    have w1 := wrapId ((lg : Int) + z) (by omega) (by omega)
    have w2' := wrapId ((lg : Int) + z + 1) (by omega) (by omega)
    clear HIF
    rcases hE with rfl | rfl
    · have hd : decide ((n : Int) < (lg : Int) + z + 1) = false := by rw [← hI]; rfl
      clear hI
      go_wp2_with fail
      go_ret3
      exact ⟨0, W, X', a', now, rfl, HAL.out, ⟨s2, I2.out.write⟩, ON2.out.setCell (a := ⟨bo, 0, none⟩) (Or.inr fown_bo) _, HW.out, fun e => held_write (HHH.out trivial) fown_bo⟩
    · have hd : decide ((n : Int) < (lg : Int) + z + 1) = true := by rw [← hI]; rfl
      have hd2 : (n : Int) < (lg : Int) + z + 1 := of_decide_eq_true hd
      clear hI
      go_wp2_with fail
      go_ret3
      exact ⟨10, W, X', a', now, rfl, HAL.out, ⟨s2, I2.out.write⟩, ON2.out.setCell (a := ⟨bo, 0, none⟩) (Or.inr fown_bo) _, HW.out, fun e => absurd e (by decide)⟩
  · have HEND : FAllocAs kb p bm bp bo bn n g r k t z X w (.returned (.tuple #[.int .u64 W, now, .int .i64 E])) w2 := ⟨E, W, X', a', now, rfl, HAL.out, ⟨s2, I2.out⟩, ON2.out, HW.out, HHH.out⟩
    have HE := hidden HEND
    clear HEND HIF
    by_cases z0 : 0 ≤ z
    · by_cases z1 : z ≤ 4096
      · have b0 : (E == 0) = false := beq_eq_false_iff_ne.2 (fun e => cz ⟨z0, z1, Or.inl e⟩)
        have b1 : (E == 10) = false := beq_eq_false_iff_ne.2 (fun e => cz ⟨z0, z1, Or.inr e⟩)
        clear cz
        go_wp2_with fail
        go_ret3
        exact HE.out
      · clear cz
        go_wp2_with fail
        go_ret3
        exact HE.out
    · clear cz
      go_wp2_with fail
      go_ret3
      exact HE.out
end
/-- The program's Mem with its Alloc wrapped, as play is given it. -/
noncomputable def fullD (kb : Nat) (p : Pl) (bm bp bo bn n : Nat) : Doer (RS × Int) where
  va := ⟨26, #[], #[.pointer (some ⟨bm, 0, none⟩), .pointer (some ⟨bp, 0, none⟩), .pointer (some ⟨bo, 0, none⟩), .pointer (some ⟨bn, 0, none⟩)]⟩
  vf := (realD kb p).vf
  vg := (realD kb p).vg
  vs := (realD kb p).vs
  vz := (realD kb p).vz
  M := MM
  I := fun w a => ∃ s, FI kb p bm bp bo bn n w s a.1 a.2
  own := fun _ => Fown kb p bm bp bo bn
theorem full_does (kb : Nat) (p : Pl) (bm bp bo bn n : Nat) : Does (fullD kb p bm bp bo bn n) where
  ok := ⟨fun _ _ => rfl, fun _ _ => rfl, fun _ _ => rfl, fun _ _ => rfl, fun _ _ => rfl⟩
  frame := fun ⟨s, h⟩ k hs => ⟨s, h.frame k hs⟩
  lt := fun ⟨s, h⟩ => h.lt
  alloc := by
    rintro w a g c X t z ⟨s, hI⟩ ho hg hx ht hz
    refine (full1_any (t := t) (z := z) w hI ho hx hg hz).mono ?_
    rintro e w' ⟨E, W, X', a', now, h1, h2, h3, h4, h5, h6⟩
    exact ⟨E, W, X', a', now, h1, h2, h3, h4, fun q hq => Or.inl hq, h5, h6⟩
  force := by
    rintro w a g c X ⟨s, hI⟩ ho hg hx
    refine ((real_does kb p).force w a g c X ⟨s, hI.pi⟩ ho (fun hc => hg (Or.inl hc)) hx).mono ?_
    rintro e w' ⟨X', a', now, h1, h2, ⟨s', h3⟩, h4, h5, h6⟩
    refine ⟨X', a', now, h1, h2, ⟨s', hI.moved h3 h4 ?_⟩, h4.mono (fun q _ hq => Or.inl hq), fun q hq => Or.inl hq, held_more h6 (Nat.le_refl _) (fun q hq => ?_)⟩
    · have h7 : MM.fo a X X' a' := h2
      rw [h7.2]; rfl
    · by_cases hP : Pown kb p q
      · exact Or.inl hP
      · exact Or.inr ⟨hI.lt q hq, fun e => hg (e ▸ hq)⟩
  get := fun w a x k ⟨s, hI⟩ hx hk => (real_does kb p).get w a x k ⟨s, hI.pi⟩ hx hk
  getR := fun x k ⟨s, hI⟩ => (real_does kb p).getR x k ⟨s, hI.pi⟩
  set := by
    rintro w a x k v ⟨s, hI⟩ hx hk hv
    refine ((real_does kb p).set w a x k v ⟨s, hI.pi⟩ hx hk hv).mono ?_
    rintro e w' ⟨E, a', h1, h2, ⟨s', h3⟩, h4, h5⟩
    refine ⟨E, a', h1, h2, ⟨s', hI.moved h3 h4 ?_⟩, h4.mono (fun q _ hq => Or.inl hq), fun q hq => Or.inl hq⟩
    have h7 : MM.se a x k v E a' := h2
    rw [h7.2]; exact set_n _ _ _ _
  size := fun w a x ⟨s, hI⟩ hx => (real_does kb p).size w a x ⟨s, hI.pi⟩ hx
  sizeR := fun x ⟨s, hI⟩ => (real_does kb p).sizeR x ⟨s, hI.pi⟩
theorem one_set {w : World} {b : Nat} {x v : Value} {t : TypeId} (h : w.heap[b]? = some (.cells #[x] t (0, 0))) : (w.setCell ⟨b, 0, none⟩ v).heap[b]? = some (.cells #[v] t (0, 0)) := by
  simp [World.setCell, Array.getElem?_modify, h]
/-- A variable that is made, with what was put into it. -/
theorem var_new (w : World) (v : Value) (t : TypeId) : (w.alloc (.cells #[v] t)).heap[w.heap.size]? = some (.cells #[v] t (0, 0)) ∧ Below w.heap.size w (w.alloc (.cells #[v] t)) :=
  ⟨blk_alloc_new _ _, (Below.refl _ _).alloc (Nat.le_refl _) _⟩
/-- Three variables more. -/
theorem three_vars (w : World) (D : Array Value) (tD : TypeId) (x y : Value) (tx ty : TypeId) : (((w.alloc (.cells D tD)).alloc (.cells #[x] tx)).alloc (.cells #[y] ty)).heap[w.heap.size]? = some (.cells D tD (0, 0)) ∧ (((w.alloc (.cells D tD)).alloc (.cells #[x] tx)).alloc (.cells #[y] ty)).heap[w.heap.size + 1]? = some (.cells #[x] tx (0, 0)) ∧ (((w.alloc (.cells D tD)).alloc (.cells #[x] tx)).alloc (.cells #[y] ty)).heap[w.heap.size + 1 + 1]? = some (.cells #[y] ty (0, 0)) ∧ Below w.heap.size w (((w.alloc (.cells D tD)).alloc (.cells #[x] tx)).alloc (.cells #[y] ty)) := by
  refine ⟨?_, ?_, ?_, (((Below.refl _ _).alloc (Nat.le_refl _) _).alloc (by rw [nblk_alloc]; omega) _).alloc (by rw [nblk_alloc, nblk_alloc]; omega) _⟩
  · rw [blk_alloc_lt _ _ _ (by rw [nblk_alloc, nblk_alloc]; omega), blk_alloc_lt _ _ _ (by rw [nblk_alloc]; omega)]; exact blk_alloc_new _ _
  · rw [blk_alloc_lt _ _ _ (by rw [nblk_alloc, nblk_alloc]; omega)]
    have := blk_alloc_new (w.alloc (.cells D tD)) (.cells #[x] tx)
    rw [nblk_alloc] at this; exact this
  · have := blk_alloc_new ((w.alloc (.cells D tD)).alloc (.cells #[x] tx)) (.cells #[y] ty)
    rw [nblk_alloc, nblk_alloc] at this; exact this
set_option maxRecDepth 100000 in
theorem full4_no (n : Int) {al : Option Addr} {len cap : Nat} (w : World) (h : n < 2 ∨ 32768 < n) : Calls Try.prog 5 #[.int .i64 n, .slice al len cap] w fun e w' => e = .returned (.bool true) ∧ Below w.heap.size w w' := by
  have hb0 : Below w.heap.size w (w.alloc (.cells #[.int .i64 n] 3)) := (Below.refl _ _).alloc (Nat.le_refl _) _
  have hn0 : (w.alloc (.cells #[.int .i64 n] 3)).heap[w.heap.size]? = some (.cells #[.int .i64 n] 3 (0, 0)) := blk_alloc_new _ _
  have HB0 := hidden hb0
  have HN0 := hidden hn0
  clear hb0 hn0
  go_enter Try.func5, Try.ntmps5
  go_wp2_with fail
  generalize w.alloc (.cells #[.int .i64 n] 3) = w0 at *
  refine (awake4_any _).mono ?_
  rintro e w1 ⟨rfl, b1⟩
  have hn1 := (b1.block _ (lt_of_some HN0.out)).trans HN0.out
  obtain ⟨c0, _⟩ := one4 hn1
  have HN1 := hidden hn1
  have B1 := hidden (HB0.out.trans (b1.mono HB0.out.size))
  clear b1 hn1
  go_upto_region 4 with (go_at_call 8; refine (mNew_no n _ h).mono ?_; rintro e w2 ⟨rfl, hw2⟩; rw [hw2]; clear hw2 w2)
  obtain ⟨v1, v2⟩ := var_new w1 (.pointer none) 24
  obtain ⟨d0, _⟩ := one4 v1
  have hn2 := (v2.block _ (lt_of_some HN1.out)).trans HN1.out
  obtain ⟨d1, _⟩ := one4 hn2
  have B2 := hidden (B1.out.trans (v2.mono B1.out.size))
  clear v1 v2 hn2 c0
  generalize w1.alloc (.cells #[.pointer none] 24) = w2 at *
  by_cases c1 : n < 2
  · go_wp2_with fail
    all_goals go_ret
    all_goals exact ⟨rfl, B2.out⟩
  · have c2 : 32768 < n := by omega
    go_wp2_with fail
    all_goals go_ret
    all_goals exact ⟨rfl, B2.out⟩
set_option maxRecDepth 100000 in
theorem full4_yes (n : Nat) {al : Option Addr} {len cap : Nat} {T : Nat → St4} (w : World) (h1 : 2 ≤ n) (h2 : n ≤ 32768) (hT : SS4 w al len cap T) (hlen : len ≤ maxLen) : Calls Try.prog 5 #[.int .i64 n, .slice al len cap] w fun e w' => e = .returned (.bool true) ∧ Below w.heap.size w w' := by
  have HT := hidden hT
  have hb0 : Below w.heap.size w (w.alloc (.cells #[.int .i64 n] 3)) := (Below.refl _ _).alloc (Nat.le_refl _) _
  have hn0 : (w.alloc (.cells #[.int .i64 n] 3)).heap[w.heap.size]? = some (.cells #[.int .i64 n] 3 (0, 0)) := blk_alloc_new _ _
  have HB0 := hidden hb0
  have HN0 := hidden hn0
  clear hb0 hn0 hT
  go_enter Try.func5, Try.ntmps5
  go_wp2_with fail
  generalize w.alloc (.cells #[.int .i64 n] 3) = w0 at *
  refine (awake4_any _).mono ?_
  rintro e w1 ⟨rfl, b1⟩
  have hn1 := (b1.block _ (lt_of_some HN0.out)).trans HN0.out
  obtain ⟨c0, _⟩ := one4 hn1
  have HN1 := hidden hn1
  have B1 := hidden (HB0.out.trans (b1.mono HB0.out.size))
  clear b1 hn1
  go_wp2_with fail
  refine (mNew_yes n _ h1 h2).mono ?_
  rintro e w2 ⟨kb, p, rfl, i2, b2, l2⟩
  have LP : Hid (∀ q, Pown kb p q → w.heap.size ≤ q) := fun q hq => Nat.le_trans B1.out.size (l2 q hq)
  have NP : Hid (¬ Pown kb p w.heap.size) := fun hc => by
    have h1 := l2 _ hc
    have h2 := lt_of_some HN1.out
    omega
  have B2 := hidden (B1.out.trans (b2.mono B1.out.size))
  have HN2 := hidden ((b2.block _ (lt_of_some HN1.out)).trans HN1.out)
  have I2 := hidden i2
  clear i2 b2 l2 HN1 B1 c0
  go_upto_region 4 with fail
  obtain ⟨v1, v2⟩ := var_new w2 (.pointer (some ⟨kb, 0, none⟩)) 24
  obtain ⟨d0, _⟩ := one4 v1
  have hn2 := (v2.block _ (lt_of_some HN2.out)).trans HN2.out
  have HN3 := hidden hn2
  have B3 := hidden (B2.out.trans (v2.mono B2.out.size))
  have I3 := hidden (I2.out.below v2 rfl)
  have HM3 := hidden v1
  have NM : Hid (¬ Pown kb p w2.heap.size) := fun hc => absurd (I2.out.lt _ hc) (Nat.lt_irrefl _)
  have HMW : Hid (w.heap.size ≤ w2.heap.size) := B2.out.size
  clear v1 v2 hn2 B2 HN2
  generalize w2.alloc (.cells #[.pointer (some ⟨kb, 0, none⟩)] 24) = w3 at *
  obtain ⟨k0, k1, k2⟩ := I3.out.cells
  have HKL := hidden (lt_of_some I3.out.mem)
  go_wp2_with fail
  refine (real_any _ k0 HKL.out).mono ?_
  rintro e w4 ⟨rfl, b4⟩
  have B4 := hidden (B3.out.trans (b4.mono B3.out.size))
  have I4 := hidden (I3.out.below b4 rfl)
  have HM4 := hidden ((b4.block _ (lt_of_some HM3.out)).trans HM3.out)
  have HN4 := hidden ((b4.block _ (lt_of_some HN3.out)).trans HN3.out)
  clear b4 k0 k1 k2 HKL d0 I3 B3 HM3 HN3
  unfold Doer.agg
  go_upto_region 10 with fail
  obtain ⟨v1, v2, v3, v4⟩ := three_vars w4 #[.func (.func 26) #[] #[.pointer (some ⟨w2.heap.size, 0, none⟩), .pointer (some ⟨w4.heap.size + 1 + 1, 0, none⟩), .pointer (some ⟨w4.heap.size + 1, 0, none⟩), .pointer (some ⟨w.heap.size, 0, none⟩)], .func (.func (realD kb p).vf.fn) (realD kb p).vf.first (realD kb p).vf.cap, .func (.func (realD kb p).vg.fn) (realD kb p).vg.first (realD kb p).vg.cap, .func (.func (realD kb p).vs.fn) (realD kb p).vs.first (realD kb p).vs.cap, .func (.func (realD kb p).vz.fn) (realD kb p).vz.first (realD kb p).vz.cap] 38 (.bool true) (.func (.func (realD kb p).va.fn) (realD kb p).va.first (realD kb p).va.cap) 4 32
  obtain ⟨⟨q0, q1, q2, q3, q4⟩, q5⟩ := cells5 v1
  have hlt := I4.out.lt
  have NO : Hid (¬ Pown kb p (w4.heap.size + 1)) := fun hc => by have := hlt _ hc; omega
  have NQ : Hid (¬ Pown kb p (w4.heap.size + 1 + 1)) := fun hc => by have := hlt _ hc; omega
  have HF : Hid (FI kb p w2.heap.size (w4.heap.size + 1 + 1) (w4.heap.size + 1) w.heap.size n (((w4.alloc (.cells #[.func (.func 26) #[] #[.pointer (some ⟨w2.heap.size, 0, none⟩), .pointer (some ⟨w4.heap.size + 1 + 1, 0, none⟩), .pointer (some ⟨w4.heap.size + 1, 0, none⟩), .pointer (some ⟨w.heap.size, 0, none⟩)], .func (.func (realD kb p).vf.fn) (realD kb p).vf.first (realD kb p).vf.cap, .func (.func (realD kb p).vg.fn) (realD kb p).vg.first (realD kb p).vg.cap, .func (.func (realD kb p).vs.fn) (realD kb p).vs.first (realD kb p).vs.cap, .func (.func (realD kb p).vz.fn) (realD kb p).vz.first (realD kb p).vz.cap] 38)).alloc (.cells #[.bool true] 4)).alloc (.cells #[.func (.func (realD kb p).va.fn) (realD kb p).va.first (realD kb p).va.cap] 32)) (St.new n) ⟨n, 0, []⟩ 0) :=
    ⟨I4.out.below v4 rfl, (v4.block _ (lt_of_some HM4.out)).trans HM4.out, v3, v2, (v4.block _ (lt_of_some HN4.out)).trans HN4.out, rfl, NM.out, NQ.out, NO.out, NP.out⟩
  have B5 := hidden (B4.out.trans (v4.mono B4.out.size))
  have HLO : Hid (∀ x, al = some x → 0 < len → x.block < w.heap.size) := ss4_lt HT.out
  have z2 := B4.out.size
  have hm4 := lt_of_some HM4.out
  have HM0 : Hid (w.heap.size ≤ w2.heap.size) := HMW.out
  clear v1 v2 v3 v4 hlt
  generalize ((w4.alloc (.cells #[.func (.func 26) #[] #[.pointer (some ⟨w2.heap.size, 0, none⟩), .pointer (some ⟨w4.heap.size + 1 + 1, 0, none⟩), .pointer (some ⟨w4.heap.size + 1, 0, none⟩), .pointer (some ⟨w.heap.size, 0, none⟩)], .func (.func (realD kb p).vf.fn) (realD kb p).vf.first (realD kb p).vf.cap, .func (.func (realD kb p).vg.fn) (realD kb p).vg.first (realD kb p).vg.cap, .func (.func (realD kb p).vs.fn) (realD kb p).vs.first (realD kb p).vs.cap, .func (.func (realD kb p).vz.fn) (realD kb p).vz.first (realD kb p).vz.cap] 38)).alloc (.cells #[.bool true] 4)).alloc (.cells #[.func (.func (realD kb p).va.fn) (realD kb p).va.first (realD kb p).va.cap] 32) = w5 at *
  go_wp2_with fail
  refine (play_any (full_does kb p w2.heap.size (w4.heap.size + 1 + 1) (w4.heap.size + 1) w.heap.size n) false _ (⟨n, 0, []⟩, 0) ⟨_, HF.out⟩ (HT.out.frame (S := fun _ => False) ((Only.of_below B5.out).mono (fun _ _ h => h)) (fun _ _ _ => id)) (fun x e hl => ⟨fun hc => ?_, Nat.lt_of_lt_of_le (HLO.out x e hl) B5.out.size⟩) hlen).mono ?_
  · have h1 := HLO.out x e hl
    have h2 := HM0.out
    rcases hc with e | e | e | e | e
    · have := LP.out _ e
      omega
    all_goals omega
  rintro e w6 ⟨g6, c6, ge6, ce6, a6, X6, E6, rfl, pr6, pb6⟩
  obtain ⟨s6, f6⟩ : ∃ s, FI kb p w2.heap.size (w4.heap.size + 1 + 1) (w4.heap.size + 1) w.heap.size n w6 s a6.1 a6.2 := pb6.i
  obtain ⟨t0, t1⟩ := one4 f6.ho
  have B6 : Hid (Below w.heap.size w w6) := B5.out.trans (pb6.on.below B5.out.size (fun q hq hs => by
    have h2 := HM0.out
    rcases hs with e | e | e | e | e
    · have := LP.out _ e
      omega
    all_goals omega))
  clear pr6 pb6 f6 q0 q1 q2 q3 q4 q5
  go_wp2_with fail
  all_goals go_ret
  all_goals exact ⟨rfl, B6.out⟩
end Go.Proofs.Ytjnlfnecmiklhaa
