/-
  Layer 3's statements: awake returns true. Condition: none but what Collect and Reach tell.
-/
import Derived.Test.YtkgocnmeedkieaaL3Lay
import Derived.Test.YtkgocnmeedkieaaC3Coll
import Derived.Test.YtkgocnmeedkieaaL3Unique
namespace Go.Proofs.Ytkgocnmeedkieaa
open Go.ChangeShapes Go.WideShapes Go.ChangeAt Go.RowKit Go.Deep
set_option linter.unusedVariables false
set_option maxHeartbeats 2000000

/-- The three blocks that awake lays. -/
def wakeI (g : Nat) (i : Nat) : BI := if i = 0 then ⟨1, some ⟨g, 0, none⟩, 2, 2, fun j => if j = 0 then 1 else 0⟩ else if i = 1 then ⟨2, some ⟨g + 1, 0, none⟩, 1, 1, fun _ => 2097167⟩ else ⟨0, none, 0, 0, fun _ => 0⟩
def wakeR : RS := ⟨20, 0, [⟨1, 1, [8, 2]⟩, ⟨4, 2, [2097167]⟩, ⟨6, 0, []⟩]⟩
def wakeS (g : Nat) : St := layB 20 3 (wakeI g) 3
theorem wake_rep0 (g : Nat) : Rep (layA 20 (wakeI g) 3) ⟨20, 0, [⟨1, 1, [1, 1]⟩, ⟨4, 2, [1]⟩, ⟨6, 0, []⟩]⟩ :=
  rep_after (rep_after (rep_after (rep_new 20) (by decide) 1 2) (by decide) 2 1) (by decide) 0 0
def wakeS1 (g : Nat) : St := (layA 20 (wakeI g) 3).put 2 (0 : Nat) 8
def wakeS2 (g : Nat) : St := (wakeS1 g).put 2 (1 : Nat) 2
theorem wake_s (g : Nat) : wakeS g = (wakeS2 g).put 8 (0 : Nat) 2097167 := by kernel_rfl
theorem wake_rep1 (g : Nat) : Rep (wakeS1 g) ⟨20, 0, [⟨1, 1, [8, 1]⟩, ⟨4, 2, [1]⟩, ⟨6, 0, []⟩]⟩ :=
  (rep_put (x := 2) (v := 8) (i := 0) (k := 0) (b := ⟨1, 1, [1, 1]⟩) (wake_rep0 g) rfl (by kernel_rfl) (by decide)).2
theorem wake_rep2 (g : Nat) : Rep (wakeS2 g) ⟨20, 0, [⟨1, 1, [8, 2]⟩, ⟨4, 2, [1]⟩, ⟨6, 0, []⟩]⟩ :=
  (rep_put (x := 2) (v := 2) (i := 1) (k := 0) (b := ⟨1, 1, [8, 1]⟩) (wake_rep1 g) rfl (by kernel_rfl) (by decide)).2
theorem wake_rep (g : Nat) : Rep (wakeS g) wakeR := by
  rw [wake_s]
  exact (rep_put (x := 8) (v := 2097167) (i := 0) (k := 1) (b := ⟨4, 2, [1]⟩) (wake_rep2 g) rfl (by kernel_rfl) (by decide)).2
theorem wake_reach (g : Nat) : reachG (wakeS g) wakeR [2] = [0, 1] := by kernel_rfl
theorem wake_reach3 (g : Nat) : reachG (wakeS g) wakeR [3, 8, 2] = [1, 0] := by kernel_rfl
theorem wake_coll (g : Nat) : collW (wakeS g) wakeR [3, 8, 2] 3 = 3 ∧ collW (wakeS g) wakeR [3, 8, 2] 8 = 42 ∧ collW (wakeS g) wakeR [3, 8, 2] 2 = 46 := by
  refine ⟨?_, ?_, ?_⟩ <;> kernel_rfl
theorem wake_in {w : World} (g : Nat) (hg : g = w.heap.size) (w' : World) (h0 : w'.heap[g]? = some (.cells #[.int .u64 1, .int .u64 0] 49 (0, 0))) (h1 : w'.heap[g + 1]? = some (.cells #[.int .u64 2097167] 49 (0, 0)))
    (h2 : w'.heap[g + 2]? = some (.cells #[.int .i64 1, .slice (some ⟨g, 0, none⟩) 2 2, .int .i64 2, .slice (some ⟨g + 1, 0, none⟩) 1 1, .int .i64 0, .slice none 0 0] 58 (0, 0))) :
    BlocksIn w' w'.heap.size (some ⟨g + 2, 0, none⟩) 3 (wakeI g) := by
  have l0 := lt_of_some h0
  have l1 := lt_of_some h1
  have l2 := lt_of_some h2
  intro i hi
  refine ⟨⟨g + 2, 0, none⟩, rfl, ?_, ?_, ?_, ?_, ?_, ?_⟩
  · rw [add_block]; exact l2
  · rcases (show i = 0 ∨ i = 1 ∨ i = 2 by omega) with rfl | rfl | rfl <;> simp [World.cell?, Addr.add, h2, wakeI]
  · rcases (show i = 0 ∨ i = 1 ∨ i = 2 by omega) with rfl | rfl | rfl <;> simp [World.cell?, Addr.add, h2, wakeI]
  · rcases (show i = 0 ∨ i = 1 ∨ i = 2 by omega) with rfl | rfl | rfl
    · refine ⟨fun h => absurd h (by simp [wakeI]), fun j hj => ⟨_, rfl, ?_⟩, fun j hj => ?_, fun j hj => ?_⟩
      · have hj' : j < 2 := hj
        rcases (show j = 0 ∨ j = 1 by omega) with rfl | rfl <;> simp [World.cell?, Addr.add, h0, wakeI]
      · show 0 ≤ (if j = 0 then (1 : Int) else 0); split <;> omega
      · show (if j = 0 then (1 : Int) else 0) ≤ _; split <;> omega
    · refine ⟨fun h => absurd h (by simp [wakeI]), fun j hj => ⟨_, rfl, ?_⟩, fun j hj => ?_, fun j hj => ?_⟩
      · have hj' : j < 1 := hj
        rcases (show j = 0 by omega) with rfl
        simp [World.cell?, Addr.add, h1, wakeI]
      · show (0 : Int) ≤ 2097167; omega
      · show (2097167 : Int) ≤ _; omega
    · exact ⟨fun _ => ⟨rfl, rfl⟩, fun j hj => absurd hj (Nat.not_lt_zero _), fun j hj => absurd hj (Nat.not_lt_zero _), fun j hj => absurd hj (Nat.not_lt_zero _)⟩
  · rcases (show i = 0 ∨ i = 1 ∨ i = 2 by omega) with rfl | rfl | rfl
    · intro _ ad e; have : ad = ⟨g, 0, none⟩ := by simpa [wakeI] using e.symm
      subst this; exact l0
    · intro _ ad e; have : ad = ⟨g + 1, 0, none⟩ := by simpa [wakeI] using e.symm
      subst this; exact l1
    · intro _ ad e; simp [wakeI] at e
  · rcases (show i = 0 ∨ i = 1 ∨ i = 2 by omega) with rfl | rfl | rfl <;> (unfold maxLen; show _ ≤ _; simp [wakeI])
theorem Below.alloc3 (w : World) (o1 o2 o3 : Obj) : Below w.heap.size w (((w.alloc o1).alloc o2).alloc o3) := (((Below.refl _ _).alloc (Nat.le_refl _) o1).alloc (by rw [nblk_alloc]; omega) o2).alloc (by rw [nblk_alloc, nblk_alloc]; omega) o3
theorem ws_lit {w : World} {g m : Nat} {cur : Array Value} {X : Nat → Int} (c : Nat) (h : w.heap[g]? = some (.cells cur 49 (0, 0))) (hc : ∀ i, i < m → cur[i]? = some (.int .u64 (X i))) (lo : ∀ i, i < m → 0 ≤ X i) (hi : ∀ i, i < m → X i ≤ 18446744073709551615) : WS w (some ⟨g, 0, none⟩) m c X :=
  ws_own ⟨cur, h, hc⟩ lo hi
def lit2 (a b : Int) (i : Nat) : Int := if i = 0 then a else b
def lit3 (a b c : Int) (i : Nat) : Int := if i = 0 then a else if i = 1 then b else c
theorem wake_top (g : Nat) : (collR (wakeS g) wakeR (listX (lit3 3 8 2) 3)).n * (collR (wakeS g) wakeR (listX (lit3 3 8 2) 3)).which = 20 ∧ lenB (collR (wakeS g) wakeR (listX (lit3 3 8 2) 3)).L = 5 := by
  refine ⟨?_, ?_⟩ <;> kernel_rfl
theorem reach_is {p : Pl} {s : St} {r : RS} {al : Option Addr} {m c : Nat} {X : Nat → Int} (G : List Nat) (N M : Nat) (w : World) (h : Ar w p s) (hr : Rep s r) (hx : WS w al m c X) (hm : m ≤ 1000) (hG : reachG s r (listX X m) = G) (hN : lenG r G = N) (hM : G.length = M) :
    Calls Try.prog 16 #[.pointer (some ⟨p.a, 0, none⟩), .slice al m c] w fun e w' => ∃ al' c', e = .returned (.tuple #[.int .i64 N, .slice al' M c']) ∧
      WS w' al' M c' (fun i => 2 * ((blkAt r (G.getD i 0)).ad : Int)) ∧ (∀ ad, al' = some ad → w.heap.size ≤ ad.block) ∧ Below w.heap.size w w' := by
  subst hG; subst hN; subst hM; exact reach_any w h hr hx hm
theorem ar_below {w w' : World} {p : Pl} {s : St} (h : Ar w p s) (hb : Below w.heap.size w w') : Ar w' p s := h.frame (S := fun _ => False) (Only.of_below hb) id id id id
theorem base_eq {p : Pl} {s : St} (v : Int) (w : World) (h : Ar w p s) (hv : (s.base : Int) = v) :
    Calls Try.prog 21 #[.pointer (some ⟨p.a, 0, none⟩)] w fun e w' => e = .returned (.int .i64 v) ∧ w' = w := by
  subst hv; exact base_any w h
def wakeW (w : World) : World := (((w.alloc (.cells #[.int .u64 1, .int .u64 0] 49)).alloc (.cells #[.int .u64 2097167] 49)).alloc (.cells #[.int .i64 1, .slice (some ⟨w.heap.size, 0, none⟩) 2 2, .int .i64 2, .slice (some ⟨w.heap.size + 1, 0, none⟩) 1 1, .int .i64 0, .slice none 0 0] 58))
theorem wakeW_in (w : World) : BlocksIn (wakeW w) (wakeW w).heap.size (some ⟨w.heap.size + 1 + 1, 0, none⟩) 3 (wakeI w.heap.size) ∧ Below w.heap.size w (wakeW w) := by
  refine ⟨wake_in (w := w) w.heap.size rfl _ ?_ ?_ ?_, Below.alloc3 _ _ _ _⟩
  · unfold wakeW
    rw [blk_alloc_lt _ _ _ (by rw [nblk_alloc, nblk_alloc]; omega), blk_alloc_lt _ _ _ (by rw [nblk_alloc]; omega)]; exact blk_alloc_new _ _
  · unfold wakeW
    rw [blk_alloc_lt _ _ _ (by rw [nblk_alloc, nblk_alloc]; omega)]
    have := blk_alloc_new (w.alloc (.cells #[.int .u64 1, .int .u64 0] 49)) (.cells #[.int .u64 2097167] 49)
    rw [nblk_alloc] at this; exact this
  · have := blk_alloc_new ((w.alloc (.cells #[.int .u64 1, .int .u64 0] 49)).alloc (.cells #[.int .u64 2097167] 49)) (.cells #[.int .i64 1, .slice (some ⟨w.heap.size, 0, none⟩) 2 2, .int .i64 2, .slice (some ⟨w.heap.size + 1, 0, none⟩) 1 1, .int .i64 0, .slice none 0 0] 58)
    rw [nblk_alloc, nblk_alloc] at this; exact this
theorem ws_lit1 (w : World) (v : Int) (h0 : 0 ≤ v) (h1 : v ≤ 18446744073709551615) : WS (w.alloc (.cells #[.int .u64 v] 49)) (some ⟨w.heap.size, 0, none⟩) 1 1 (fun _ => v) := by
  refine ws_lit 1 (blk_alloc_new _ _) (fun i hi => ?_) (fun _ _ => h0) (fun _ _ => h1)
  have : i = 0 := by omega
  subst this; rfl
theorem ws_lit2 (w : World) (u v : Int) (h0 : 0 ≤ u) (h1 : u ≤ 18446744073709551615) (k0 : 0 ≤ v) (k1 : v ≤ 18446744073709551615) : WS (w.alloc (.cells #[.int .u64 u, .int .u64 v] 49)) (some ⟨w.heap.size, 0, none⟩) 2 2 (lit2 u v) := by
  refine ws_lit 2 (blk_alloc_new _ _) (fun i hi => ?_) (fun i _ => ?_) (fun i _ => ?_)
  · rcases (show i = 0 ∨ i = 1 by omega) with rfl | rfl <;> rfl
  · unfold lit2; split <;> omega
  · unfold lit2; split <;> omega
theorem ws_lit3 (w : World) (u v x : Int) (h0 : 0 ≤ u) (h1 : u ≤ 18446744073709551615) (k0 : 0 ≤ v) (k1 : v ≤ 18446744073709551615) (l0 : 0 ≤ x) (l1 : x ≤ 18446744073709551615) : WS (w.alloc (.cells #[.int .u64 u, .int .u64 v, .int .u64 x] 49)) (some ⟨w.heap.size, 0, none⟩) 3 3 (lit3 u v x) := by
  refine ws_lit 3 (blk_alloc_new _ _) (fun i hi => ?_) (fun i _ => ?_) (fun i _ => ?_)
  · rcases (show i = 0 ∨ i = 1 ∨ i = 2 by omega) with rfl | rfl | rfl <;> rfl
  · unfold lit3; split; omega; split <;> omega
  · unfold lit3; split; omega; split <;> omega
theorem ws_fresh {w w' : World} {al : Option Addr} {m c : Nat} {X : Nat → Int} {S : Nat → Prop} (h : WS w al m c X) (k : Only S w w') {B : Nat} (hf : ∀ ad, al = some ad → B ≤ ad.block) (hs : ∀ q, B ≤ q → q < w.heap.size → ¬ S q) : WS w' al m c X :=
  h.frame k (fun ad e hl => hs _ (hf ad e) hl)
theorem ws_drew {w w' : World} {al : Option Addr} {m c k : Nat} {X : Nat → Int} (e : w' = w.drewN k) (h : WS w al m c X) : WS w' al m c X := by rw [e]; exact h.drewN k
theorem wake_eq2 : ∀ i, i < 2 → (fun i => 2 * ((blkAt wakeR ([0, 1].getD i 0)).ad : Int)) i = lit2 2 8 i := by
  intro i hi
  rcases (show i = 0 ∨ i = 1 by omega) with rfl | rfl <;> rfl
theorem wake_eq3 (g : Nat) : ∀ i, i < 3 → (fun i => collW (wakeS g) wakeR (listX (lit3 3 8 2) 3) (lit3 3 8 2 i)) i = lit3 3 42 46 i := by
  intro i hi
  obtain ⟨e1, e2, e3⟩ := wake_coll g
  rcases (show i = 0 ∨ i = 1 ∨ i = 2 by omega) with rfl | rfl | rfl
  · exact e1
  · exact e2
  · exact e3
set_option maxRecDepth 100000 in
theorem awake3_any (w : World) : Calls Try.prog 9 #[] w fun e w' => e = .returned (.bool true) ∧ Below w.heap.size w w' := by
  go_enter Try.func9, Try.ntmps9
  go_wp2_with fail
  obtain ⟨hin, bA⟩ := wakeW_in w
  rw [show (((w.alloc (.cells #[.int .u64 1, .int .u64 0] 49)).alloc (.cells #[.int .u64 2097167] 49)).alloc (.cells #[.int .i64 1, .slice (some ⟨w.heap.size, 0, none⟩) 2 2, .int .i64 2, .slice (some ⟨w.heap.size + 1, 0, none⟩) 1 1, .int .i64 0, .slice none 0 0] 58)) = wakeW w from rfl]
  generalize wakeW w = w0 at hin bA ⊢
  refine (lay_yes 20 _ 3 3 (wakeI w.heap.size) _ (by omega) (by omega) (by unfold maxLen; omega) hin).mono ?_
  rintro e w1 ⟨p, rb, r, a, cap, V, rfl, h1, b1, j1, j2, j3, j4, j5⟩
  have hA : Ar w1 p (wakeS w.heap.size) := h1.ar
  have hR : Rep (wakeS w.heap.size) r := h1.bo.rep
  have hu : r = wakeR := rep_unique hR (wake_rep _) (by have := hA.t2; have := hA.b1; have := hA.n2; omega) (by have := hA.n1; omega)
  rw [hu] at hR
  have hB := bA.trans (b1.mono bA.size)
  have HR : Hid _ := hR
  have hs0 := bA.size
  have l2 : w.heap.size ≤ p.h := by omega
  have l3 : w.heap.size ≤ p.c := by omega
  have l4 : w.heap.size ≤ p.b := by omega
  have hpa := lt_of_some hA.ha
  have hph := lt_of_some hA.hh
  have hpc := hA.hc.lt
  have hpb := hA.hb.lt
  clear h1 hu hin b1 bA hR j1 j2 j3 j4 j5 hs0
  go_wp2_with fail
  refine (blocks_any 3 _ hA HR.out rfl).mono ?_
  rintro e w2 ⟨ba, bc, rfl, u1, u2, b2⟩
  have hA2 := ar_below hA b2
  have hB2 := hB.trans (b2.mono hB.size)
  have hz2 := b2.size
  clear u1 u2 hA hB b2
  go_wp2_with fail
  have hA3 := hA2.alloc (.cells #[.int .u64 2] 49)
  have hB3 := hB2.alloc hB2.size (.cells #[.int .u64 2] 49)
  have hw3 := ws_lit1 w2 2 (by omega) (by omega)
  have hz3 : w2.heap.size < (w2.alloc (.cells #[.int .u64 2] 49)).heap.size := by rw [nblk_alloc]; omega
  obtain ⟨g3, hg3⟩ : ∃ g3, g3 = w2.heap.size := ⟨_, rfl⟩
  rw [← hg3] at hw3 ⊢
  clear hg3
  generalize w2.alloc (.cells #[.int .u64 2] 49) = w3 at *
  refine (reach_is [0, 1] 5 2 _ hA3 HR.out hw3 (by omega) (wake_reach _) rfl rfl).mono ?_
  rintro e w4 ⟨al4, c4, rfl, ws4, f4, b4⟩
  have hA4 := ar_below hA3 b4
  have hB4 := hB3.trans (b4.mono hB3.size)
  have WS4 : Hid _ := ws4
  have F4 : Hid _ := f4
  have hz4 := b4.size
  clear hA2 hB2 hA3 hB3 hw3 b4 ws4 f4
  go_wp2_with fail
  have hA5 := hA4.alloc (.cells #[.int .u64 3, .int .u64 8, .int .u64 2] 49)
  have hB5 := hB4.alloc hB4.size (.cells #[.int .u64 3, .int .u64 8, .int .u64 2] 49)
  have hw5 := ws_lit3 w4 3 8 2 (by omega) (by omega) (by omega) (by omega) (by omega) (by omega)
  have hl5 : Hid (WS (w4.alloc (.cells #[.int .u64 3, .int .u64 8, .int .u64 2] 49)) al4 2 c4 (fun i => 2 * ((blkAt wakeR ([0, 1].getD i 0)).ad : Int))) := WS4.out.below ((Below.refl _ _).alloc (Nat.le_refl _) _)
  have hz5 : w4.heap.size < (w4.alloc (.cells #[.int .u64 3, .int .u64 8, .int .u64 2] 49)).heap.size := by rw [nblk_alloc]; omega
  obtain ⟨g5, hg5⟩ : ∃ g5, g5 = w4.heap.size := ⟨_, rfl⟩
  rw [← hg5] at hw5 ⊢
  clear hg5 WS4
  generalize w4.alloc (.cells #[.int .u64 3, .int .u64 8, .int .u64 2] 49) = w5 at *
  refine (collect_any _ hA5 HR.out hw5 (by omega)).mono ?_
  rintro e w6 ⟨al6, c6, s6, rfl, ws6, f6, hA6, hR6, o6⟩
  have hB6 := hB5.trans (o6.under hB5.size l2 l3 l4)
  have ws46 := hidden (ws_fresh hl5.out o6 F4.out (fun q hq _ hs => by unfold Pl.own at hs; omega))
  have WS6 : Hid _ := ws6
  have hb6 : (s6.base : Int) = 20 := by have := hR6.base; have := (wake_top w.heap.size).1; omega
  have ht6 : (s6.top : Int) = 25 := by have := hR6.top; have := (wake_top w.heap.size).2; omega
  have hz6 := hB6.size
  have F6 : Hid _ := f6
  clear hA4 hB4 hA5 hB5 hw5 hl5 ws6 f6 o6 hR6
  go_wp2_with fail
  have hA7 := hA6.alloc (.cells #[.int .u64 2, .int .u64 8] 49)
  have hB7 := hB6.alloc hB6.size (.cells #[.int .u64 2, .int .u64 8] 49)
  have hw7 := ws_lit2 w6 2 8 (by omega) (by omega) (by omega) (by omega)
  have ws47 := ws46.out.below ((Below.refl _ _).alloc (Nat.le_refl _) (.cells #[.int .u64 2, .int .u64 8] 49))
  have WS67 := hidden (WS6.out.below ((Below.refl _ _).alloc (Nat.le_refl _) (.cells #[.int .u64 2, .int .u64 8] 49)))
  generalize w6.alloc (.cells #[.int .u64 2, .int .u64 8] 49) = w7 at *
  refine (equal_yes _ ws47 hw7 (by unfold maxLen; omega) wake_eq2).mono ?_
  rintro e w8 ⟨rfl, k8, hw8⟩
  have hA8 : Ar w8 p s6 := by rw [hw8]; exact hA7.drewN k8
  have hB8 : Below w.heap.size w w8 := by rw [hw8]; exact below_drewN hB7 k8
  have WS68 := hidden (ws_drew hw8 WS67.out)
  clear hw8 hA6 hB6 hA7 hB7 hw7 ws47 WS67 ws46 WS6
  go_wp2_with fail
  have hA9 := hA8.alloc (.cells #[.int .u64 3, .int .u64 42, .int .u64 46] 49)
  have hB9 := hB8.alloc hB8.size (.cells #[.int .u64 3, .int .u64 42, .int .u64 46] 49)
  have hw9 := ws_lit3 w8 3 42 46 (by omega) (by omega) (by omega) (by omega) (by omega) (by omega)
  have ws69 := WS68.out.below ((Below.refl _ _).alloc (Nat.le_refl _) (.cells #[.int .u64 3, .int .u64 42, .int .u64 46] 49))
  generalize w8.alloc (.cells #[.int .u64 3, .int .u64 42, .int .u64 46] 49) = w9 at *
  refine (equal_yes _ ws69 hw9 (by unfold maxLen; omega) (wake_eq3 _)).mono ?_
  rintro e w10 ⟨rfl, k10, hw10⟩
  have hA10 : Ar w10 p s6 := by rw [hw10]; exact hA9.drewN k10
  have hB10 : Below w.heap.size w w10 := by rw [hw10]; exact below_drewN hB9 k10
  clear hw10 hA8 hB8 hA9 hB9 hw9 ws69 WS68
  go_wp2_with (first | (go_at_call 21; refine (base_eq 20 _ hA10 hb6).mono ?_; rintro e w' ⟨rfl, hw'⟩; rw [hw']; clear hw' w') | (go_at_call 22; refine (top_is 25 _ hA10 ht6).mono ?_; rintro e w' ⟨rfl, hw'⟩; rw [hw']; clear hw' w'))
  go_ret
  exact ⟨rfl, hB10⟩
end Go.Proofs.Ytkgocnmeedkieaa
