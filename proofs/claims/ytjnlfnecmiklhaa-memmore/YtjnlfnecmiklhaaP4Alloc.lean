/-
  Layer 4: what the program's Alloc tells and makes: what is there fits, or fits behind a collection, or there is no room. Condition: the Mem lies in memory, in one state with a list of blocks.
-/
import Derived.Test.YtjnlfnecmiklhaaP4Mem
namespace Go.Proofs.Ytjnlfnecmiklhaa
open Go.ChangeShapes Go.WideShapes Go.ChangeAt Go.RowKit Go.Deep
set_option linter.unusedVariables false
set_option maxHeartbeats 1000000
section
variable {kb : Nat} {p : Pl} {w w' : World} {s : St} {r : RS} {k : Int} {al : Option Addr} {m c : Nat} {X : Nat → Int} {t z : Int}
/-- A copy of a row of words. -/
def CloneAs (w : World) (al : Option Addr) (m : Nat) (X : Nat → Int) (e : Ending) (w' : World) : Prop := ∃ al' c', e = .returned (.slice al' m c') ∧ WS w' al' m c' X ∧ (∀ ad, al' = some ad → w.heap.size ≤ ad.block) ∧ (al ≠ none → ∃ g, al' = some ⟨g, 0, none⟩ ∧ Own w' g m X) ∧ Below w.heap.size w w'
theorem ws_alloc (h : WS w al m c X) (o : Obj) : WS (w.alloc o) al m c X := h.below ((Below.refl _ _).alloc (Nat.le_refl _) o)
theorem below_made {w w' : World} {o : Obj} (gr : (w.alloc o).grownBy w' (some w.heap.size)) : Below w.heap.size w w' := (only_grown gr).below (Nat.le_refl _) (fun k hk e => by omega)
set_option maxRecDepth 100000 in
theorem mClone (w : World) (hx : WS w al m c X) (hm : m ≤ 1000) : Calls Try.prog 52 #[.slice al m c] w fun e w' => CloneAs w al m X e w' := by
  have HX := hidden hx
  cases al with
  | none =>
    obtain ⟨rfl, rfl⟩ := hx.nil rfl
    clear hx
    have hq : ∀ w : World, Sem.run Try.prog (binOp BinOp.eql 28 (.slice none 0 0) (.slice none 0 0)) w = .ok (.bool true) w := fun _ => rfl
    go_enter Try.func52, Try.ntmps52
    go_wp2
    all_goals go_ret
    all_goals exact ⟨none, 0, rfl, HX.out, (fun ad e => by cases e), fun e => absurd rfl e, Below.refl _ _⟩
  | some ad =>
    clear hx
    have hq : ∀ w : World, Sem.run Try.prog (binOp BinOp.eql 28 (.slice (some ad) m c) (.slice none 0 0)) w = .ok (.bool false) w := fun _ => rfl
    go_enter Try.func52, Try.ntmps52
    go_wp2_with (at_builtin; refine wpList_append_words rfl (.tmp 5) (.tmp 6) rfl w.heap.size rfl (blk_alloc_new _ _) (some ad) m c rfl X (fun h => by cases h) (ws_alloc HX.out _).cell (by omega) ?_; intro g2 c2 w2 ho2 gr2 hg2; have O2 := hidden ho2; have B2 := hidden (below_made gr2); clear ho2 gr2)
    go_ret
    exact ⟨some ⟨g2, 0, none⟩, c2, rfl, ws_own O2.out HX.out.lo HX.out.hi, fun ad e => by cases e; exact hg2, fun _ => ⟨g2, rfl, O2.out⟩, B2.out⟩
set_option maxRecDepth 100000 in
theorem mFits (b : Bool) (w : World) (h : PI kb p w s r k) (hx : WS w al m c X) (hm : m ≤ 1000) (z0 : 0 ≤ z) (z1 : z ≤ 4096) (hb : decide ((lenG r (reachG s r (listX X m)) : Nat) + z + 1 ≤ (s.n : Int)) = b) : Calls Try.prog 54 #[.pointer (some ⟨kb, 0, none⟩), .slice al m c, .int .i64 z] w fun e w' => e = .returned (.bool b) ∧ Below w.heap.size w w' := by
  obtain ⟨q0, q1, q2⟩ := h.cells
  have hgl := (goodG_len (reach_good h.rep (listX X m))).1
  have htop := h.rep.top
  have ht2 := h.ar.t2
  have hn2 := h.ar.n2
  have hll : lenG r (reachG s r (listX X m)) ≤ 32768 := by omega
  have HI := hidden h
  have HX := hidden hx
  have HB := hidden hb
  obtain ⟨lg, hlg⟩ : ∃ lg, lg = lenG r (reachG s r (listX X m)) := ⟨_, rfl⟩
  rw [← hlg] at hll HB
  have HL := hidden hlg
  have e1 := wrapId ((lg : Int) + z) (by omega) (by omega)
  have e2 := wrapId ((lg : Int) + z + 1) (by omega) (by omega)
  clear h hx hb hgl htop ht2 hlg
  go_enter Try.func54, Try.ntmps54
  go_wp2_with (first
    | (go_at_call 27; refine (reach_any _ HI.out.ar HI.out.rep HX.out hm).mono ?_; rintro e w1 ⟨al1, c1, rfl, _, _, b1⟩; rw [← HL.out]; have I1 := hidden (HI.out.below b1 rfl); have B1 := hidden b1; obtain ⟨n0, n1, n2⟩ := I1.out.cells; clear b1)
    | (go_at_call 69; refine (half_any _ I1.out.ar).mono ?_; rintro e w2 ⟨rfl, hw2⟩; rw [hw2]; clear hw2 w2))
  all_goals go_ret
  all_goals exact ⟨congrArg (fun b => Ending.returned (.bool b)) HB.out, B1.out⟩
/-- What Alloc hands back, and how all lies then. -/
def PAllocAs (kb : Nat) (p : Pl) (al : Option Addr) (m : Nat) (E W : Int) (Y : Nat → Int) (s' : St) (r' : RS) (k' : Int) (w : World) (e : Ending) (w' : World) : Prop := ∃ now, e = .returned (.tuple #[.int .u64 W, now, .int .i64 E]) ∧ PI kb p w' s' r' k' ∧ Only (Pown kb p) w w' ∧ (E = 0 → ∃ al' c', now = .slice al' m c' ∧ WS w' al' m c' Y ∧ (∀ ad, al' = some ad → w.heap.size ≤ ad.block) ∧ (al ≠ none → ∃ g, al' = some ⟨g, 0, none⟩ ∧ Own w' g m Y))
theorem full_rng (g : s.allocE t z = 10) : 0 ≤ z ∧ z ≤ 4096 := by
  unfold St.allocE at g
  split at g
  · omega
  · split at g
    · omega
    · omega
theorem not_own (h : PI kb p w s r k) {q : Nat} (hq : w.heap.size ≤ q) : ¬ p.own q := fun hc => by
  have := h.lt q (Or.inr (Or.inr hc))
  omega
theorem own_sub : ∀ q, p.own q → Pown kb p q := fun q h => Or.inr (Or.inr h)
theorem only_below {S : Nat → Prop} (h : Below w.heap.size w w') : Only S w w' := Only.of_below h
theorem PI.laid (h : PI kb p w s r k) (ha : Ar w' p (s.alloc t z)) (o : Only p.own w w') : PI kb p w' (s.alloc t z) (r.after s t z) k := h.moved ha (rep_after h.rep h.ar.t1 t z) o
set_option maxRecDepth 100000 in
theorem mAlloc_yes (w : World) (h : PI kb p w s r k) (hx : WS w al m c X) (hm : m ≤ 1000) (g0 : s.allocE t z = 0) : Calls Try.prog 28 #[.pointer (some ⟨kb, 0, none⟩), .int .i64 t, .int .i64 z, .slice al m c] w fun e w' => PAllocAs kb p al m 0 (s.allocW t z) X (s.alloc t z) (r.after s t z) k w e w' := by
  obtain ⟨q0, q1, q2⟩ := h.cells
  have HI := hidden h
  have HX := hidden hx
  clear h hx
  go_enter Try.func28, Try.ntmps28
  go_wp2_with (first
    | (go_at_call 40; refine (mOrNone _).mono ?_; rintro e w' ⟨rfl, hw'⟩; rw [hw']; clear hw' w')
    | (go_at_call 52; refine (mClone _ HX.out hm).mono ?_; rintro e w1 ⟨al1, c1, rfl, x1, f1, o1, b1⟩; have X1 := hidden x1; have F1 := hidden f1; have O1 := hidden o1; have B1 := hidden b1; have I1 := hidden (HI.out.below b1 rfl); obtain ⟨n0, n1, n2⟩ := I1.out.cells; clear x1 f1 o1 b1)
    | (go_at_call 53; refine (alloc_any t z _ I1.out.ar).mono ?_; rintro e w2 ⟨rfl, a2, o2⟩; rw [g0]; have I2 := hidden (I1.out.laid a2 o2); have O2 := hidden o2; clear a2 o2))
  all_goals go_ret3
  all_goals
    refine ⟨_, rfl, I2.out, (only_below B1.out).trans (O2.out.mono (fun q _ hq => own_sub q hq)), fun _ => ⟨al1, c1, rfl, X1.out.frame O2.out (fun ad e _ hc => not_own HI.out (F1.out ad e) hc), F1.out, fun ha => ?_⟩⟩
    obtain ⟨g, rfl, og⟩ := O1.out ha
    exact ⟨g, rfl, og.frame O2.out (not_own HI.out (F1.out _ rfl))⟩
theorem PI.drewN (h : PI kb p w s r k) (n : Nat) : PI kb p (w.drewN n) s r k := h.frame (S := fun _ => False) ((Only.refl _ _).drewN n) (fun _ _ => id)
theorem only_drewN {S : Nat → Prop} (w : World) (n : Nat) : Only S w (w.drewN n) := (Only.refl _ _).drewN n
set_option maxRecDepth 100000 in
theorem mAlloc_err (w : World) (h : PI kb p w s r k) (hx : WS w al m c X) (hm : m ≤ 1000) (g0 : s.allocE t z ≠ 0) (g1 : s.allocE t z ≠ 10) : Calls Try.prog 28 #[.pointer (some ⟨kb, 0, none⟩), .int .i64 t, .int .i64 z, .slice al m c] w fun e w' => PAllocAs kb p al m (s.allocE t z) 0 X s r k w e w' := by
  obtain ⟨q0, q1, q2⟩ := h.cells
  have HI := hidden h
  have HX := hidden hx
  have HGS := hidden g0
  obtain ⟨E, hE⟩ : ∃ E, E = s.allocE t z := ⟨_, rfl⟩
  rw [← hE] at g0 g1 ⊢
  have HE := hidden hE
  have HG0 := hidden g0
  have b0 : (E != 0) = true := bne_iff_ne.2 g0
  have b1 : (E == 10) = false := beq_eq_false_iff_ne.2 g1
  clear h hx hE g0 g1
  go_enter Try.func28, Try.ntmps28
  go_wp2_with (first
    | (go_at_call 40; refine (mOrNone _).mono ?_; rintro e w' ⟨rfl, hw'⟩; rw [hw']; clear hw' w')
    | (go_at_call 52; refine (mClone _ HX.out hm).mono ?_; rintro e w1 ⟨al1, c1, rfl, x1, f1, o1, bb1⟩; have B1 := hidden bb1; have I1 := hidden (HI.out.below bb1 rfl); obtain ⟨n0, n1, n2⟩ := I1.out.cells; clear x1 f1 o1 bb1)
    | (go_at_call 53; refine (alloc_no t z _ I1.out.ar HGS.out).mono ?_; rintro e w2 ⟨rfl, m2, hw2⟩; rw [← HE.out]; have W2 := hidden hw2; clear hw2))
  all_goals go_ret3
  all_goals exact ⟨_, rfl, by rw [W2.out]; exact I1.out.drewN _, by rw [W2.out]; exact (only_below B1.out).trans (only_drewN _ _), fun e => absurd e HG0.out⟩
set_option maxRecDepth 100000 in
theorem mAlloc_full (w : World) (h : PI kb p w s r k) (hx : WS w al m c X) (hm : m ≤ 1000) (g : s.allocE t z = 10) (gf : (r.n : Int) < (lenG r (reachG s r (listX X m)) : Nat) + z + 1) : Calls Try.prog 28 #[.pointer (some ⟨kb, 0, none⟩), .int .i64 t, .int .i64 z, .slice al m c] w fun e w' => PAllocAs kb p al m 10 0 X s r k w e w' := by
  obtain ⟨q0, q1, q2⟩ := h.cells
  obtain ⟨z0, z1⟩ := full_rng g
  have hd : decide ((lenG r (reachG s r (listX X m)) : Nat) + z + 1 ≤ (s.n : Int)) = false := decide_eq_false (by rw [h.rep.n]; omega)
  have HI := hidden h
  have HX := hidden hx
  have HGS : Hid (s.allocE t z ≠ 0) := by show _ ≠ _; rw [g]; decide
  have HD := hidden hd
  clear h hx gf hd
  go_enter Try.func28, Try.ntmps28
  go_wp2_with (first
    | (go_at_call 40; refine (mOrNone _).mono ?_; rintro e w' ⟨rfl, hw'⟩; rw [hw']; clear hw' w')
    | (go_at_call 52; refine (mClone _ HX.out hm).mono ?_; rintro e w1 ⟨al1, c1, rfl, x1, f1, o1, bb1⟩; have B1 := hidden bb1; have X1 := hidden (HX.out.below bb1); have I1 := hidden (HI.out.below bb1 rfl); obtain ⟨n0, n1, n2⟩ := I1.out.cells; clear x1 f1 o1 bb1)
    | (go_at_call 53; refine (alloc_no t z _ I1.out.ar HGS.out).mono ?_; rintro e w2 ⟨rfl, m2, hw2⟩; rw [g]; have I2 : Hid (PI kb p w2 s r k) := (by rw [hw2]; exact I1.out.drewN _); have X2 : Hid (WS w2 al m c X) := (by rw [hw2]; exact X1.out.drewN _); have B2 : Hid (Below w.heap.size w w2) := (by rw [hw2]; exact below_drewN B1.out _); clear hw2)
    | (go_at_call 54; refine (mFits false _ I2.out X2.out hm z0 z1 HD.out).mono ?_; rintro e w3 ⟨rfl, b3⟩; have I3 := hidden (I2.out.below b3 rfl); have B3 := hidden (B2.out.trans (b3.mono B2.out.size)); clear b3))
  all_goals go_ret3
  all_goals exact ⟨_, rfl, I3.out, only_below B3.out, fun e => absurd e (by decide)⟩
theorem room_fits {s1 : St} {xs : List Int} (hr : Rep s r) (g : s.allocE t z = 10) (gf : ¬ (r.n : Int) < (lenG r (reachG s r xs) : Nat) + z + 1) (hr1 : Rep s1 (collR s r xs)) : s1.allocE t z = 0 := by
  have e1 := hr1.top
  have e2 := hr1.n
  rw [collR_lenB] at e1
  have e3 : (collR s r xs).n = r.n := rfl
  unfold St.allocE at g ⊢
  split at g
  · omega
  · rename_i g1
    split at g
    · omega
    · rename_i g2
      rw [if_neg g1, if_neg g2, if_neg (by omega)]
def PRoomAs (kb : Nat) (p : Pl) (al : Option Addr) (m : Nat) (r : RS) (t z : Int) (Y : Nat → Int) (k' : Int) (w : World) (e : Ending) (w' : World) : Prop := ∃ s1, Good s1 r ∧ PAllocAs kb p al m 0 (s1.allocW t z) Y (s1.alloc t z) (r.after s1 t z) k' w e w'
set_option maxRecDepth 100000 in
theorem mAlloc_room (w : World) (h : PI kb p w s r k) (hx : WS w al m c X) (hm : m ≤ 1000) (g : s.allocE t z = 10) (gf : ¬ (r.n : Int) < (lenG r (reachG s r (listX X m)) : Nat) + z + 1) : Calls Try.prog 28 #[.pointer (some ⟨kb, 0, none⟩), .int .i64 t, .int .i64 z, .slice al m c] w fun e w' => PRoomAs kb p al m (collR s r (listX X m)) t z (fun i => collW s r (listX X m) (X i)) (wrap64 (k + 1)) w e w' := by
  obtain ⟨q0, q1, q2⟩ := h.cells
  obtain ⟨z0, z1⟩ := full_rng g
  have hd : decide ((lenG r (reachG s r (listX X m)) : Nat) + z + 1 ≤ (s.n : Int)) = true := decide_eq_true (by rw [h.rep.n]; omega)
  have HI := hidden h
  have HX := hidden hx
  have HGS : Hid (s.allocE t z ≠ 0) := by show _ ≠ _; rw [g]; decide
  have HG := hidden (reach_good h.rep (listX X m))
  have HD := hidden hd
  have HRF : Hid (∀ s1, Rep s1 (collR s r (listX X m)) → s1.allocE t z = 0) := fun s1 hr1 => room_fits h.rep g gf hr1
  clear h hx gf hd
  go_enter Try.func28, Try.ntmps28
  go_upto_region 5 with (first
    | (go_at_call 40; refine (mOrNone _).mono ?_; rintro e w' ⟨rfl, hw'⟩; rw [hw']; clear hw' w')
    | (go_at_call 52; refine (mClone _ HX.out hm).mono ?_; rintro e w1 ⟨al1, c1, rfl, x1, f1, o1, bb1⟩; have B1 := hidden bb1; have X1 := hidden (HX.out.below bb1); have I1 := hidden (HI.out.below bb1 rfl); obtain ⟨n0, n1, n2⟩ := I1.out.cells; clear x1 f1 o1 bb1)
    | (go_at_call 53; refine (alloc_no t z _ I1.out.ar HGS.out).mono ?_; rintro e w2 ⟨rfl, m2, hw2⟩; rw [g]; have I2 : Hid (PI kb p w2 s r k) := (by rw [hw2]; exact I1.out.drewN _); have X2 : Hid (WS w2 al m c X) := (by rw [hw2]; exact X1.out.drewN _); have B2 : Hid (Below w.heap.size w w2) := (by rw [hw2]; exact below_drewN B1.out _); clear hw2)
    | (go_at_call 54; refine (mFits true _ I2.out X2.out hm z0 z1 HD.out).mono ?_; rintro e w3 ⟨rfl, b3⟩; have I3 := hidden (I2.out.below b3 rfl); have X3 := hidden (X2.out.below b3); have B3 := hidden (B2.out.trans (b3.mono B2.out.size)); clear b3))
  clear n0 n1 n2 q0 q1 q2
  go_upto_region 6 with (go_at_call 33; refine (mForce _ I3.out X3.out hm).mono ?_; rintro e w4 ⟨g4, s4, rfl, i4, o4, hg4, on4⟩; have ge0 := HRF.out s4 i4.rep; obtain ⟨n0, n1, n2⟩ := i4.cells; have I4 := hidden i4; have O4 := hidden o4; have G4 := hidden hg4; have ON4 := hidden on4; clear i4 o4 hg4 on4)
  go_wp2_with (go_at_call 53; refine (alloc_any t z _ I4.out.ar).mono ?_; rintro e w5 ⟨rfl, a5, o5⟩; rw [ge0]; have I5 := hidden (I4.out.laid a5 o5); have O5 := hidden o5; clear a5 o5)
  all_goals go_ret3
  all_goals
    have hs3 := B3.out.size
    have hn : ¬ p.own g4 := not_own HI.out (Nat.le_trans hs3 G4.out)
    have ho := O4.out.frame O5.out hn
    exact ⟨s4, I4.out.good, _, rfl, I5.out, ((only_below B3.out).trans ON4.out).trans (O5.out.mono (fun q _ hq => own_sub q hq)), fun _ => ⟨some ⟨g4, 0, none⟩, m, rfl, ws_own ho (fun i hi => (newW_rng HI.out.ar HI.out.rep HG.out _ (HX.out.lo i hi) (HX.out.hi i hi)).1) (fun i hi => (newW_rng HI.out.ar HI.out.rep HG.out _ (HX.out.lo i hi) (HX.out.hi i hi)).2), fun ad e => by cases e; exact Nat.le_trans hs3 G4.out, fun _ => ⟨g4, rfl, ho⟩⟩⟩
/-- What New hands back, and how all lies then. -/
def PNewAs (n : Nat) (w : World) (e : Ending) (w' : World) : Prop := ∃ kb p, e = .returned (.pointer (some ⟨kb, 0, none⟩)) ∧ PI kb p w' (St.new n) ⟨n, 0, []⟩ 0 ∧ Below w.heap.size w w' ∧ ∀ q, Pown kb p q → w.heap.size ≤ q
theorem mNew_yes (n : Nat) (w : World) (h1 : 2 ≤ n) (h2 : n ≤ 32768) : Calls Try.prog 8 #[.int .i64 n] w fun e w' => PNewAs n w e w' := by
  go_enter Try.func8, Try.ntmps8
  go_wp2_with (go_at_call 29; refine (new_yes n _ h1 h2).mono ?_; rintro e w1 ⟨p, rfl, a1, b1, l1, l2, l3, l4⟩; have A1 := hidden a1; have B1 := hidden b1; clear a1 b1)
  all_goals go_ret
  all_goals
    have hs := B1.out.size
    refine ⟨w1.heap.size, p, rfl, ⟨A1.out.alloc _, rep_new n, blk_alloc_new _ _⟩, B1.out.alloc hs _, ?_⟩
    rintro q (e | e | e | e | e) <;> subst e <;> omega
theorem mNew_no (n : Int) (w : World) (h : n < 2 ∨ 32768 < n) : Calls Try.prog 8 #[.int .i64 n] w fun e w' => e = .returned (.pointer none) ∧ w' = w := by
  go_enter Try.func8, Try.ntmps8
  go_wp2_with (go_at_call 29; refine (new_no n _ h).mono ?_; rintro e w1 ⟨rfl, hw⟩; rw [hw]; clear hw w1)
  all_goals go_ret
  all_goals exact ⟨rfl, rfl⟩
end
end Go.Proofs.Ytjnlfnecmiklhaa
