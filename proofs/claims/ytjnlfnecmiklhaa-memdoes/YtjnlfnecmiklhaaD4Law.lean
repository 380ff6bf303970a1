/-
  Layer 4's statement MemDoes: whatever number of cells and steps are handed in, it returns true.
-/
import Derived.Test.YtjnlfnecmiklhaaP4Real
import Derived.Test.YtjnlfnecmiklhaaP4Awake
import Derived.Test.YtjnlfnecmiklhaaL4Play
import Derived.Test.YtjnlfnecmiklhaaL4Same
import Derived.Test.YtjnlfnecmiklhaaPlainOrder
namespace Go.Proofs.Ytjnlfnecmiklhaa
open Go.ChangeShapes Go.WideShapes Go.ChangeAt Go.RowKit Go.Deep
set_option linter.unusedVariables false
set_option maxHeartbeats 2000000

/-- The program's Mem and the document's, in one memory and in one state. -/
structure Two4 (w : World) (kb : Nat) (p : Pl) (s : St) (kb2 rb : Nat) (r : RS) (k : Int) (m : Shape) : Prop where
  pi : PI kb p w s r k
  mi : MI kb2 rb w r k m
theorem SS4.lt {w : World} {al : Option Addr} {m c : Nat} {T : Nat → St4} (h : SS4 w al m c T) : ∀ x, al = some x → 0 < m → x.block < w.heap.size := by
  intro x e hm
  obtain ⟨y, e2, c1, _⟩ := h.cell 0 hm
  have := cell_lt c1
  rw [add_block] at this
  rw [e] at e2
  cases e2
  exact this
section
variable {w w' : World} {kb : Nat} {p : Pl} {s : St} {kb2 rb : Nat} {r : RS} {k : Int} {m : Shape}
theorem Two4.below {B : Nat} (h : Two4 w kb p s kb2 rb r k m) (b : Below B w w') (hB : B = w.heap.size) : Two4 w' kb p s kb2 rb r k m := by
  subst hB
  exact ⟨h.pi.below b rfl, h.mi.frame (S := fun _ => False) (Only.of_below b) (fun _ _ => id)⟩
theorem Two4.drewN (h : Two4 w kb p s kb2 rb r k m) (n : Nat) : Two4 (w.drewN n) kb p s kb2 rb r k m := ⟨h.pi.drewN n, h.mi.frame (S := fun _ => False) ((Only.refl _ _).drewN n) (fun _ _ => id)⟩
theorem Two4.cells (h : Two4 w kb p s kb2 rb r k m) : w.cell? ⟨kb, 0, none⟩ = some (.pointer (some ⟨p.a, 0, none⟩)) ∧ w.cell? ⟨kb, 1, none⟩ = some (.int .i64 k) ∧ w.cell? ⟨kb2, 0, none⟩ = some (.pointer (some ⟨rb, 0, none⟩)) ∧ w.cell? ⟨kb2, 1, none⟩ = some (.int .i64 k) ∧ w.cell? ⟨rb, 2, none⟩ = some (.slice m.1 r.L.length m.2.1) :=
  ⟨h.pi.cells.1, h.pi.cells.2.1, h.mi.cells.1, h.mi.cells.2.1, h.mi.rf.cells.2.2.1⟩
theorem Two4.sizes (h : Two4 w kb p s kb2 rb r k m) : lenB r.L ≤ 32768 ∧ r.L.length ≤ 32768 ∧ r.n ≤ 32768 ∧ s.base ≤ 32768 ∧ s.top ≤ 65536 := (h.mi.both h.pi.good).sizes
end
theorem mown_new {kb2 rb : Nat} {c : Nat} {V : Nat → Value} {q : Nat} (h : Mown kb2 rb 0 (none, c, V) q) : q = kb2 ∨ q = rb := by
  rcases h with e | (e | e) | ⟨i, hi, _⟩
  · exact Or.inl e
  · exact Or.inr e
  · cases e
  · exact absurd hi (Nat.not_lt_zero _)
theorem is_frame {w w' : World} {g n : Nat} {E : Nat → Int} {S : Nat → Prop} (h : IS w (some ⟨g, 0, none⟩) n E) (k : Only S w w') (hs : ¬ S g) : IS w' (some ⟨g, 0, none⟩) n E := h.frame k (fun ad e _ => by cases e; exact hs)
theorem IS.drewN {w : World} {al : Option Addr} {n : Nat} {E : Nat → Int} (h : IS w al n E) (k : Nat) : IS (w.drewN k) al n E := ⟨h.cell⟩
/-- Behind both plays. -/
structure Fin4 (w : World) (kb : Nat) (p : Pl) (s : St) (kb2 rb : Nat) (r : RS) (k : Int) (m : Shape) (g g' ge ge' N : Nat) (X E E' : Nat → Int) : Prop where
  two : Two4 w kb p s kb2 rb r k m
  h1 : Own w g 8 X
  h2 : Own w g' 8 X
  rx : RX X
  e1 : IS w (some ⟨ge, 0, none⟩) N E
  e2 : IS w (some ⟨ge', 0, none⟩) N E'
  same : ∀ i, i < N → E i = E' i
theorem Fin4.drewN {w : World} {kb : Nat} {p : Pl} {s : St} {kb2 rb : Nat} {r : RS} {k : Int} {m : Shape} {g g' ge ge' N : Nat} {X E E' : Nat → Int} (h : Fin4 w kb p s kb2 rb r k m g g' ge ge' N X E E') (q : Nat) : Fin4 (w.drewN q) kb p s kb2 rb r k m g g' ge ge' N X E E' :=
  ⟨h.two.drewN q, h.h1.frame (S := fun _ => False) ((Only.refl _ _).drewN q) id, h.h2.frame (S := fun _ => False) ((Only.refl _ _).drewN q) id, h.rx, h.e1.drewN q, h.e2.drewN q, h.same⟩
theorem Fin4.is {w w' : World} {kb : Nat} {p : Pl} {s : St} {kb2 rb : Nat} {r : RS} {k : Int} {m : Shape} {g g' ge ge' N q : Nat} {X E E' : Nat → Int} (h : Fin4 w kb p s kb2 rb r k m g g' ge ge' N X E E') (e : w' = w.drewN q) : Fin4 w' kb p s kb2 rb r k m g g' ge ge' N X E E' := by rw [e]; exact h.drewN q
theorem Fin4.ws1 {w : World} {kb : Nat} {p : Pl} {s : St} {kb2 rb : Nat} {r : RS} {k : Int} {m : Shape} {g g' ge ge' N c : Nat} {X E E' : Nat → Int} (h : Fin4 w kb p s kb2 rb r k m g g' ge ge' N X E E') : WS w (some ⟨g, 0, none⟩) 8 c X := ws_own h.h1 (fun i hi => (h.rx i hi).1) (fun i hi => (h.rx i hi).2)
theorem Fin4.ws2 {w : World} {kb : Nat} {p : Pl} {s : St} {kb2 rb : Nat} {r : RS} {k : Int} {m : Shape} {g g' ge ge' N c : Nat} {X E E' : Nat → Int} (h : Fin4 w kb p s kb2 rb r k m g g' ge ge' N X E E') : WS w (some ⟨g', 0, none⟩) 8 c X := ws_own h.h2 (fun i hi => (h.rx i hi).1) (fun i hi => (h.rx i hi).2)
theorem fin4 {kb kb2 rb n g g' ge ge' ce ce' N : Nat} {p : Pl} {w3 w4 w5 w6 w7 : World} {T : Nat → St4} {a : RS × Int} {b : (RS × Int) × Shape} {X X' E E' : Nat → Int} {V : Nat → Value}
    (hlt : ∀ q, Pown kb p q → q < kb2 ∧ q < rb) (mi3 : MI kb2 rb w3 ⟨n, 0, []⟩ 0 (none, 0, V)) (b4 : Below w3.heap.size w3 w4)
    (pr : playR MM false T (⟨n, 0, []⟩, 0) N E a X) (pb5 : PB (realD kb p) w4 (⟨n, 0, []⟩, 0) w5 a g X ge ce N E) (b6 : Below w5.heap.size w5 w6)
    (pm : playR (MLift MM) false T (((⟨n, 0, []⟩, 0), (none, 0, V)) : (RS × Int) × Shape) N E' b X') (pb7 : PB (modelD kb2 rb) w6 ((⟨n, 0, []⟩, 0), (none, 0, V)) w7 b g' X' ge' ce' N E') :
    ∃ s, Fin4 w7 kb p s kb2 rb a.1 a.2 b.2 g g' ge ge' N X E E' := by
  obtain ⟨e1, e2, e3⟩ := MM_play pr (play_lift pm)
  obtain ⟨s, i5⟩ : ∃ s, PI kb p w5 s a.1 a.2 := pb5.i
  have hk : kb2 < w3.heap.size := lt_of_some mi3.mem
  have hr : rb < w3.heap.size := lt_of_some mi3.rf.hr
  have z4 := b4.size
  have lo := pb5.lo
  obtain ⟨cur, hce, hge⟩ := row_blk pb5.errs
  have nS : ∀ q, w4.heap.size ≤ q → ¬ (modelD kb2 rb).own ((⟨n, 0, []⟩, 0), (none, 0, V)) q := fun q hq hc => by
    rcases mown_new hc with e | e <;> omega
  have nP : ∀ q, Pown kb p q → ¬ (modelD kb2 rb).own ((⟨n, 0, []⟩, 0), (none, 0, V)) q := fun q hq hc => by
    have := hlt q hq
    rcases mown_new hc with e | e <;> omega
  have i6 := i5.below b6 rfl
  have i7 := i6.frame pb7.on nP
  have o6 := pb5.held.frame (S := fun _ => False) (Only.of_below b6) id
  have is6 := is_frame (is_of_row pb5.errs) (S := fun _ => False) (Only.of_below b6) id
  have hmi : MI kb2 rb w7 b.1.1 b.1.2 b.2 := pb7.i
  rw [← e2] at hmi
  exact ⟨s, ⟨⟨i7, hmi⟩, o6.frame pb7.on (nS g lo), e3 ▸ pb7.held, pb5.rx, is_frame is6 pb7.on (nS ge hge), is_of_row pb7.errs, e1⟩⟩
theorem four_le {kb : Nat} {p : Pl} {w : World} {s : St} {r : RS} {k : Int} (h : PI kb p w s r k) : 4 ≤ w.heap.size := by
  have a1 := lt_of_some h.ar.ha
  have a2 := lt_of_some h.ar.hh
  obtain ⟨c1, e1, _⟩ := h.ar.hc
  obtain ⟨c2, e2, _⟩ := h.ar.hb
  have a3 := lt_of_some e1
  have a4 := lt_of_some e2
  have n1 := ty_two h.ar.ha h.ar.hh (by decide)
  have n2 := ty_two h.ar.ha e1 (by decide)
  have n3 := ty_two h.ar.ha e2 (by decide)
  have n4 := ty_two h.ar.hh e1 (by decide)
  have n5 := ty_two h.ar.hh e2 (by decide)
  have n6 := ty_two e1 e2 (by decide)
  omega
set_option maxRecDepth 100000 in
theorem does4_no (n : Int) {al : Option Addr} {len cap : Nat} (w : World) (h : n < 2 ∨ 32768 < n) : Calls Try.prog 3 #[.int .i64 n, .slice al len cap] w fun e w' => e = .returned (.bool true) ∧ Below w.heap.size w w' := by
  go_enter Try.func3, Try.ntmps3
  go_wp2_with (first
    | (go_at_call 7; refine (awake4_any _).mono ?_; rintro e w1 ⟨rfl, b1⟩; have B1 := hidden b1; clear b1)
    | (go_at_call 8; refine (mNew_no n _ h).mono ?_; rintro e w2 ⟨rfl, hw2⟩; rw [hw2]; clear hw2 w2)
    | (go_at_call 9; refine (r4new_no n _ h).mono ?_; rintro e w2 ⟨rfl, hw2⟩; rw [hw2]; clear hw2 w2))
  all_goals go_ret
  all_goals exact ⟨rfl, B1.out⟩
theorem rtop4 {w : World} {rb : Nat} {r : RS} {a : Option Addr} {cap : Nat} {V : Nat → Value} (B T : Nat) (h : Rf w rb r a cap V) (hB : B = r.n * r.which) (hn : r.n ≤ 32768) (hw : r.which ≤ 1) (hB2 : B ≤ 32768) (hL : lenB r.L ≤ 100000) (hLl : r.L.length ≤ 100000) (hT : B + lenB r.L = T) :
    Calls Try.prog 18 #[.pointer (some ⟨rb, 0, none⟩)] w fun e w' => e = .returned (.int .i64 T) ∧ ∃ m, w' = w.drewN m := by
  subst hT; exact rtop_any B w h hB hn hw hB2 hL hLl
set_option maxRecDepth 100000 in
theorem does4_yes (n : Nat) {al : Option Addr} {len cap : Nat} {T : Nat → St4} (w : World) (h1 : 2 ≤ n) (h2 : n ≤ 32768) (hT : SS4 w al len cap T) (hlen : len ≤ maxLen) : Calls Try.prog 3 #[.int .i64 n, .slice al len cap] w fun e w' => e = .returned (.bool true) ∧ Below w.heap.size w w' := by
  have HT := hidden hT
  have HLT := hidden hT.lt
  clear hT
  go_enter Try.func3, Try.ntmps3
  go_wp2_with fail
  refine (awake4_any _).mono ?_
  rintro e w1 ⟨rfl, b1⟩
  have B1 := hidden b1
  clear b1
  go_wp2_with fail
  refine (mNew_yes n _ h1 h2).mono ?_
  rintro e w2 ⟨kb, p, rfl, i2, b2, l2⟩
  have I2 := hidden i2
  have LP : Hid (∀ q, Pown kb p q → w.heap.size ≤ q) := fun q hq => Nat.le_trans B1.out.size (l2 q hq)
  have B2 := hidden (B1.out.trans (b2.mono B1.out.size))
  have F2 := hidden (four_le i2)
  clear i2 b2 l2 B1
  go_wp2_with fail
  refine (r4new_yes n _ h1 h2 F2.out).mono ?_
  rintro e w3 ⟨kb2, rb, rfl, mi3, b3, l3, l4⟩
  have HLQ : Hid (∀ q, Pown kb p q → q < kb2 ∧ q < rb) := fun q hq => by have := I2.out.lt q hq; exact ⟨by omega, by omega⟩
  have I3 := hidden (I2.out.below b3 rfl)
  have B3 := hidden (B2.out.trans (b3.mono B2.out.size))
  have MI3 := hidden mi3
  have LK : Hid (w.heap.size ≤ kb2 ∧ w.heap.size ≤ rb) := ⟨Nat.le_trans B2.out.size l3, Nat.le_trans B2.out.size l4⟩
  obtain ⟨c0, c1, c2⟩ := I3.out.cells
  have HKL := hidden (lt_of_some I3.out.mem)
  clear mi3 b3 l3 l4 I2 F2
  go_wp2_with fail
  refine (real_any _ c0 HKL.out).mono ?_
  rintro e w4 ⟨rfl, b4⟩
  have HB4 := hidden b4
  have B4 := hidden (B3.out.trans (b4.mono B3.out.size))
  have I4 := hidden (I3.out.below b4 rfl)
  clear b4 c0 c1 c2 HKL
  go_wp2_with fail
  refine (play_any (real_does kb p) false _ (⟨n, 0, []⟩, 0) ⟨_, I4.out⟩ (HT.out.frame (S := fun _ => False) ((Only.of_below B4.out).mono (fun _ _ h => h)) (fun _ _ _ => id)) (fun x e hl => ⟨fun hc => absurd (LP.out _ hc) (Nat.not_le_of_lt (HLT.out x e hl)), Nat.lt_of_lt_of_le (HLT.out x e hl) B4.out.size⟩) hlen).mono ?_
  rintro e w5 ⟨g5, c5, ge5, ce5, a5, X5, E5, rfl, pr5, pb5⟩
  have PR5 : Hid (playR MM false T (⟨n, 0, []⟩, 0) (min len 80) E5 a5 X5) := pr5
  have PB5 := hidden pb5
  have B5 := hidden (only_up B4.out (Nat.le_refl _) pb5.on LP.out)
  have MI5 := hidden ((MI3.out.frame (S := fun _ => False) (Only.of_below HB4.out) (fun _ _ => id)).frame pb5.on (fun q hq hc => by
    have := HLQ.out q hc
    rcases mown_new hq with e | e <;> omega))
  obtain ⟨c0, c1, c2⟩ := MI5.out.cells
  have HKL := hidden (lt_of_some MI5.out.mem)
  clear pr5 pb5 I3 I4 B3 B4
  go_wp2_with fail
  refine (model_any _ c0 HKL.out).mono ?_
  rintro e w6 ⟨rfl, b6⟩
  have HB6 := hidden b6
  have B6 := hidden (B5.out.trans (b6.mono B5.out.size))
  have MI6 := hidden (MI5.out.frame (S := fun _ => False) (Only.of_below b6) (fun _ _ => id))
  clear b6 c0 c1 c2 HKL MI5 B5
  go_wp2_with fail
  refine (play_any (model_does kb2 rb) false _ ((⟨n, 0, []⟩, 0), (none, 0, fun _ => .slice none 0 0)) MI6.out (HT.out.frame (S := fun _ => False) ((Only.of_below B6.out).mono (fun _ _ h => h)) (fun _ _ _ => id)) (fun x e hl => ⟨fun hc => ?_, Nat.lt_of_lt_of_le (HLT.out x e hl) B6.out.size⟩) hlen).mono ?_
  · have h1 := HLT.out x e hl
    have h2 := LK.out
    rcases mown_new hc with e | e <;> omega
  rintro e w7 ⟨g7, c7, ge7, ce7, a7, X7, E7, rfl, pr7, pb7⟩
  have B7 : Hid (Below w.heap.size w w7) := B6.out.trans (pb7.on.below B6.out.size (fun q hq hs => by
    have h2 := LK.out
    rcases mown_new hs with e | e <;> omega))
  obtain ⟨s, f7⟩ := fin4 HLQ.out MI3.out HB4.out PR5.out PB5.out HB6.out pr7 pb7
  obtain ⟨r, k⟩ := a5
  obtain ⟨⟨r7, k7⟩, m⟩ := a7
  have F7 : Hid (Fin4 w7 kb p s kb2 rb r k m g5 g7 ge5 ge7 (min len 80) X5 E5 E7) := f7
  clear pr7 pb7 f7 HB4 HB6 PR5 PB5 MI3 MI6 B6 HLQ LK
  obtain ⟨N, hN⟩ : ∃ N, N = min len 80 := ⟨_, rfl⟩
  rw [← hN] at F7 ⊢
  have hN2 : N ≤ 80 := by omega
  clear hN
  obtain ⟨z1, z2, z3, z4, z5⟩ := F7.out.two.sizes
  obtain ⟨L, hL⟩ : ∃ L, L = r.L.length := ⟨_, rfl⟩
  have HL := hidden hL
  have hwh := F7.out.two.pi.rep.wh
  have HB := hidden F7.out.two.pi.rep.base
  have HTP := hidden F7.out.two.pi.rep.top
  rw [← hL] at z2
  clear hL
  obtain ⟨q0, q1, q2, q3, q4⟩ := F7.out.two.cells
  rw [← HL.out] at q4
  go_wp2_with fail
  go_region_held3 (fun w' => w'.cell? ⟨kb2, 0, none⟩ = some (.pointer (some ⟨rb, 0, none⟩)) ∧ w'.cell? ⟨kb2, 1, none⟩ = some (.int .i64 k) ∧ w'.cell? ⟨rb, 2, none⟩ = some (.slice m.1 L m.2.1)) (go_keep) (first
    | (go_at_call 13; refine (same4_yes _ (F7.out.ws1.drewN 1) (F7.out.ws2.drewN 1) (by unfold maxLen; omega) (fun _ _ => rfl)).mono ?_; rintro e w8 ⟨rfl, k8, hw8⟩; have F8 := hidden ((F7.out.drewN 1).is hw8); have B8 : Hid (Below w.heap.size w w8) := (by rw [hw8]; exact below_drewN (below_drewN B7.out 1) k8); clear hw8; obtain ⟨a0, a1, a2, a3, a4⟩ := F8.out.two.cells; rw [← HL.out] at a4)
    | (go_at_call 14; refine (sameErrs_yes _ F8.out.e1 F8.out.e2 (by unfold maxLen; omega) F8.out.same).mono ?_; rintro e w9 ⟨rfl, k9, hw9⟩; have F9 := hidden (F8.out.is hw9); have B9 : Hid (Below w.heap.size w w9) := (by rw [hw9]; exact below_drewN B8.out k9); clear hw9; obtain ⟨b0, b1, b2, b3, b4⟩ := F9.out.two.cells; rw [← HL.out] at b4)
    | (go_at_call 15; refine (mCount _ b1).mono ?_; rintro e w' ⟨rfl, hw'⟩; rw [hw']; clear hw' w')
    | (go_at_call 16; refine (mArena (p := p) _ ?_).mono ?_; (first | exact F10.out.two.cells.1 | exact b0); rintro e w' ⟨rfl, hw'⟩; rw [hw']; clear hw' w')
    | (go_at_call 17; refine (top_is (s.top : Int) _ F9.out.two.pi.ar rfl).mono ?_; rintro e w' ⟨rfl, hw'⟩; rw [hw']; clear hw' w')
    | (go_at_call 18; refine (rtop4 s.base s.top F9.out.two.mi.rf HB.out z3 hwh z4 (by omega) (by rw [← HL.out]; omega) HTP.out.symm).mono ?_; rintro e w10 ⟨rfl, k10, hw10⟩; have F10 := hidden (F9.out.is hw10); have B10 : Hid (Below w.heap.size w w10) := (by rw [hw10]; exact below_drewN B9.out k10); clear hw10; obtain ⟨d0, d1, d2, d3, d4⟩ := F10.out.two.cells; rw [← HL.out] at d4)
    | (go_at_call 19; refine (blocks_any L _ F10.out.two.pi.ar F10.out.two.pi.rep HL.out).mono ?_; rintro e w11 ⟨ba, bc, rfl, u1, u2, b11⟩; have F11 := hidden (F10.out.two.below b11 rfl); have B11 := hidden (B10.out.trans (b11.mono B10.out.size)); clear u1 u2 b11; obtain ⟨e0, e1, e2, e3, e4⟩ := F11.out.cells; rw [← HL.out] at e4))
  clear q0 q1 q2 q3 q4 a0 a1 a2 a3 a4 b0 b1 b2 b3 b4 d0 d1 d2 d3 d4 F7 F8 F9 F10 B7 B8 B9 B10 HT HLT B2
  go_wp2_with (first
    | (go_at_call 16; refine (mArena (p := p) _ e0).mono ?_; rintro e w' ⟨rfl, hw'⟩; rw [hw']; clear hw' w')
    | (go_at_call 19; refine (blocks_any L _ F11.out.pi.ar F11.out.pi.rep HL.out).mono ?_; rintro e w12 ⟨ba2, bc2, rfl, u1, u2, b12⟩; have F12 := hidden (F11.out.below b12 rfl); have W12 : Hid (WS w12 ba2 L bc2 (blkW s r)) := ws_any u1 u2 (fun i _ => blkW_lo s r i) (fun i _ => blkW_hi F12.out.pi.ar F12.out.pi.rep i); have B12 := hidden (B11.out.trans (b12.mono B11.out.size)); clear u1 u2 b12))
  clear e0 e1 e2 e3 e4 F11 B11
  have HR := hidden F12.out.pi.rep
  obtain ⟨ma, cap2, V⟩ := m
  go_loopw [98] (fun i wr => ∃ (j : Nat), j ≤ L ∧ i = .int .i64 j ∧ Two4 wr kb p s kb2 rb r k (ma, cap2, V) ∧ WS wr ba2 L bc2 (blkW s r) ∧ Below w.heap.size w wr) (fun i _ => L - (intOf i).toNat)
  case atStart => exact ⟨0, Nat.zero_le _, rfl, F12.out, W12.out, B12.out⟩
  case round =>
    clear F12 W12 B12
    obtain ⟨j, hj, rfl, h2, ws2, b2⟩ := hrel
    by_cases hlt : j < L
    · obtain ⟨b, hb⟩ : ∃ b, r.L[j]? = some b := ⟨_, List.getElem?_eq_getElem (by have := HL.out; omega)⟩
      have HBJ : Hid _ := hb
      have hbw := blkW_eq HR.out hb
      have hin := HR.out.inside hb
      have had0 : b.ad ≤ 65536 := by omega
      have had1 : 1 ≤ b.ad := by omega
      obtain ⟨x, rfl, hcl⟩ := ws2.cell j hlt
      rw [hbw] at hcl
      have HBW : Hid _ := hbw
      have hrf : Rf wr rb r ma cap2 V := h2.mi.rf
      obtain ⟨ga, rfl, hg1, hg2, hg3, hg4⟩ := hrf.row (by have := HL.out; omega)
      obtain ⟨d0, d1, d2, d3⟩ := hg4 j b hb
      obtain ⟨c0, c1, c2, c3, c4⟩ := h2.cells
      rw [← HL.out] at c4
      obtain ⟨va, vc, hv⟩ := field_len d3
      rw [hv] at d2
      have HV := hidden hv
      have hfl0 : b.F.length ≤ 4096 := (HR.out.tag j b hb).2.2
      have HP : Hid (ptrW (b.ad : Int) = 2 * (b.ad : Int)) := by show _ = _; unfold ptrW; rw [if_neg (by omega)]
      have HSZ : Hid _ := (HR.out.word hb (by omega)).2
      have HTG : Hid _ := HR.out.tagOf hb (by omega)
      have HFL : Hid (∀ k, k < b.F.length → s.get (2 * (b.ad : Int)) k = b.F.getD k 0 ∧ s.fieldE (2 * (b.ad : Int)) k = 0) := fun k hk => HR.out.fieldOf hb (by omega) hk
      have HFIT : Hid s.Fits := HR.out.fits
      have x1 : (0 : Int) ≤ (j : Int) := by omega
      have x2 : (j : Int) < (L : Int) := by omega
      clear hb hbw hin hg4 d3 hv hrf
      go_wp2_with fail
      go_quiet ((first | (go_at_call 20; exact Calls.quiet_of_same (rptr_eq _ (2 * (b.ad : Int)) _ (by omega) (by omega) HP.out)) | (go_at_call 16; exact Calls.quiet_of_same (mArena (p := p) _ c0)) | (go_at_call 21; exact Calls.quiet_of (tag_is (2 * (b.ad : Int)) b.tag _ (h2.pi.ar.drewN _) (by omega) (by omega) HTG.out)) | (go_at_call 22; exact Calls.quiet_of (size_is (2 * (b.ad : Int)) (b.F.length : Int) _ (h2.pi.ar.drewN _) (by omega) (by omega) HSZ.out))))
      have h3 := h2.drewN nq
      have ws3 := ws2.drewN nq
      have b3 := below_drewN b2 nq
      have d2' : (wr.drewN nq).cell? ⟨ga, j * 3 + 2, none⟩ = some (.slice va b.F.length vc) := d2
      have c2' : (wr.drewN nq).cell? ⟨kb2, 0, none⟩ = some (.pointer (some ⟨rb, 0, none⟩)) := c2
      have c4' : (wr.drewN nq).cell? ⟨rb, 2, none⟩ = some (.slice (some ⟨ga, 0, none⟩) L cap2) := c4
      generalize wr.drewN nq = w3 at h3 ws3 b3 d2' c2' c4' ⊢
      clear h2 ws2 b2 hcl d0 d1 d2 c0 c1 c2 c3 c4 hg2 hg3
      go_wp2_with fail
      clear d2' c2' c4'
      go_loopw [166] (fun v wr => ∃ (q : Nat), q ≤ b.F.length ∧ v = .int .i64 q ∧ Two4 wr kb p s kb2 rb r k (some ⟨ga, 0, none⟩, cap2, V) ∧ WS wr (some x) L bc2 (blkW s r) ∧ Below w.heap.size w wr) (fun v _ => b.F.length - (intOf v).toNat)
      case atStart => exact ⟨0, Nat.zero_le _, rfl, h3, ws3, b3⟩
      case round =>
        clear h3 ws3 b3
        obtain ⟨q, hq, rfl, h4, ws4, b4⟩ := hrel
        by_cases hql : q < b.F.length
        · obtain ⟨gt, ge⟩ := HFL.out q hql
          have HGT : Hid _ := gt
          have HGE : Hid _ := ge
          have v0 : (0 : Int) ≤ (q : Int) := by omega
          have v1 : (q : Int) < (b.F.length : Int) := by omega
          have hrf : Rf wr rb r (some ⟨ga, 0, none⟩) cap2 V := h4.mi.rf
          obtain ⟨ga', ea, _, _, _, hg4⟩ := hrf.row (by have := HL.out; omega)
          obtain ⟨_, _, _, d3⟩ := hg4 j b HBJ.out
          obtain ⟨gf, capf, hv, hgf, hcf⟩ := field_cell d3 q hql
          rw [HV.out] at hv
          simp only [Value.slice.injEq] at hv
          obtain ⟨rfl, _, rfl⟩ := hv
          have k0 := h4.cells.1
          clear gt ge hrf ea hg4 d3 HFL
          have hne : (b.F.getD q 0 != b.F.getD q 0) = false := bne_self_eq_false _
          generalize b.F.getD q 0 = y at *
          go_wp2_with (first
            | (go_at_call 16; refine (mArena (p := p) _ k0).mono ?_; rintro e w' ⟨rfl, hw'⟩; rw [hw']; clear hw' w')
            | (go_at_call 23; refine (get_at (2 * (b.ad : Int)) q y 0 _ h4.pi.ar HFIT.out (by omega) (by omega) HGT.out HGE.out).mono ?_; rintro e w5 ⟨rfl, m5, hw5⟩; have h5 : Hid (Two4 w5 kb p s kb2 rb r k (some ⟨ga, 0, none⟩, cap2, V)) := (by rw [hw5]; exact h4.drewN m5); have ws5 : Hid (WS w5 (some x) L bc2 (blkW s r)) := (by rw [hw5]; exact ws4.drewN m5); have b5 : Hid (Below w.heap.size w w5) := (by rw [hw5]; exact below_drewN b4 m5); clear hw5))
          go_roundw
          case rel => exact ⟨q + 1, by omega, by go_num, h5.out, ws5.out, b5.out⟩
          case measure => simp [intOf]; omega
        · go_wp2_with fail
          go_roundw
          case rel => exact ⟨j + 1, by omega, by go_num, h4, ws4, b4⟩
          case measure => simp [intOf]; omega
    · go_wp2_with fail
      go_ret
      exact ⟨rfl, b2⟩
end Go.Proofs.Ytjnlfnecmiklhaa
