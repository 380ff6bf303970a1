/-
  CopierDoes: whatever number of cells, blocks and roots are handed to it, the call returns true and writes nothing that was there. Condition: the slices lie in memory.
-/
import Derived.Test.YtkgocnmeedkieaaReachLaw
namespace Go.Proofs.Ytkgocnmeedkieaa
open Go.ChangeShapes Go.WideShapes Go.ChangeAt Go.RowKit Go.Deep
set_option linter.unusedVariables false
set_option maxHeartbeats 2000000

theorem owns_lower {w : World} {B B' : Nat} {e : TypeId} {sz n : Nat} {v : Value} {xs : List Value} (h : w.ownsRow B e sz v n xs) (hB : B' ≤ B) : w.ownsRow B' e sz v n xs := by
  refine ⟨h.1, ?_⟩
  rcases h.2 with h2 | ⟨g, c, cur, hv, hge, rest⟩
  · exact .inl h2
  · exact .inr ⟨g, c, cur, hv, by omega, rest⟩
def joinX (n : Nat) (X Y : Nat → Int) (i : Nat) : Int := if i < n then X i else Y (i - n)
theorem join_list (n m : Nat) (X Y : Nat → Int) : ((List.range n).map fun j => Value.int .u64 (X j)) ++ ((List.range m).map fun j => Value.int .u64 (Y j)) = (List.range (n + m)).map fun j => Value.int .u64 (joinX n X Y j) := by
  rw [List.range_add, List.map_append, List.map_map]
  congr 1
  · refine List.map_congr_left (fun j hj => ?_)
    unfold joinX; rw [if_pos (List.mem_range.1 hj)]
  · refine List.map_congr_left (fun j hj => ?_)
    show _ = Value.int .u64 (joinX n X Y (n + j))
    unfold joinX; rw [if_neg (by omega), Nat.add_sub_cancel_left]
theorem append_more {w : World} {ops : Array Oper} {rest : List Oper} {o : Oper} {a : Act} {Q : Exit → Act → World → Prop} (hgd : o.guard = none) (s x : Operand)
    (ho : o.op = .call { callee := .builtin .append, args := #[s, x], argTypes := #[23, 23] }) (B g0 n c0 : Nat) (X : Nat → Int) (hs : a.eval s = .slice (some ⟨g0, 0, none⟩) n c0) (hown : w.ownsRow B 49 1 (.slice (some ⟨g0, 0, none⟩) n c0) n ((List.range n).map fun j => .int .u64 (X j)))
    (gx m c : Nat) (hx : a.eval x = .slice (some ⟨gx, 0, none⟩) m c) (Y : Nat → Int) (hy : Own w gx m Y) (hn : n + m ≤ 1000000) (hB : B ≤ w.heap.size)
    (h : ∀ g cap w', Own w' g (n + m) (joinX n X Y) → w.grownBy w' (some g0) → B ≤ g → wpList Try.prog ops Q rest (a.put o.dst (.slice (some ⟨g, 0, none⟩) (n + m) cap)) w') : wpList Try.prog ops Q (o :: rest) a w := by
  obtain ⟨i0, hi, hz0, hz1, hz2⟩ := info_parts Try.info49
  refine wpList_append_own w hgd s x 23 ho B 49 i0 (.int .u64 0) 1 8 Try.underlying23 hi hz0 hz1 hz2 rfl (by decide) _ n _ hs hown ⟨gx, 0, none⟩ m c ((List.range m).map fun j => .int .u64 (Y j)) hx (by simp) ?_ ?_ (by unfold maxLen; omega) (by omega) hB ?_
  · intro j u hu
    have hj : j < m := by
      have := (List.getElem?_eq_some_iff.1 hu).1
      simpa using this
    have e : (Addr.mk gx 0 none).add j = ⟨gx, j, none⟩ := by
      cases j with
      | zero => rfl
      | succ j => simp [Addr.add]
    rw [e, hy.cell hj]
    simp [hj] at hu
    rw [hu]
  · intro u hu
    simp at hu
    obtain ⟨j, _, rfl⟩ := hu
    rfl
  · intro v' w' h1 h2 h3
    have hne : v' ≠ .slice none 0 0 := by
      intro e
      have := (h3.1 e).1
      simp at this
    rw [join_list] at h1
    rcases h1.2 with ⟨e, _⟩ | ⟨g, cap, cur, rfl, r⟩
    · exact absurd e hne
    · obtain ⟨q1, q2⟩ := own_of_row h1
      exact h g cap w' q1 h2 q2
theorem words_row {p : Pl} {s : St} {r : RS} {al : Option Addr} {m c : Nat} {Z : Nat → Int} (mb : Nat) (w : World) (h : Ar w p s) (hr : Rep s r) (hmb : mb = r.L.length) (hz : WS w al m c Z) (hm : m ≤ maxLen) :
    Calls Try.prog 11 #[.slice al m c, .pointer (some ⟨p.a, 0, none⟩)] w fun e w' => ∃ g cap, e = .returned (.slice (some ⟨g, 0, none⟩) (min m 60) cap) ∧ w'.ownsRow w.heap.size 49 1 (.slice (some ⟨g, 0, none⟩) (min m 60) cap) (min m 60) ((List.range (min m 60)).map fun j => .int .u64 (wordV (Z j) mb (blkW s r))) ∧ Below w.heap.size w w' := by
  have hml : mb ≤ maxLen := by have := lenB_length' r.L; have := hr.top; have := h.t2; have := h.n2; unfold maxLen; omega
  have HML : Hid _ := hml
  unfold maxLen at hm
  have HZ : Hid _ := hz
  have LO : ∀ i, i < mb → 0 ≤ blkW s r i := fun i _ => blkW_lo s r i
  have HI : ∀ i, i < mb → blkW s r i ≤ 18446744073709551615 := fun i _ => blkW_hi h hr i
  have HLO : Hid _ := LO
  have HHI : Hid _ := HI
  clear LO HI hml hz
  go_enter Try.func11, Try.ntmps11
  go_wp2_with fail
  refine (blocks_any mb _ h hr hmb).mono ?_
  rintro e w1 ⟨ba, bc, rfl, u1, u2, b1⟩
  have hB : WS w1 ba mb bc (blkW s r) := ws_any u1 u2 HLO.out HHI.out
  have hz1 : WS w1 al m c Z := WS.below HZ.out b1
  have hsz := b1.size
  clear u1 u2 hr hmb h
  go_wp2
  have hB2 : WS (w1.alloc (.cells #[] 49)) ba mb bc (blkW s r) := hB.below ((Below.refl _ _).alloc (Nat.le_refl _) _)
  have hz2 : WS (w1.alloc (.cells #[] 49)) al m c Z := hz1.below ((Below.refl _ _).alloc (Nat.le_refl _) _)
  have hown : (w1.alloc (.cells #[] 49)).ownsRow w1.heap.size 49 1 (.slice (some ⟨w1.heap.size, 0, none⟩) 0 0) 0 ((List.range 0).map fun j => .int .u64 (wordV (Z j) mb (blkW s r))) := ⟨rfl, .inr ⟨w1.heap.size, 0, #[], rfl, Nat.le_refl _, blk_alloc_new _ _, Nat.le_refl _, Nat.zero_le _, rfl, rfl⟩⟩
  have hb2 : Below w1.heap.size w1 (w1.alloc (.cells #[] 49)) := (Below.refl _ _).alloc (Nat.le_refl _) _
  have hs2 : w1.heap.size ≤ (w1.alloc (.cells #[] 49)).heap.size := by rw [nblk_alloc]; omega
  have HB1 : Hid _ := b1
  generalize w1.alloc (.cells #[] 49) = w2 at *
  go_loopw [6, 7] (fun v i wr => ∃ (k g cp : Nat), k ≤ m ∧ k ≤ 60 ∧ i = .int .i64 k ∧ v = .slice (some ⟨g, 0, none⟩) k cp ∧ wr.ownsRow w1.heap.size 49 1 v k ((List.range k).map fun j => .int .u64 (wordV (Z j) mb (blkW s r))) ∧ Below w1.heap.size w1 wr) (fun _ i _ => 60 - (intOf i).toNat)
  case atStart => exact ⟨0, w1.heap.size, 0, by omega, by omega, rfl, rfl, hown, hb2⟩
  case round =>
    clear hown hb2 hB2 hz2 hs2
    obtain ⟨k, g, cp, hk, hk6, rfl, rfl, ho, hb⟩ := hrel
    have hzr := hz1.below hb
    have hBr := hB.below hb
    by_cases hlt : k < m
    · by_cases h60 : k < 60
      · obtain ⟨x, rfl, hx⟩ := hzr.cell k hlt
        have z0 := hzr.lo k hlt
        have z1 := hzr.hi k hlt
        have q0 := hb.size
        have HBR : Hid _ := hBr
        clear hzr hBr
        go_wp2_with (first | (go_at_call 33; refine (word3_any _ _ HBR.out HML.out (by omega) (by omega)).mono ?_; rintro e w' ⟨rfl, hw'⟩; rw [hw']; clear hw' w') | (at_builtin; refine wpList_append_one rfl (.tmp 21) (.tmp 28) rfl w1.heap.size _ k _ rfl (ho.alloc _) ⟨wr.heap.size, 0, none⟩ 1 (wordV (Z k) mb (blkW s r)) rfl (by simp [Addr.add]) (by omega) (by rw [nblk_alloc]; omega) ?_; intro g3 cp3 w3 ho3 gr hg; have hb3 := (hb.alloc q0 _).grown gr (by rw [nblk_alloc]; omega) (own_ge' ho); clear gr))
        go_roundw
        case rel => exact ⟨k + 1, g3, cp3, by omega, by omega, by go_num, rfl, by rw [List.range_succ, List.map_append, List.map_singleton]; exact ho3, hb3⟩
        case measure => simp [intOf]; omega
      · have e : k = min m 60 := by omega
        have HEK : Hid _ := e
        clear e
        go_wp2
        go_ret
        rw [← HEK.out]
        exact ⟨g, cp, rfl, owns_lower ho hsz, HB1.out.trans (hb.mono hsz)⟩
    · have e : k = min m 60 := by omega
      have HEK : Hid _ := e
      clear e
      go_wp2
      go_ret
      rw [← HEK.out]
      exact ⟨g, cp, rfl, owns_lower ho hsz, HB1.out.trans (hb.mono hsz)⟩
theorem does_no (n : Int) (al : Option Addr) (ll cl : Nat) (rl : Option Addr) (rm rc : Nat) (ul : Option Addr) (um uc : Nat) (w : World) (h : n < 2 ∨ 32768 < n) :
    Calls Try.prog 3 #[.int .i64 n, .slice al ll cl, .slice rl rm rc, .slice ul um uc] w fun e w' => e = .returned (.bool true) ∧ Below w.heap.size w w' := by
  by_cases c : n < 2
  · go_enter Try.func3, Try.ntmps3
    go_wp2_with (first | (go_at_call 9; refine (awake3_any _).mono ?_; rintro e w0 ⟨rfl, b0⟩) | (go_at_call 10; refine (lay_no n al ll cl _ h).mono ?_; rintro e w' ⟨rfl, hw'⟩; rw [hw']; clear hw' w'))
    all_goals go_ret
    all_goals exact ⟨rfl, b0⟩
  · have c2 : 32768 < n := by omega
    have H : Hid _ := h
    clear h
    go_enter Try.func3, Try.ntmps3
    go_wp2_with (first | (go_at_call 9; refine (awake3_any _).mono ?_; rintro e w0 ⟨rfl, b0⟩) | (go_at_call 10; refine (lay_no n al ll cl _ H.out).mono ?_; rintro e w' ⟨rfl, hw'⟩; rw [hw']; clear hw' w'))
    all_goals go_ret
    all_goals exact ⟨rfl, b0⟩
theorem own_rng {w : World} {g m c : Nat} {X : Nat → Int} (h : Own w g m X) (hr : ∀ i, i < m → 0 ≤ X i ∧ X i ≤ 18446744073709551615) : WS w (some ⟨g, 0, none⟩) m c X := ws_own h (fun i hi => (hr i hi).1) (fun i hi => (hr i hi).2)
theorem coll_rng {w : World} {p : Pl} {s : St} {r : RS} {X : Nat → Int} {m : Nat} (h : Ar w p s) (hr : Rep s r) (hx : ∀ i, i < m → 0 ≤ X i ∧ X i ≤ 18446744073709551615) : ∀ i, i < m → 0 ≤ collW s r (listX X m) (X i) ∧ collW s r (listX X m) (X i) ≤ 18446744073709551615 := fun i hi => newW_rng h hr (reach_good hr (listX X m)) _ (hx i hi).1 (hx i hi).2
/-- Behind both collections: the two arenas are in one state again. -/
theorem two_again {w3 w4 w5 : World} {p : Pl} {s s4 : St} {rb : Nat} {r r4 : RS} {a aN : Option Addr} {cap capN : Nat} {V VN : Nat → Value} (h : Two w3 p s rb r a cap V) (o4 : Only p.own w3 w4) (hA4 : Ar w4 p s4) (hR4 : Rep s4 r4) (rf5 : Rf w5 rb r4 aN capN VN) (o5 : Only (fun q => q = rb) w4 w5) : Two w5 p s4 rb r4 aN capN VN :=
  play_two (h.left o4) hA4 rf5 hR4 (o5.mono (fun k _ hk => Or.inl hk))
theorem only_rb_below {w w' : World} {rb B : Nat} (h : Only (fun q => q = rb) w w') (hB : B ≤ w.heap.size) (hr : B ≤ rb) : Below B w w' := h.below hB (fun k hk e => by omega)
theorem own_grown0 {w w' : World} {g0 g m : Nat} {o : Obj} {X : Nat → Int} (h : Own w g m X) (gr : (w.alloc o).grownBy w' (some g0)) (hne : g ≠ g0) : Own w' g m X := h.frame (only_grown gr) hne
set_option maxRecDepth 100000 in
theorem does_yes (n : Int) (al : Option Addr) (ll cl : Nat) (I : Nat → BI) (rl : Option Addr) (rm rc : Nat) (Z : Nat → Int) (ul : Option Addr) (um uc : Nat) (U : Nat → Int) (w : World) (h1 : 2 ≤ n) (h2 : n ≤ 32768) (hl : ll ≤ maxLen) (hI : BlocksIn w w.heap.size al ll I) (hZ : WS w rl rm rc Z) (hrm : rm ≤ maxLen) (hU : WS w ul um uc U) (hum : um ≤ maxLen) :
    Calls Try.prog 3 #[.int .i64 n, .slice al ll cl, .slice rl rm rc, .slice ul um uc] w fun e w' => e = .returned (.bool true) ∧ Below w.heap.size w w' := by
  have HI : Hid _ := hI
  have HZ : Hid _ := hZ
  have HU : Hid _ := hU
  have HL : Hid _ := hl
  have HRM : Hid _ := hrm
  have HUM : Hid _ := hum
  clear hI hZ hl hrm hU hum
  go_enter Try.func3, Try.ntmps3
  go_wp2_with fail
  refine (awake3_any _).mono ?_
  rintro e w0 ⟨rfl, b0⟩
  go_wp2_with fail
  refine (lay_yes n al ll cl I _ h1 h2 HL.out (BlocksIn.mono (BlocksIn.below (Bd := w.heap.size) HI.out b0) b0.size)).mono ?_
  rintro e w1 ⟨p, rb, r, a, cap, V, rfl, h3, b1, j1, j2, j3, j4, j5⟩
  have hs0 := b0.size
  have HR : Hid _ := h3.bo.rep
  have hB := b0.trans (b1.mono hs0)
  have l2 : w.heap.size ≤ p.h := by omega
  have l3 : w.heap.size ≤ p.c := by omega
  have l4 : w.heap.size ≤ p.b := by omega
  have l5 : w.heap.size ≤ rb := by omega
  have HZ1 : Hid (WS w1 rl rm rc Z) := HZ.out.below hB
  have HLO : Hid _ := HZ.out.lo
  have HHI : Hid _ := HZ.out.hi
  have HPR : Hid (p.h < w1.heap.size ∧ p.c < w1.heap.size ∧ p.b < w1.heap.size ∧ rb < w1.heap.size) := ⟨lt_of_some h3.ar.hh, h3.ar.hc.lt, h3.ar.hb.lt, lt_of_some h3.bo.rf.hr⟩
  have HOWN : Hid (∀ q, w1.heap.size ≤ q → ¬ p.own q ∧ q ≠ rb) := fun q hq => by
    obtain ⟨i1, i2, i3, i4⟩ := HPR.out
    refine ⟨fun hs' => ?_, by omega⟩
    rcases hs' with e | e | e <;> omega
  clear b0 b1 j1 j2 j3 j4 j5 hs0 HZ HI
  generalize layB n.toNat (min ll 60) I (min ll 60) = s at *
  obtain ⟨mb, hmb⟩ : ∃ mb, mb = r.L.length := ⟨_, rfl⟩
  have HMB : Hid _ := hmb
  clear hmb
  go_wp2_with fail
  refine (words_any mb _ h3.ar HR.out HMB.out HZ1.out HRM.out).mono ?_
  rintro e w2 ⟨g, cg, rfl, own2, hg2, b2⟩
  have h4 := two_below h3 b2
  have hB2 := hB.trans (b2.mono hB.size)
  have ws2 := rng_words (c := cg) HLO.out HHI.out own2
  have hM : min rm 60 ≤ 60 := by omega
  have hs2 := b2.size
  clear h3 hB b2 HZ1 HLO HHI HRM HL HMB
  generalize hX : (fun i => wordV (Z i) mb (blkW s r)) = X at ws2 own2
  clear hX
  generalize min rm 60 = M at *
  have HXR : Hid (∀ i, i < M → 0 ≤ X i ∧ X i ≤ 18446744073709551615) := fun i hi => ⟨ws2.lo i hi, ws2.hi i hi⟩
  have HCE : Hid (∀ j, j < M → ∃ ad, some (Addr.mk g 0 none) = some ad ∧ (w2.alloc (.cells #[] 49)).cell? (ad.add j) = some (.int .u64 (X j))) := fun j hj => (ws2.below (below_alloc w2 (.cells #[] 49))).cell j hj
  have H4 := hidden h4
  have HO2 := hidden own2
  have HB2 := hidden hB2
  have HG2 := hidden hg2
  have HS2 := hidden hs2
  clear ws2 h4 own2 hB2 hg2 hs2
  go_wp2_with (at_builtin; refine wpList_append_words rfl (.tmp 34) (.tmp 35) rfl w2.heap.size rfl (blk_alloc_new _ _) (some ⟨g, 0, none⟩) M cg rfl X (fun h => by cases h) HCE.out (by omega) ?_; intro g3 c3 w3 own3 gr3 hg3; have B3 := hidden (below_row (Below.refl _ _) (Nat.le_refl _) gr3 (Nat.le_refl _)); have O3 := hidden own3; clear own3 gr3 hg3)
  have h5 := two_below H4.out B3.out
  have hB3 := HB2.out.trans (B3.out.mono HB2.out.size)
  have O23 := hidden (HO2.out.frame (S := fun _ => False) (Only.of_below B3.out) id)
  refine (collect_as _ h5.ar HR.out (own_rng (c := c3) O3.out HXR.out) (by omega)).mono ?_
  rintro e w4 ⟨gx, s4, rfl, ownx, hgx, hA4, hR4, o4⟩
  have HX1 : Hid (∀ i, i < M → 0 ≤ collW s r (listX X M) (X i) ∧ collW s r (listX X M) (X i) ≤ 18446744073709551615) := coll_rng h5.ar HR.out HXR.out
  have H5 := hidden h5
  have HB4 := hidden (hB3.trans (o4.under hB3.size l2 l3 l4))
  have O24 := hidden (O23.out.frame o4 (HOWN.out g HG2.out).1)
  have HGX : Hid (w1.heap.size ≤ gx) := Nat.le_trans HS2.out (Nat.le_trans B3.out.size hgx)
  have HOX := hidden ownx
  have HA4 := hidden hA4
  have HR4 := hidden hR4
  have HO4 := hidden o4
  have HMX : Hid (M ≤ maxLen) := by show _ ≤ _; unfold maxLen; omega
  clear h5 hB3 ownx hgx hA4 hR4 o4 HCE H4 HO2 HB2 O3 O23
  go_wp2_with (first
    | (go_at_call 14; refine (rcollect_any _ (H5.out.left HO4.out) (own_rng (c := cg) O24.out HXR.out) (by omega)).mono ?_; rintro e w5 ⟨go5, co5, aN, capN, VN, rfl, rf5, own5, hg5, o5⟩; have T5 := hidden (two_again H5.out HO4.out HA4.out HR4.out rf5 o5); have OX5 := hidden (HOX.out.frame o5 (HOWN.out gx HGX.out).2); have OY5 := hidden own5; have HB5 := hidden (HB4.out.trans (only_rb_below o5 HB4.out.size l5)); have S5 := hidden (Nat.le_trans HS2.out (Nat.le_trans B3.out.size (Nat.le_trans HO4.out.size o5.size))); clear rf5 own5 hg5 o5)
    | (go_at_call 13; refine (equal_yes _ (own_rng (c := M) OX5.out HX1.out) (own_rng (c := co5) OY5.out HX1.out) HMX.out (fun i _ => rfl)).mono ?_; rintro e w6 ⟨rfl, k6, hw6⟩; have T6 := hidden (two_drew3 hw6 T5.out); have OX6 := hidden (own_is OX5.out hw6); have HB6 := hidden (below_drew3 hw6 HB5.out); clear hw6)
    | (go_at_call 15; refine (same3_any _ T6.out).mono ?_; rintro e w7 ⟨rfl, b7⟩; have T7 := hidden (two_below T6.out b7); have OX7 := hidden (OX6.out.frame (S := fun _ => False) (Only.of_below b7) id); have HB7 := hidden (HB6.out.trans (b7.mono HB6.out.size)); clear b7))
  have HU7 : Hid (WS w7 ul um uc U) := HU.out.below HB7.out
  have HULO : Hid _ := HU.out.lo
  have HUHI : Hid _ := HU.out.hi
  clear HU HXR O24 HOX HA4 HO4 H5 HB4 T5 OX5 OY5 HB5 T6 OX6 HB6 HMX
  have HGX7 := HGX
  generalize hX1 : (fun i => collW s r (listX X M) (X i)) = X1 at OX7
  have HX1' : Hid (∀ i, i < M → 0 ≤ X1 i ∧ X1 i ≤ 18446744073709551615) := by rw [← hX1]; exact HX1.out
  clear hX1 HX1
  generalize collR s r (listX X M) = r4 at *
  obtain ⟨mb4, hmb4⟩ : ∃ mb4, mb4 = r4.L.length := ⟨_, rfl⟩
  have HMB4 : Hid _ := hmb4
  clear hmb4 HR
  refine (words_row mb4 _ T7.out.ar HR4.out HMB4.out HU7.out HUM.out).mono ?_
  rintro e w8 ⟨g8, c8, rfl, row8, b8⟩
  have B8 := hidden b8
  have OX8 := hidden (OX7.out.frame (S := fun _ => False) (Only.of_below b8) id)
  have hM8 : min um 60 ≤ 60 := by omega
  have HWR : Hid (∀ i, i < min um 60 → 0 ≤ wordV (U i) mb4 (blkW s4 r4) ∧ wordV (U i) mb4 (blkW s4 r4) ≤ 18446744073709551615) := fun i hi => ⟨wordV_lo (HULO.out i (by omega)), wordV_hi (HUHI.out i (by omega))⟩
  have R8 := hidden row8
  have S8 := hidden b8.size
  have HG8 := hidden (own_ge row8 g8 rfl)
  have HS71 : Hid (w1.heap.size ≤ w7.heap.size) := Nat.le_trans HGX.out (Nat.le_of_lt OX7.out.lt)
  clear row8 b8 OX7 HU7 HULO HUHI HUM HMB4
  generalize hX8 : (fun j => wordV (U j) mb4 (blkW s4 r4)) = X8 at *
  have R8' : Hid (w8.ownsRow w7.heap.size 49 1 (.slice (some ⟨g8, 0, none⟩) (min um 60) c8) (min um 60) ((List.range (min um 60)).map fun j => .int .u64 (X8 j))) := by rw [← hX8]; exact R8.out
  have HWR' : Hid (∀ i, i < min um 60 → 0 ≤ X8 i ∧ X8 i ≤ 18446744073709551615) := by rw [← hX8]; exact HWR.out
  clear R8 HWR hX8
  generalize min um 60 = M8 at *
  go_wp2_with (at_builtin; refine append_more rfl (.tmp 52) (.tmp 53) rfl w7.heap.size g8 M8 c8 X8 rfl R8'.out gx M M rfl X1 OX8.out (by omega) S8.out ?_; intro g9 c9 w9 own9 gr9 hg9; have O9 := hidden own9; have B9 := hidden (below_grown B8.out gr9 HG8.out); have G9 := hidden hg9; clear own9 gr9 hg9)
  have HJR : Hid (∀ i, i < M8 + M → 0 ≤ joinX M8 X8 X1 i ∧ joinX M8 X8 X1 i ≤ 18446744073709551615) := fun i hi => by
    unfold joinX
    split
    · rename_i h; exact HWR'.out i h
    · exact HX1'.out (i - M8) (by omega)
  have h9 := two_below T7.out B9.out
  have HB9 := hidden (HB7.out.trans (B9.out.mono HB7.out.size))
  have hMM : M8 + M ≤ 120 := by omega
  have HMX : Hid (M8 + M ≤ maxLen) := by show _ ≤ _; unfold maxLen; omega
  clear T7 HB7 B8 S8 HG8 OX8 R8' HWR' HX1'
  generalize joinX M8 X8 X1 = X9 at *
  generalize M8 + M = M9 at *
  refine (collect_as _ h9.ar HR4.out (own_rng (c := c9) O9.out HJR.out) (by omega)).mono ?_
  rintro e w10 ⟨gy, s10, rfl, owny, hgy, hA10, hR10, o10⟩
  have HX2 : Hid (∀ i, i < M9 → 0 ≤ collW s4 r4 (listX X9 M9) (X9 i) ∧ collW s4 r4 (listX X9 M9) (X9 i) ≤ 18446744073709551615) := coll_rng h9.ar HR4.out HJR.out
  have H9 := hidden h9
  have HB10 := hidden (HB9.out.trans (o10.under HB9.out.size l2 l3 l4))
  have O10 := hidden (O9.out.frame o10 (HOWN.out g9 (Nat.le_trans HS71.out G9.out)).1)
  have HGY : Hid (w1.heap.size ≤ gy) := Nat.le_trans HS71.out (Nat.le_trans B9.out.size hgy)
  have HOY := hidden owny
  have HA10 := hidden hA10
  have HR10 := hidden hR10
  have HO10 := hidden o10
  clear h9 HB9 owny hgy hA10 hR10 o10 O9
  go_wp2_with (first
    | (go_at_call 14; refine (rcollect_any _ (H9.out.left HO10.out) (own_rng (c := c9) O10.out HJR.out) (by omega)).mono ?_; rintro e w11 ⟨go11, co11, aN11, capN11, VN11, rfl, rf11, own11, hg11, o11⟩; have T11 := hidden (two_again H9.out HO10.out HA10.out HR10.out rf11 o11); have OX11 := hidden (HOY.out.frame o11 (HOWN.out gy HGY.out).2); have OY11 := hidden own11; have HB11 := hidden (HB10.out.trans (only_rb_below o11 HB10.out.size l5)); clear rf11 own11 hg11 o11)
    | (go_at_call 13; refine (equal_yes _ (own_rng (c := M9) OX11.out HX2.out) (own_rng (c := co11) OY11.out HX2.out) HMX.out (fun i _ => rfl)).mono ?_; rintro e w12 ⟨rfl, k12, hw12⟩; have T12 := hidden (two_drew3 hw12 T11.out); have HB12 := hidden (below_drew3 hw12 HB11.out); clear hw12)
    | (go_at_call 15; refine (same3_any _ T12.out).mono ?_; rintro e w13 ⟨rfl, b13⟩; have HB13 := hidden (HB12.out.trans (b13.mono HB12.out.size)); clear b13))
  go_ret
  exact ⟨rfl, HB13.out⟩
end Go.Proofs.Ytkgocnmeedkieaa
