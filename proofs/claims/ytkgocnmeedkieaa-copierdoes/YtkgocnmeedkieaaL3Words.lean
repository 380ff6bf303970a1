/-
  Layer 3's statements: what their helpers equal, word and words tell, by plain arithmetic. Condition: the slices lie in memory.
-/
import Derived.Test.YtkgocnmeedkieaaBlocks
import Derived.Test.YtkgocnmeedkieaaRefWords
namespace Go.Proofs.Ytkgocnmeedkieaa
open Go.ChangeShapes Go.WideShapes Go.ChangeAt Go.RowKit Go.Deep
set_option linter.unusedVariables false
set_option maxHeartbeats 1000000

/-- A slice value of m words lies in memory, wherever it came from. -/
structure WS (w : World) (al : Option Addr) (m c : Nat) (X : Nat → Int) : Prop where
  nil : al = none → m = 0 ∧ c = 0
  cell : ∀ i, i < m → ∃ ad, al = some ad ∧ w.cell? (ad.add i) = some (.int .u64 (X i))
  lo : ∀ i, i < m → 0 ≤ X i
  hi : ∀ i, i < m → X i ≤ 18446744073709551615
theorem add_block (a : Addr) (i : Nat) : (a.add i).block = a.block := by unfold Addr.add; split <;> rfl
theorem cell_lt {w : World} {x : Addr} {v : Value} (hc : w.cell? x = some v) : x.block < w.heap.size := by
  by_cases hb : x.block < w.heap.size
  · exact hb
  · exfalso
    unfold World.cell? at hc
    rw [Array.getElem?_eq_none (by omega)] at hc
    cases hc
theorem WS.frame {w w' : World} {al : Option Addr} {m c : Nat} {X : Nat → Int} {S : Nat → Prop} (h : WS w al m c X) (k : Only S w w') (hs : ∀ ad, al = some ad → ad.block < w.heap.size → ¬ S ad.block) : WS w' al m c X := by
  refine ⟨h.nil, fun i hi => ?_, h.lo, h.hi⟩
  obtain ⟨ad, e, hc⟩ := h.cell i hi
  have hl := cell_lt hc
  refine ⟨ad, e, (World.cell?_of_block (w := w) (k.block _ hl ?_)).trans hc⟩
  rw [add_block] at hl ⊢
  exact hs ad e hl
theorem WS.below {w w' : World} {al : Option Addr} {m c : Nat} {X : Nat → Int} (h : WS w al m c X) (k : Below w.heap.size w w') : WS w' al m c X :=
  h.frame (S := fun _ => False) (Only.of_below k) (fun _ _ _ => id)
theorem WS.drewN {w : World} {al : Option Addr} {m c : Nat} {X : Nat → Int} (h : WS w al m c X) (n : Nat) : WS (w.drewN n) al m c X := ⟨h.nil, h.cell, h.lo, h.hi⟩
theorem ws_own {w : World} {g m c : Nat} {X : Nat → Int} (h : Own w g m X) (lo : ∀ i, i < m → 0 ≤ X i) (hi : ∀ i, i < m → X i ≤ 18446744073709551615) : WS w (some ⟨g, 0, none⟩) m c X := by
  refine ⟨fun h => (by cases h), fun i hi' => ⟨_, rfl, ?_⟩, lo, hi⟩
  have e : (Addr.mk g 0 none).add i = ⟨g, i, none⟩ := by
    cases i with
    | zero => rfl
    | succ i => simp [Addr.add]
  rw [e]; exact h.cell hi'
theorem equal_yes {a1 a2 : Option Addr} {m c1 c2 : Nat} {X Y : Nat → Int} (w : World) (h1 : WS w a1 m c1 X) (h2 : WS w a2 m c2 Y) (hm : m ≤ maxLen) (he : ∀ i, i < m → X i = Y i) :
    Calls Try.prog 13 #[.slice a1 m c1, .slice a2 m c2] w fun e w' => e = .returned (.bool true) ∧ ∃ k, w' = w.drewN k := by
  unfold maxLen at hm
  have HE : Hid _ := he
  clear he
  go_enter Try.func13, Try.ntmps13
  go_wp2
  go_loopw [13] (fun i wr => ∃ j k : Nat, j ≤ m ∧ i = .int .i64 j ∧ wr = w.drewN k) (fun i _ => m - (intOf i).toNat)
  case atStart => exact ⟨0, 0, Nat.zero_le _, rfl, rfl⟩
  case round =>
    obtain ⟨j, k, hj, rfl, hw⟩ := hrel
    have HW : Hid _ := hw
    by_cases hlt : j < m
    · obtain ⟨x, rfl, hx⟩ := h1.cell j hlt
      obtain ⟨y, rfl, hy⟩ := h2.cell j hlt
      have hx' : wr.cell? (x.add j) = some (.int .u64 (X j)) := by rw [hw]; exact hx
      have hy' : wr.cell? (y.add j) = some (.int .u64 (X j)) := by rw [hw, HE.out j hlt]; exact hy
      have x1 : (0 : Int) ≤ (j : Int) := by omega
      have x2 : (j : Int) < (m : Int) := by omega
      clear hw hx hy
      go_wp2
      go_quiet (fail)
      go_wp2
      go_roundw
      case rel => exact ⟨j + 1, _, by omega, by go_num, by rw [HW.out]; exact World.drewN_drewN _ _ _⟩
      case measure => simp [intOf]; omega
    · clear hw
      go_wp2
      go_ret
      exact ⟨rfl, k, HW.out⟩
/-- What a number stands for. -/
def wordV (x : Int) (m : Nat) (X : Nat → Int) : Int := if 1048576 ≤ x ∧ x < 1048640 then headW 201 (x - 1048576) else if 1048576 ≤ x ∨ m = 0 then x else (X ((x % 64) % m).toNat + 2 * (x / 64 % 8)) % 18446744073709551616
theorem word3_any {al : Option Addr} {m c : Nat} {X : Nat → Int} (x : Int) (w : World) (h : WS w al m c X) (hm : m ≤ maxLen) (h0 : 0 ≤ x) (h1 : x ≤ 18446744073709551615) :
    Calls Try.prog 33 #[.int .u64 x, .slice al m c] w fun e w' => e = .returned (.int .u64 (wordV x m X)) ∧ w' = w := by
  unfold maxLen at hm
  by_cases c1 : 1048576 ≤ x
  · by_cases c2 : x < 1048640
    · have HV : Hid (wordV x m X = headW 201 (x - 1048576)) := by show _ = _; unfold wordV; rw [if_pos ⟨c1, c2⟩]
      go_enter Try.func33, Try.ntmps33
      go_wp2_with (go_at_call 58; refine (rhead_any _ _ _ (by omega) (by omega) (by omega) (by omega)).mono ?_; rintro e w' ⟨rfl, rfl⟩)
      all_goals go_ret
      all_goals exact ⟨ret_int HV.out.symm, rfl⟩
    · have HV : Hid (wordV x m X = x) := by show _ = _; unfold wordV; rw [if_neg (by omega), if_pos (Or.inl c1)]
      go_enter Try.func33, Try.ntmps33
      go_wp2
      all_goals go_ret
      all_goals exact ⟨ret_int HV.out.symm, rfl⟩
  · by_cases c3 : m = 0
    · have HV : Hid (wordV x m X = x) := by show _ = _; unfold wordV; rw [if_neg (by omega), if_pos (Or.inr c3)]
      have C3 : ((m : Int) == 0) = true := by rw [beq_iff_eq]; omega
      clear c3
      go_enter Try.func33, Try.ntmps33
      go_wp2
      all_goals go_ret
      all_goals exact ⟨ret_int HV.out.symm, rfl⟩
    · have HV : Hid (wordV x m X = (X ((x % 64) % m).toNat + 2 * (x / 64 % 8)) % 18446744073709551616) := by show _ = _; unfold wordV; rw [if_neg (by omega), if_neg (by omega)]
      have C3 : ((m : Int) == 0) = false := beq_eq_false_iff_ne.2 (by omega)
      have r0 : 0 ≤ (x % 64) % (m : Int) := Int.emod_nonneg _ (by omega)
      have r1 : (x % 64) % (m : Int) < m := Int.emod_lt_of_pos _ (by omega)
      have hlt : ((x % 64) % (m : Int)).toNat < m := by omega
      obtain ⟨y, rfl, hy⟩ := h.cell _ hlt
      have lo := h.lo _ hlt
      have hi := h.hi _ hlt
      have mp : 0 < m := by omega
      clear c3
      go_enter Try.func33, Try.ntmps33
      go_wp2
      all_goals go_ret
      all_goals exact ⟨ret_int (by rw [HV.out, IntKind.wrap_u64]), rfl⟩
theorem wordV_lo {x : Int} {m : Nat} {X : Nat → Int} (h0 : 0 ≤ x) : 0 ≤ wordV x m X := by
  unfold wordV
  split
  · unfold headW; split; omega; exact intW_lo _
  · split <;> omega
theorem wordV_hi {x : Int} {m : Nat} {X : Nat → Int} (h1 : x ≤ 18446744073709551615) : wordV x m X ≤ 18446744073709551615 := by
  unfold wordV
  split
  · unfold headW; split; omega; exact intW_hi _
  · split <;> omega
theorem ws_any {w w' : World} {ba : Option Addr} {m bc : Nat} {X : Nat → Int} (u1 : ba = none → m = 0 ∧ bc = 0) (u2 : ∀ ad, ba = some ad → ∃ g, ad = ⟨g, 0, none⟩ ∧ w.heap.size ≤ g ∧ Own w' g m X) (lo : ∀ i, i < m → 0 ≤ X i) (hi : ∀ i, i < m → X i ≤ 18446744073709551615) : WS w' ba m bc X := by
  cases ba with
  | none => exact ⟨u1, fun i h => by have := (u1 rfl).1; omega, lo, hi⟩
  | some ad =>
    obtain ⟨g, rfl, _, ho⟩ := u2 ad rfl
    exact ws_own ho lo hi
theorem blkW_lo (s : St) (r : RS) (i : Nat) : 0 ≤ blkW s r i := by unfold blkW; omega
theorem blkW_hi {w : World} {p : Pl} {s : St} {r : RS} (h : Ar w p s) (hr : Rep s r) (i : Nat) : blkW s r i ≤ 18446744073709551615 := by
  have := lenB_take_all r.L i; have := hr.top; have := h.t2; have := h.n2; have := h.b1
  unfold blkW; omega
theorem words_any {p : Pl} {s : St} {r : RS} {al : Option Addr} {m c : Nat} {Z : Nat → Int} (mb : Nat) (w : World) (h : Ar w p s) (hr : Rep s r) (hmb : mb = r.L.length) (hz : WS w al m c Z) (hm : m ≤ maxLen) :
    Calls Try.prog 11 #[.slice al m c, .pointer (some ⟨p.a, 0, none⟩)] w fun e w' => ∃ g cap, e = .returned (.slice (some ⟨g, 0, none⟩) (min m 60) cap) ∧ Own w' g (min m 60) (fun i => wordV (Z i) mb (blkW s r)) ∧ w.heap.size ≤ g ∧ Below w.heap.size w w' := by
  have hml : mb ≤ maxLen := by have := lenB_length' r.L; have := hr.top; have := h.t2; have := h.n2; unfold maxLen; omega
  have HML : Hid _ := hml
  unfold maxLen at hm
  have HZ : Hid _ := hz
  have LO : ∀ i, i < mb → 0 ≤ blkW s r i := fun i _ => blkW_lo s r i
  have HI : ∀ i, i < mb → blkW s r i ≤ 18446744073709551615 := fun i _ => blkW_hi h hr i
  have HLO : Hid _ := LO
  have HHI : Hid _ := HI
  clear LO HI hml hz
  go_enter Try.func11, Try.ntmps11
  go_wp2_with fail
  refine (blocks_any mb _ h hr hmb).mono ?_
  rintro e w1 ⟨ba, bc, rfl, u1, u2, b1⟩
  have hB : WS w1 ba mb bc (blkW s r) := ws_any u1 u2 HLO.out HHI.out
  have hz1 : WS w1 al m c Z := WS.below HZ.out b1
  have hsz := b1.size
  clear u1 u2 hr hmb h
  go_wp2
  have hB2 : WS (w1.alloc (.cells #[] 49)) ba mb bc (blkW s r) := hB.below ((Below.refl _ _).alloc (Nat.le_refl _) _)
  have hz2 : WS (w1.alloc (.cells #[] 49)) al m c Z := hz1.below ((Below.refl _ _).alloc (Nat.le_refl _) _)
  have hown : (w1.alloc (.cells #[] 49)).ownsRow w1.heap.size 49 1 (.slice (some ⟨w1.heap.size, 0, none⟩) 0 0) 0 ((List.range 0).map fun j => .int .u64 (wordV (Z j) mb (blkW s r))) := ⟨rfl, .inr ⟨w1.heap.size, 0, #[], rfl, Nat.le_refl _, blk_alloc_new _ _, Nat.le_refl _, Nat.zero_le _, rfl, rfl⟩⟩
  have hb2 : Below w1.heap.size w1 (w1.alloc (.cells #[] 49)) := (Below.refl _ _).alloc (Nat.le_refl _) _
  have hs2 : w1.heap.size ≤ (w1.alloc (.cells #[] 49)).heap.size := by rw [nblk_alloc]; omega
  have HB1 : Hid _ := b1
  generalize w1.alloc (.cells #[] 49) = w2 at *
  go_loopw [6, 7] (fun v i wr => ∃ (k g cp : Nat), k ≤ m ∧ k ≤ 60 ∧ i = .int .i64 k ∧ v = .slice (some ⟨g, 0, none⟩) k cp ∧ wr.ownsRow w1.heap.size 49 1 v k ((List.range k).map fun j => .int .u64 (wordV (Z j) mb (blkW s r))) ∧ Below w1.heap.size w1 wr) (fun _ i _ => 60 - (intOf i).toNat)
  case atStart => exact ⟨0, w1.heap.size, 0, by omega, by omega, rfl, rfl, hown, hb2⟩
  case round =>
    clear hown hb2 hB2 hz2 hs2
    obtain ⟨k, g, cp, hk, hk6, rfl, rfl, ho, hb⟩ := hrel
    have hzr := hz1.below hb
    have hBr := hB.below hb
    by_cases hlt : k < m
    · by_cases h60 : k < 60
      · obtain ⟨x, rfl, hx⟩ := hzr.cell k hlt
        have z0 := hzr.lo k hlt
        have z1 := hzr.hi k hlt
        have q0 := hb.size
        have HBR : Hid _ := hBr
        clear hzr hBr
        go_wp2_with (first | (go_at_call 33; refine (word3_any _ _ HBR.out HML.out (by omega) (by omega)).mono ?_; rintro e w' ⟨rfl, hw'⟩; rw [hw']; clear hw' w') | (at_builtin; refine wpList_append_one rfl (.tmp 21) (.tmp 28) rfl w1.heap.size _ k _ rfl (ho.alloc _) ⟨wr.heap.size, 0, none⟩ 1 (wordV (Z k) mb (blkW s r)) rfl (by simp [Addr.add]) (by omega) (by rw [nblk_alloc]; omega) ?_; intro g3 cp3 w3 ho3 gr hg; have hb3 := (hb.alloc q0 _).grown gr (by rw [nblk_alloc]; omega) (own_ge' ho); clear gr))
        go_roundw
        case rel => exact ⟨k + 1, g3, cp3, by omega, by omega, by go_num, rfl, by rw [List.range_succ, List.map_append, List.map_singleton]; exact ho3, hb3⟩
        case measure => simp [intOf]; omega
      · have e : k = min m 60 := by omega
        have HEK : Hid _ := e
        clear e
        go_wp2
        go_ret
        rw [← HEK.out]
        obtain ⟨o1, o2⟩ := own_of_row ho
        exact ⟨g, cp, rfl, o1, by omega, HB1.out.trans (hb.mono hsz)⟩
    · have e : k = min m 60 := by omega
      have HEK : Hid _ := e
      clear e
      go_wp2
      go_ret
      rw [← HEK.out]
      obtain ⟨o1, o2⟩ := own_of_row ho
      exact ⟨g, cp, rfl, o1, by omega, HB1.out.trans (hb.mono hsz)⟩
end Go.Proofs.Ytkgocnmeedkieaa
