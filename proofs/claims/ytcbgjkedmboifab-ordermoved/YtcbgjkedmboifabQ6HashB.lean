/-
  Layer 6, the program's hash: what a plain word adds to it, and its fields. Condition: the arena lies in memory, in one state with a list of blocks.
-/
import Derived.Test.YtcbgjkedmboifabQ6HashA
import Derived.Test.YtcbgjkedmboifabQ6Put
namespace Go.Proofs.Ytcbgjkedmboifab
open Go.ChangeShapes Go.WideShapes Go.ChangeAt Go.RowKit Go.Deep
set_option linter.unusedVariables false
set_option maxHeartbeats 1000000

variable {w w' : World} {p : Pl} {s : St} {r : RS}
theorem hasFields_int (x : Int) (w : World) (x0 : 0 ≤ x) (x1 : x ≤ 18446744073709551615) (hi : isIntW x = true) :
    Calls Try.prog 28 #[.pointer (some ⟨p.a, 0, none⟩), .int .u64 x] w fun e w' => e = .returned (.bool false) ∧ ∃ m, w' = w.drewN m := by
  have HI := hidden hi
  clear hi
  go_enter Try.func28, Try.ntmps28
  go_wp2_with (go_at_call 38; refine (isIntP_is x _ x0 x1 HI.out).mono ?_; rintro e w' ⟨rfl, hw'⟩; rw [hw']; clear hw' w')
  all_goals go_ret
  all_goals exact ⟨rfl, 0, rfl⟩
theorem hasFields_blk {b : Bool} (x : Int) (w : World) (h : Ar w p s) (x0 : 0 ≤ x) (x1 : x ≤ 18446744073709551615) (hi : isIntW x = false) (ht : (s.tag x == 202) = b) :
    Calls Try.prog 28 #[.pointer (some ⟨p.a, 0, none⟩), .int .u64 x] w fun e w' => e = .returned (.bool (!b)) ∧ ∃ m, w' = w.drewN m := by
  have HI := hidden hi
  have HT := hidden ht
  clear hi ht
  go_enter Try.func28, Try.ntmps28
  go_wp2_with (first | (go_at_call 38; refine (isIntP_is x _ x0 x1 HI.out).mono ?_; rintro e w' ⟨rfl, hw'⟩; rw [hw']; clear hw' w') | (go_at_call 45; refine (isText_is x _ h x0 x1 HT.out).mono ?_; rintro e w' ⟨rfl, m, rfl⟩))
  all_goals go_ret
  all_goals exact ⟨rfl, _, rfl⟩
theorem take_int {v : Int} (h x : Int) (w : World) (h0 : 0 ≤ h) (h1 : h ≤ 18446744073709551615) (x0 : 0 ≤ x) (x1 : x ≤ 18446744073709551615) (hi : isIntW x = true) (e : mixW h (numW x) = v) :
    Calls Try.prog 27 #[.int .u64 h, .pointer (some ⟨p.a, 0, none⟩), .int .u64 x] w fun e w' => e = .returned (.int .u64 v) ∧ Below w.heap.size w w' := by
  have HI := hidden hi
  have HE := hidden e
  clear hi e
  go_enter Try.func27, Try.ntmps27
  go_wp2_with (first | (go_at_call 38; refine (isIntP_is x _ x0 x1 HI.out).mono ?_; rintro e w' ⟨rfl, hw'⟩; rw [hw']; clear hw' w') | (go_at_call 59; refine (add_any h x _ h0 h1 x0 x1 HE.out).mono ?_; rintro e w' ⟨rfl, hw'⟩; rw [hw']; clear hw' w'))
  all_goals go_ret
  all_goals exact ⟨rfl, Below.refl _ _⟩
theorem take_blk {v t z : Int} (h x : Int) (w : World) (hA : Ar w p s) (h0 : 0 ≤ h) (h1 : h ≤ 18446744073709551615) (x0 : 0 ≤ x) (x1 : x ≤ 18446744073709551615) (hi : isIntW x = false) (ht : s.tag x = t) (hz : s.size x = z) (t0 : 0 ≤ t) (t1 : t ≤ 202) (tn : t ≠ 202) (z0 : 0 ≤ z) (z1 : z ≤ 4096) (e : mixW h (5 * t + z) = v) :
    Calls Try.prog 27 #[.int .u64 h, .pointer (some ⟨p.a, 0, none⟩), .int .u64 x] w fun e w' => e = .returned (.int .u64 v) ∧ Below w.heap.size w w' := by
  have HI := hidden hi
  have HE := hidden e
  have HT := hidden ht
  have HZ := hidden hz
  have HTB : Hid ((s.tag x == 202) = false) := by show _ = _; rw [ht]; exact beq_eq_false_iff_ne.2 tn
  clear hi e ht hz
  go_enter Try.func27, Try.ntmps27
  go_wp2_with (first
    | (go_at_call 38; refine (isIntP_is x _ x0 x1 HI.out).mono ?_; rintro e w' ⟨rfl, hw'⟩; rw [hw']; clear hw' w')
    | (go_at_call 45; refine (isText_is x _ hA x0 x1 HTB.out).mono ?_; rintro e w2 ⟨rfl, m2, rfl⟩)
    | (go_at_call 42; refine (tagv_is x _ (hA.drewN _) x0 x1 HT.out).mono ?_; rintro e w' ⟨rfl, m3, rfl⟩)
    | (go_at_call 44; refine (sizev_is x _ (hA.drewN _) x0 x1 HZ.out).mono ?_; rintro e w' ⟨rfl, m4, rfl⟩)
    | (go_at_call 25; refine (int_any _ _ (by omega) (by omega)).mono ?_; rintro e w' ⟨rfl, hw'⟩; rw [hw']; clear hw' w')
    | (go_at_call 59; refine (addInt_any h _ _ h0 h1 HE.out).mono ?_; rintro e w' ⟨rfl, hw'⟩; rw [hw']; clear hw' w'))
  all_goals go_ret
  all_goals exact ⟨rfl, below_drews w _⟩
theorem extract_ints (t : ByteArray) (n : Nat) : intsS (t.extract 0 n) = (intsS t).take n := by
  unfold intsS bytesS bytesI
  rw [ByteArray.data_extract]
  simp [List.map_take]
set_option maxRecDepth 20000 in
theorem take_txt {v : Int} {l : List UInt8} (h x : Int) (w : World) (hA : Ar w p s) (hr : Rep s r) (h0 : 0 ≤ h) (h1 : h ≤ 18446744073709551615) (x0 : 0 ≤ x) (x1 : x ≤ 18446744073709551615) (hi : isIntW x = false) (ht : s.tag x = 202) (htx : textAt s r x = (some l, 0)) (hl : l.length < 32768) (e : ((bytesI l).take 64).foldl mixW (mixW h 3) = v) :
    Calls Try.prog 27 #[.int .u64 h, .pointer (some ⟨p.a, 0, none⟩), .int .u64 x] w fun e w' => e = .returned (.int .u64 v) ∧ Below w.heap.size w w' := by
  have HI := hidden hi
  have HTB : Hid ((s.tag x == 202) = true) := by show _ = _; rw [ht]; rfl
  have HRD := hidden (fun w0 (h0 : Ar w0 p s) => read5_any x w0 h0 hr x0 x1)
  rw [htx] at HRD
  simp only [Option.getD_some] at HRD
  obtain ⟨h3, hh3⟩ : ∃ v, mixW h 3 = v := ⟨_, rfl⟩
  obtain ⟨g0, g1⟩ := mixW_rng h 3
  rw [hh3] at e g0 g1
  have H3 := hidden hh3
  rw [← ints_list l] at e
  obtain ⟨tt, htt⟩ : ∃ t, ByteArray.mk l.toArray = t := ⟨_, rfl⟩
  rw [htt] at e HRD
  have hts : tt.size < 32768 := by rw [← htt]; exact hl
  have HE := hidden e
  clear hi e ht htx hh3 htt hl
  go_enter Try.func27, Try.ntmps27
  go_upto_region 5 with (first
    | (go_at_call 38; refine (isIntP_is x _ x0 x1 HI.out).mono ?_; rintro e w' ⟨rfl, hw'⟩; rw [hw']; clear hw' w')
    | (go_at_call 45; refine (isText_is x _ hA x0 x1 HTB.out).mono ?_; rintro e w2 ⟨rfl, m2, rfl⟩)
    | (go_at_call 60; refine (HRD.out _ (hA.drewN _)).mono ?_; rintro e w3 ⟨rfl, hb3⟩; have B3 : Hid (Below w.heap.size w w3) := (below_drews w _).trans hb3; clear hb3))
  have HI3 : Hid (∃ i, intW 3 = i) := ⟨_, rfl⟩
  obtain ⟨i3, hi3⟩ := HI3.out
  have HINT : Hid (∀ w, Calls Try.prog 25 #[.int .i64 3] w fun e w' => e = .returned (.int .u64 i3) ∧ w' = w) := fun w => by rw [← hi3]; exact int_any 3 w (by omega) (by omega)
  have HADD : Hid (∀ w, Calls Try.prog 59 #[.int .u64 h, .int .u64 i3] w fun e w' => e = .returned (.int .u64 h3) ∧ w' = w) := fun w => by rw [← hi3]; exact addInt_any h 3 w h0 h1 H3.out
  clear hi3 HI3
  by_cases hc : tt.size ≤ 64
  · have hc2 : ¬ (64 : Int) < (tt.size : Int) := by omega
    have HBY : Hid (∀ w, Calls Try.prog 61 #[.int .u64 h3, .string tt] w fun e w' => e = .returned (.int .u64 v) ∧ w' = w) := fun w => by
      have := addBytes_any tt h3 w g0 g1 (by omega)
      have e2 := HE.out
      rw [List.take_of_length_le (by rw [intsS_len]; exact hc)] at e2
      rw [e2] at this
      exact this
    go_quiet (first | (go_at_call 25; exact Calls.quiet_of_same (HINT.out _)) | (go_at_call 59; exact Calls.quiet_of_same (HADD.out _)) | (go_at_call 61; exact Calls.quiet_of_same (HBY.out _)))
    go_wp2_with fail
    all_goals go_ret
    all_goals exact ⟨rfl, B3.out.trans ((below_drews _ _).mono B3.out.size)⟩
  · have hc2 : (64 : Int) < (tt.size : Int) := by omega
    have HBY : Hid (∀ w, Calls Try.prog 61 #[.int .u64 h3, .string (tt.extract 0 64)] w fun e w' => e = .returned (.int .u64 v) ∧ w' = w) := fun w => by
      have := addBytes_any (tt.extract 0 64) h3 w g0 g1 (by rw [ByteArray.size_extract]; omega)
      rw [extract_ints, HE.out] at this
      exact this
    go_quiet (first | (go_at_call 25; exact Calls.quiet_of_same (HINT.out _)) | (go_at_call 59; exact Calls.quiet_of_same (HADD.out _)) | (go_at_call 61; exact Calls.quiet_of_same (HBY.out _)))
    go_wp2_with fail
    all_goals go_ret
    all_goals exact ⟨rfl, B3.out.trans ((below_drews _ _).mono B3.out.size)⟩
/-- What a plain word adds. -/
theorem takeH_any (h x : Int) (w : World) (hA : Ar w p s) (hr : Rep s r) (h0 : 0 ≤ h) (h1 : h ≤ 18446744073709551615) (x0 : 0 ≤ x) (x1 : x ≤ 18446744073709551615) (hw : (ndW s r x).wrong = 0) :
    Calls Try.prog 27 #[.int .u64 h, .pointer (some ⟨p.a, 0, none⟩), .int .u64 x] w fun e w' => e = .returned (.int .u64 ((ndW s r x).mixed mixW h)) ∧ Below w.heap.size w w' := by
  rcases nd_ok hr x hw with ⟨hi, e⟩ | ⟨hi, k, b, hk, hf, hd, ⟨t, l, et, tt, e⟩ | ⟨t, e⟩⟩
  · exact take_int h x w h0 h1 x0 x1 hi (by rw [e]; rfl)
  · obtain ⟨tx, zx, _, _⟩ := blk_says hr hk hf
    exact take_txt h x w hA hr h0 h1 x0 x1 hi (tx.trans t) tt (text_short2 hr tt) (by rw [e]; rfl)
  · obtain ⟨tx, zx, _, hz⟩ := blk_says hr hk hf
    have htag := hr.tag k b hk
    exact take_blk h x w hA h0 h1 x0 x1 hi tx zx htag.1 htag.2.1 t (by omega) (by omega) (by rw [e]; rfl)
theorem own_made6 (w : World) (n : Nat) : Own (w.alloc (.cells (madeCells #[.int .u64 0] n) 30)) w.heap.size n (fun _ => 0) := by
  obtain ⟨cur, h1, _, h2⟩ := World.rowIs_made w (.int .u64 0) n 30
  exact ⟨cur, h1, h2⟩
/-- The fields that have been read so far. -/
def upTo6 (F : List Int) (j k : Nat) : Int := if k < j then F.getD k 0 else 0
theorem upTo6_step {w : World} {g n j : Nat} {F : List Int} (h : Own w g n (upTo6 F j)) : Own (w.setCell ⟨g, j, none⟩ (.int .u64 (F.getD j 0))) g n (upTo6 F (j + 1)) := by
  refine (h.set j (F.getD j 0)).congr (fun k hk => ?_)
  unfold upTo6
  by_cases e : k = j
  · subst e; rw [if_pos rfl, if_pos (by omega)]
  · rw [if_neg e]
    by_cases e2 : k < j
    · rw [if_pos e2, if_pos (by omega)]
    · rw [if_neg e2, if_neg (by omega)]
/-- A row of a block's fields, made anew. -/
def FieldRow (w : World) (F : List Int) (e : Ending) (w' : World) : Prop := ∃ g, e = .returned (.slice (some ⟨g, 0, none⟩) F.length F.length) ∧ w.heap.size ≤ g ∧ Own w' g F.length (fun i => F.getD i 0) ∧ Below w.heap.size w w'
set_option maxRecDepth 20000 in
theorem fields6_any {F : List Int} (x : Int) (w : World) (hA : Ar w p s) (hr : Rep s r) (x0 : 0 ≤ x) (x1 : x ≤ 18446744073709551615) (fx : FieldsAre s x F) :
    Calls Try.prog 29 #[.pointer (some ⟨p.a, 0, none⟩), .int .u64 x] w fun e w' => FieldRow w F e w' := by
  have HA := hidden hA
  have FX := hidden fx
  obtain ⟨n, hn⟩ : ∃ n, F.length = n := ⟨_, rfl⟩
  have HN := hidden hn
  have HS : Hid (s.size x = (n : Nat)) := by show _ = _; rw [← hn]; exact fx.size
  have hL : n ≤ 4096 := by rw [← hn]; exact fx.len
  have HF := hidden hr.fits
  have hmk : ∀ w : World, (Instr.makeSlice 37 (.int .i64 (n : Int)) (.int .i64 (n : Int))).run Try.prog w = .ok (.slice (some ⟨w.heap.size, 0, none⟩) n n) (w.alloc (.cells (madeCells #[.int .u64 0] n) 30)) :=
    run_make_row' (P := Try.prog) 37 30 (.int .u64 0) 8 Try.underlying37 Try.info30 rfl .i64 .i64 n (by omega) (by omega)
  clear hA fx hn
  go_enter Try.func29, Try.ntmps29
  go_wp2_with (go_at_call 44; refine (sizev_is x _ HA.out x0 x1 HS.out).mono ?_; rintro e w1 ⟨rfl, k, hw1⟩; have hb1 : Hid (Below w.heap.size w w1) := by { show Below _ _ _; rw [hw1]; exact below_drews _ _ }; clear hw1)
  have hb2 := hb1.out.alloc hb1.out.size (.cells (madeCells #[.int .u64 0] n) 30)
  have ho2 := own_made6 w1 n
  have HG := hidden hb1.out.size
  clear hb1
  generalize w1.alloc (.cells (madeCells #[.int .u64 0] n) 30) = w2 at *
  generalize w1.heap.size = g at *
  go_loopw [13] (fun i wr => ∃ j : Nat, j ≤ n ∧ i = .int .i64 j ∧ Own wr g n (upTo6 F j) ∧ Below w.heap.size w wr) (fun i _ => n - (intOf i).toNat)
  case atStart => exact ⟨0, Nat.zero_le _, rfl, ho2.congr (fun k _ => rfl), hb2⟩
  case round =>
    clear ho2 hb2
    obtain ⟨j, hj, rfl, ho, hbr⟩ := hrel
    have A0 := hidden (HA.out.under hbr)
    have HO := hidden ho
    have HBR := hidden hbr
    clear ho hbr
    by_cases hlt : j < n
    · have z1 : (0 : Int) ≤ (j : Int) := by omega
      have z2 : (j : Int) < (n : Int) := by omega
      obtain ⟨g1, g2⟩ := FX.out.get j (by rw [HN.out]; exact hlt)
      have G1 := hidden g1
      have G2 := hidden g2
      clear g1 g2
      go_wp2_with (go_at_call 62; refine (get_at x j (F.getD j 0) 0 _ A0.out HF.out x0 x1 G2.out G1.out).mono ?_; rintro e w3 ⟨rfl, k3, hw3⟩; have ho3 : Hid (Own w3 g n (upTo6 F j)) := by { show Own _ _ _ _; rw [hw3]; exact HO.out.drewN _ }; have hb3 : Hid (Below w.heap.size w w3) := by { show Below _ _ _; rw [hw3]; exact HBR.out.trans ((below_drews _ _).mono HBR.out.size) }; clear hw3; have k1 := ho3.out.cell hlt; have k2 := ho3.out.frozen j)
      all_goals go_roundw
      case rel => exact ⟨j + 1, by omega, by go_num, upTo6_step ho3.out, hb3.out.setCell (p := ⟨g, j, none⟩) HG.out _⟩
      case measure => simp [intOf]; omega
    · have ej : j = n := by omega
      have hnl : ¬ ((j : Int) < (n : Int)) := by omega
      go_wp2_with fail
      all_goals go_ret
      all_goals exact ⟨g, by rw [HN.out]; rfl, HG.out, by rw [HN.out]; exact HO.out.congr (fun k hk => by unfold upTo6; rw [if_pos (by omega)]), HBR.out⟩
end Go.Proofs.Ytcbgjkedmboifab
