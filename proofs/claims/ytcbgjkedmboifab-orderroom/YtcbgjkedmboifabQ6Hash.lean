/-
  Layer 6: what the program's Hash tells. Condition: the arena lies in memory, in one state with a list of blocks.
-/
import Derived.Test.YtcbgjkedmboifabQ6Queue
import Derived.Test.YtcbgjkedmboifabQ6Cmp
namespace Go.Proofs.Ytcbgjkedmboifab
open Go.ChangeShapes Go.WideShapes Go.ChangeAt Go.RowKit Go.Deep
set_option linter.unusedVariables false
set_option maxHeartbeats 1000000

variable {w w' : World} {p : Pl} {s : St} {r : RS}
/-- Where the loop over the queue is. -/
def HashPAt (nd : Int → Nd) (room : Int) (res : Int × Int) (w : World) (hv qv nv : Value) (wr : World) : Prop :=
  ∃ (Q : List Int) (n : Nat) (h : Int), n ≤ 24 ∧ nv = .int .i64 n ∧ hv = .int .u64 h ∧ R64 h ∧ WO wr w.heap.size qv Q ∧ (∀ x, x ∈ Q → R64 x) ∧ Q.length ≤ 4096 * n + 1 ∧ res = goH nd mixW room (24 - n) Q h ∧ Below w.heap.size w wr
theorem fault_word {E : Int} (x : Int) (w wi : World) (hA : Ar w p s) (hr : Rep s r) (h : Below w.heap.size w wi) (x0 : 0 ≤ x) (x1 : x ≤ 18446744073709551615) (e : (ndW s r x).wrong = E) :
    Calls Try.prog 26 #[.pointer (some ⟨p.a, 0, none⟩), .slice (some ⟨wi.heap.size, 0, none⟩) 1 1] (wi.alloc (.cells #[.int .u64 x] 30)) fun e w' => e = .returned (.int .i64 E) ∧ Below wi.heap.size wi w' := by
  rw [← e, ← fault_one]
  have b1 : Below wi.heap.size wi (wi.alloc (.cells #[.int .u64 x] 30)) := (Below.refl _ _).alloc (Nat.le_refl _) _
  have hn := blk_alloc_new wi (.cells #[.int .u64 x] 30)
  refine (fault_any [x] wi.heap.size 1 _ ((hA.under h).under b1) hr (by rw [nblk_alloc]; omega) (fun i hi => ?_) (fun z hz => ?_) (by simp)).mono ?_
  · match i, hi with
    | 0, _ => simp only [World.cell?, hn]; rfl
  · rw [List.mem_singleton.1 hz]; exact ⟨x0, x1⟩
  · rintro e w' ⟨rfl, hb⟩
    exact ⟨rfl, b1.trans (hb.mono b1.size)⟩
theorem foldl_rng : ∀ (l : List Int) (h : Int), R64 h → R64 (l.foldl mixW h)
  | [], h, hh => hh
  | a :: l, h, _ => foldl_rng l (mixW h a) (mixW_rng h a)
theorem mixed_rng (n : Nd) (h : Int) (hh : R64 h) : R64 (n.mixed mixW h) := by
  cases n with
  | num z => exact mixW_rng h z
  | txt l => exact foldl_rng _ _ (mixW_rng h 3)
  | blk t F => exact mixW_rng h _
  | bad => exact hh
  | fn => exact hh
set_option maxRecDepth 100000 in
set_option maxHeartbeats 8000000 in
theorem hash_any (x room : Int) (w : World) (h : Ar w p s) (hr : Rep s r) (x0 : 0 ≤ x) (x1 : x ≤ 18446744073709551615) :
    Calls Try.prog 11 #[.pointer (some ⟨p.a, 0, none⟩), .int .u64 x, .int .i64 room] w fun e w' => e = .returned (.tuple #[.int .u64 (hashC (ndW s r) x room).1, .int .i64 (hashC (ndW s r) x room).2]) ∧ Below w.heap.size w w' := by
  have HA := hidden h
  obtain ⟨i7, hi7⟩ : ∃ v, intW 7 = v := ⟨_, rfl⟩
  have r7 : R64 i7 := by rw [← hi7]; exact intW_rng 7
  obtain ⟨res, hres⟩ : ∃ res, goH (ndW s r) mixW room 24 [x] i7 = res := ⟨_, rfl⟩
  have HOUT : Hid (hashC (ndW s r) x room = if res.2 = 0 then (doV 6 res.1 (intW 1073741823), 0) else (0, res.2)) := by show _ = _; unfold hashC; rw [hi7, hres]
  generalize hashC (ndW s r) x room = out at *
  have HI7 := hidden hi7
  have HRS := hidden hres
  have HR7 := hidden r7
  clear hi7 hres r7 h
  go_enter Try.func11, Try.ntmps11
  go_wp2_with (go_at_call 25; refine (int_any _ _ (by omega) (by omega)).mono ?_; rintro e w' ⟨rfl, hw'⟩; rw [hw']; clear hw' w'; rw [HI7.out])
  go_loopw [8, 9, 10] (fun hv qv nv wr => HashPAt (ndW s r) room res w hv qv nv wr) (fun _ _ nv _ => (24 - intOf nv).toNat)
  case atStart => exact ⟨[x], 0, i7, by omega, rfl, rfl, HR7.out, wo_first w x, fun y hy => by rw [List.mem_singleton.1 hy]; exact ⟨x0, x1⟩, by simp, HRS.out.symm, (Below.refl _ _).alloc (Nat.le_refl _) _⟩
  case round =>
    clear HRS x0 x1 HR7 HI7
    obtain ⟨Q, n, h, hn, rfl, rfl, ⟨h0, h1⟩, hq, hQ, hQl, hgo, hbl⟩ := hrel
    have HGO := hidden hgo
    have BR := hidden hbl
    have HQ := hidden hQ
    clear hgo hbl hQ
    cases Q with
    | cons x Q =>
      by_cases hn24 : n < 24
      · obtain ⟨g, o, c, v', rfl, kx, hc1, hc2, hnext, hsl⟩ := hq.next
        obtain ⟨x0, x1⟩ := HQ.out x List.mem_cons_self
        have HQ2 : Hid (∀ y, y ∈ Q → R64 y) := fun y hy => HQ.out y (List.mem_cons_of_mem _ hy)
        have xn : (n : Int) < 24 := by omega
        have hQl2 : Q.length ≤ 4096 * n := by simpa using hQl
        clear hQl
        obtain ⟨m, hm⟩ : ∃ m, 24 - n = m + 1 := ⟨23 - n, by omega⟩
        rw [hm] at HGO
        have HM : Hid (24 - (n + 1) = m) := by show _ = _; omega
        obtain ⟨E, hE⟩ : ∃ E, (ndW s r x).wrong = E := ⟨_, rfl⟩
        have HE1 := hidden hE
        have HNX := hidden hnext
        clear hE hm hq hnext HQ
        go_upto_region 8 with fail
        clear hsl kx
        have HNX2 := HNX.out
        obtain ⟨ao2, c2, rfl, _⟩ := HNX2
        by_cases hE0 : E = 0
        · subst hE0
          obtain ⟨H, hH⟩ : ∃ H, (ndW s r x).mixed mixW h = H := ⟨_, rfl⟩
          have HHR : Hid (R64 H) := by
            show R64 H
            rw [← hH]
            exact mixed_rng (ndW s r x) h ⟨h0, h1⟩
          have HTK : Hid (∀ w1, Ar w1 p s → Calls Try.prog 27 #[.int .u64 h, .pointer (some ⟨p.a, 0, none⟩), .int .u64 x] w1 fun e w' => e = .returned (.int .u64 H) ∧ Below w1.heap.size w1 w') := fun w1 h1' => by rw [← hH]; exact takeH_any h x w1 h1' hr h0 h1 x0 x1 HE1.out
          have HAB : Hid (∀ w1, Below wr.heap.size wr w1 → Ar w1 p s) := fun w1 b => HA.out.under (BR.out.trans (b.mono BR.out.size))
          rcases nd_ok hr x HE1.out with ⟨hi, e⟩ | ⟨hi, k, b, hk, hf, hd, ⟨t, l, et, tt, e⟩ | ⟨t, e⟩⟩
          · have HG : Hid (res = goH (ndW s r) mixW room m Q H) := by show _ = _; rw [HGO.out, goH_num e, ← hH, e]; rfl
            have HHF : Hid (∀ w1, Ar w1 p s → Calls Try.prog 28 #[.pointer (some ⟨p.a, 0, none⟩), .int .u64 x] w1 fun e w' => e = .returned (.bool false) ∧ ∃ m, w' = w1.drewN m) := fun w1 h1' => hasFields_int x w1 x0 x1 hi
            clear hi e hH HGO
            go_wp2_with (first
              | (go_at_call 26; refine (fault_word x w wr HA.out hr BR.out x0 x1 HE1.out).mono ?_; rintro e w1 ⟨rfl, hb1⟩; have B1 := hidden hb1; clear hb1)
              | (go_at_call 27; refine (HTK.out _ (HAB.out _ B1.out)).mono ?_; rintro e w2 ⟨rfl, hb2⟩; have B2 : Hid (Below wr.heap.size wr w2) := B1.out.trans (hb2.mono B1.out.size); clear hb2)
              | (go_at_call 28; refine (HHF.out _ (HAB.out _ B2.out)).mono ?_; rintro e w3 ⟨rfl, m3, hw3⟩; have B3 : Hid (Below wr.heap.size wr w3) := by { show Below _ _ _; rw [hw3]; exact B2.out.trans ((below_drews _ _).mono B2.out.size) }; clear hw3))
            all_goals go_roundw
            case rel => exact ⟨Q, n + 1, H, by omega, by go_num, rfl, HHR.out, HNX.out.below B3.out, HQ2.out, by omega, by rw [HM.out]; exact HG.out, BR.out.trans (B3.out.mono BR.out.size)⟩
            case measure => simp [intOf]; omega
          · have HG : Hid (res = goH (ndW s r) mixW room m Q H) := by show _ = _; rw [HGO.out, goH_txt e, ← hH, e]; rfl
            have HHF : Hid (∀ w1, Ar w1 p s → Calls Try.prog 28 #[.pointer (some ⟨p.a, 0, none⟩), .int .u64 x] w1 fun e w' => e = .returned (.bool false) ∧ ∃ m, w' = w1.drewN m) := fun w1 h1' => hasFields_blk (b := true) x w1 h1' x0 x1 hi (by rw [(blk_says hr hk hf).1, t]; rfl)
            clear hi e hH HGO hk hf hd t et tt
            go_wp2_with (first
              | (go_at_call 26; refine (fault_word x w wr HA.out hr BR.out x0 x1 HE1.out).mono ?_; rintro e w1 ⟨rfl, hb1⟩; have B1 := hidden hb1; clear hb1)
              | (go_at_call 27; refine (HTK.out _ (HAB.out _ B1.out)).mono ?_; rintro e w2 ⟨rfl, hb2⟩; have B2 : Hid (Below wr.heap.size wr w2) := B1.out.trans (hb2.mono B1.out.size); clear hb2)
              | (go_at_call 28; refine (HHF.out _ (HAB.out _ B2.out)).mono ?_; rintro e w3 ⟨rfl, m3, hw3⟩; have B3 : Hid (Below wr.heap.size wr w3) := by { show Below _ _ _; rw [hw3]; exact B2.out.trans ((below_drews _ _).mono B2.out.size) }; clear hw3))
            all_goals go_roundw
            case rel => exact ⟨Q, n + 1, H, by omega, by go_num, rfl, HHR.out, HNX.out.below B3.out, HQ2.out, by omega, by rw [HM.out]; exact HG.out, BR.out.trans (B3.out.mono BR.out.size)⟩
            case measure => simp [intOf]; omega
          · have HHF : Hid (∀ w1, Ar w1 p s → Calls Try.prog 28 #[.pointer (some ⟨p.a, 0, none⟩), .int .u64 x] w1 fun e w' => e = .returned (.bool true) ∧ ∃ m, w' = w1.drewN m) := fun w1 h1' => hasFields_blk (b := false) x w1 h1' x0 x1 hi (by rw [(blk_says hr hk hf).1]; exact beq_eq_false_iff_ne.2 t)
            have FX := hidden (fields_are hr hk hf hd)
            have HRNG : Hid (∀ y, y ∈ b.F → R64 y) := fun y hy => rep_rng HA.out hr hk y hy
            have HNF : Hid (room < (Q.length + b.F.length : Nat) → res = (0, 11)) := fun c => by rw [HGO.out]; exact goH_full e c
            have HNG : Hid (¬ room < (Q.length + b.F.length : Nat) → res = goH (ndW s r) mixW room m (Q ++ b.F) H) := fun c => by rw [HGO.out, goH_blk e c, ← hH, e]; rfl
            clear hi e hH HGO hk hf hd t
            generalize b.F = F at *
            have hFl := FX.out.len
            go_upto_region 14 with (first
              | (at_builtin; refine append_any rfl (.tmp 46) (.tmp 49) rfl rfl rfl hrun ?_)
              | (go_at_call 26; refine (fault_word x w wr HA.out hr BR.out x0 x1 HE1.out).mono ?_; rintro e w1 ⟨rfl, hb1⟩; have B1 := hidden hb1; clear hb1)
              | (go_at_call 27; refine (HTK.out _ (HAB.out _ B1.out)).mono ?_; rintro e w2 ⟨rfl, hb2⟩; have B2 : Hid (Below wr.heap.size wr w2) := B1.out.trans (hb2.mono B1.out.size); clear hb2)
              | (go_at_call 28; refine (HHF.out _ (HAB.out _ B2.out)).mono ?_; rintro e w3 ⟨rfl, m3, hw3⟩; have B3 : Hid (Below wr.heap.size wr w3) := by { show Below _ _ _; rw [hw3]; exact B2.out.trans ((below_drews _ _).mono B2.out.size) }; clear hw3)
              | (go_at_call 29; refine (fields6_any x _ (HAB.out _ B3.out) hr x0 x1 FX.out).mono ?_; rintro e w4 ⟨g4, rfl, hg4, ho4, hb4⟩; have B4 : Hid (Below wr.heap.size wr w4) := B3.out.trans (hb4.mono B3.out.size); obtain ⟨v7, w7, hrun, hwo, hb7⟩ := grow_off (cf := F.length) 37 (HNX.out.below B4.out) (Nat.le_trans BR.out.size B4.out.size) ho4 (by omega); have WO7 := hidden hwo; have B7 := hidden hb7; clear hwo hb7 ho4 hb4))
            clear hrun
            have WO7' := WO7.out
            obtain ⟨ao7, c7, rfl, _⟩ := WO7'
            obtain ⟨L7, hL7⟩ : ∃ L, (Q ++ F).length = L := ⟨_, rfl⟩
            rw [hL7] at WO7 ⊢
            have HL7 : Hid (L7 = Q.length + F.length) := by show _ = _; rw [← hL7, List.length_append]
            have hL7b : L7 ≤ 200000 := by rw [HL7.out]; omega
            clear hL7
            have BF : Hid (Below w.heap.size w w7) := (BR.out.trans (B4.out.mono BR.out.size)).trans B7.out
            by_cases hrm : room < (L7 : Int)
            · have HO : Hid (out = (0, 11)) := by show _ = _; rw [HOUT.out, HNF.out (by rw [← HL7.out]; omega)]; rfl
              go_wp2_with fail
              all_goals go_ret2
              all_goals exact ⟨by rw [HO.out]; rfl, BF.out⟩
            · have HG := hidden (HNG.out (by rw [← HL7.out]; omega))
              go_wp2_with fail
              all_goals go_roundw
              case rel => exact ⟨Q ++ F, n + 1, H, by omega, by go_num, rfl, HHR.out, WO7.out, fun y hy => by rcases List.mem_append.1 hy with c | c; exact HQ2.out y c; exact HRNG.out y c, by rw [List.length_append]; omega, by rw [HM.out]; exact HG.out, BF.out⟩
              case measure => simp [intOf]; omega
        · have hEb : (E != 0) = true := by simp [hE0]
          have HO : Hid (out = (0, E)) := by show _ = _; rw [HOUT.out, HGO.out, goH_wrong HE1.out hE0, if_neg hE0]
          clear hE0 HGO
          go_wp2_with (go_at_call 26; refine (fault_word x w wr HA.out hr BR.out x0 x1 HE1.out).mono ?_; rintro e w1 ⟨rfl, hb1⟩; have B1 : Hid (Below w.heap.size w w1) := BR.out.trans (hb1.mono BR.out.size); clear hb1)
          all_goals go_ret2
          all_goals exact ⟨by rw [HO.out]; rfl, B1.out⟩
      · have e24 : n = 24 := by omega
        have xn : ¬ (n : Int) < 24 := by omega
        have HG : Hid (res = (h, 0)) := by show _ = _; rw [HGO.out, e24]; rfl
        have HO : Hid (out = (doV 6 h (intW 1073741823), 0)) := by show _ = _; rw [HOUT.out, HG.out, if_pos rfl]
        obtain ⟨IM, hIM⟩ : ∃ i, intW 1073741823 = i := ⟨_, rfl⟩
        have HIR : Hid (R64 IM) := by show R64 IM; rw [← hIM]; exact intW_rng _
        rw [hIM] at HO
        obtain ⟨DV, hDV⟩ : ∃ d, doV 6 h IM = d := ⟨_, rfl⟩
        rw [hDV] at HO
        have HIM := hidden hIM
        have HDO := hidden hDV
        clear hIM hDV HGO
        go_wp2_with (first
          | (go_at_call 25; refine (int_any _ _ (by omega) (by omega)).mono ?_; rintro e w' ⟨rfl, hw'⟩; rw [hw']; clear hw' w'; rw [HIM.out])
          | (go_at_call 30; refine (do_any 6 h IM _ h0 h1 HIR.out.1 HIR.out.2 (by omega) (by omega)).mono ?_; rintro e w' ⟨rfl, hw'⟩; rw [hw']; clear hw' w'; rw [HDO.out]))
        all_goals go_ret2
        all_goals exact ⟨by rw [HO.out]; rfl, BR.out⟩
    | nil =>
      obtain ⟨ao, c, rfl, _⟩ := hq
      have HG : Hid (res = (h, 0)) := by show _ = _; rw [HGO.out]; cases 24 - n <;> rfl
      have HO : Hid (out = (doV 6 h (intW 1073741823), 0)) := by show _ = _; rw [HOUT.out, HG.out, if_pos rfl]
      obtain ⟨IM, hIM⟩ : ∃ i, intW 1073741823 = i := ⟨_, rfl⟩
      have HIR : Hid (R64 IM) := by show R64 IM; rw [← hIM]; exact intW_rng _
      rw [hIM] at HO
      obtain ⟨DV, hDV⟩ : ∃ d, doV 6 h IM = d := ⟨_, rfl⟩
      rw [hDV] at HO
      have HIM := hidden hIM
      have HDO := hidden hDV
      clear hIM hDV HGO
      go_wp2_with (first
        | (go_at_call 25; refine (int_any _ _ (by omega) (by omega)).mono ?_; rintro e w' ⟨rfl, hw'⟩; rw [hw']; clear hw' w'; rw [HIM.out])
        | (go_at_call 30; refine (do_any 6 h IM _ h0 h1 HIR.out.1 HIR.out.2 (by omega) (by omega)).mono ?_; rintro e w' ⟨rfl, hw'⟩; rw [hw']; clear hw' w'; rw [HDO.out]))
      all_goals go_ret2
      all_goals exact ⟨by rw [HO.out]; rfl, BR.out⟩
end Go.Proofs.Ytcbgjkedmboifab
