/-
  Layer 7: LexParts, walked: it returns true. Condition: the table of powers of ten reads as its initialiser lays it.
-/
import Derived.Test.YtapecobalkjdhaaDoorX7Law5
import Derived.Test.YtapecobalkjdhaaDoorL7Write
namespace Go.Proofs.YtapecobalkjdhaaDoor
open Go.ChangeShapes Go.WideShapes Go.ChangeAt Go.RowKit Go.Deep
set_option linter.unusedVariables false
set_option maxHeartbeats 4000000
set_option maxRecDepth 20000

theorem prev_law {s : ByteArray} {ts : List (Tk × Nat)} {j p : Nat} {t : TV} (h : lexR s = .ok ts) (hj : j < ts.length) (ht : (toks s ts)[j + 1]? = some t) (hp : t.pl = (p : Int)) : ∃ (tp : TV) (pp : Nat), (toks s ts)[j]? = some tp ∧ tp.pl = (pp : Int) ∧ pp < p := by
  obtain ⟨t1, t2, p1, np, h1, h2, h3, h4, h5, _⟩ := part_law h hj
  have : t2 = t := Option.some.inj (h2.symm.trans ht)
  subst this
  exact ⟨t1, p1, h1, h3, by rw [h4] at hp; omega⟩
theorem run_str_at {s : ByteArray} {a b : Nat} (h : a ≤ b) (hb : b ≤ s.size) (w : World) : Sem.run Tryd.prog (Instr.slice 9 (.string s) (some (.int .i64 (a : Int))) (some (.int .i64 (b : Int))) none) w = .ok (.string (s.extract a b)) w := by
  rw [run_slice_string w 9 s .i64 .i64 (a : Int) (b : Int) Tryd.underlying9 (by omega) (by omega) (by omega)]
  rfl
theorem lexP_one {s : ByteArray} (w : World) (h : lexR s = .ok []) : Calls Tryd.prog 9 #[.string s] w fun e w' => ∃ ao c, e = .returned (.tuple #[.slice ao 1 c, .int .i64 0, .int .i64 0]) ∧ Below w.heap.size w w' :=
  (lexP_ok w h).mono (fun e w' ⟨ao, c, h1, _, _, hb⟩ => ⟨ao, c, h1, hb⟩)
theorem lexParts_walk (s : ByteArray) (w : World) (hza : s.size ≤ 140737488351232) (htab : Lib.TabIs Tryd.prog w "internal/strconv.uint64pow10" .u64 Lib.pow10Tab) :
    Calls Tryd.prog 5 #[.string s] w fun e w' => e = .returned (.bool true) ∧ Below w.heap.size w w' := by
  have HA := hidden (awake_any w htab)
  have HTAB := hidden htab
  have hz : s.size ≤ maxLen := by unfold maxLen; omega
  clear htab
  cases hR : lexR s with
  | error ek =>
    obtain ⟨e', k⟩ := ek
    have z1 : (e' != 0) = true := by rw [bne_iff_ne]; exact lexR_err hR
    have HR := hidden hR
    clear hR
    go_enter Tryd.func5, Tryd.ntmps5
    go_wp2_with (first
      | (go_at_call 8; refine HA.out.mono ?_; rintro e w1 ⟨rfl, hb⟩; have B1 := hidden hb; clear hb)
      | (go_at_call 9; refine (lexP_err w1 HR.out hz).mono ?_; rintro e w2 ⟨rfl, hb⟩; have B2 := hidden (B1.out.trans (hb.mono B1.out.size)); clear hb))
    go_ret
    exact ⟨rfl, B2.out⟩
  | ok ts =>
    have HR := hidden hR
    obtain ⟨hs, hlen⟩ := lexR_count hR
    clear hR
    go_enter Tryd.func5, Tryd.ntmps5
    go_wp2_with (first
      | (go_at_call 8; refine HA.out.mono ?_; rintro e w1 ⟨rfl, hb⟩; have B1 := hidden hb; clear hb)
      | (go_at_call 9; refine (lexP_ok w1 HR.out).mono ?_; rintro e w2 ⟨ao, c, rfl, ht, ⟨⟨g, e1, hgl, hcur⟩, cc⟩, hb⟩; subst e1; have T2 : Hid (MR w2 g (toks s ts)) := ⟨hcur, ht⟩; have B2 := hidden (B1.out.trans (hb.mono B1.out.size)); clear ht hb hcur))
    go_loopw [24] (fun iv wr => ∃ k : Nat, k ≤ ts.length ∧ iv = .int .i64 (k : Int) ∧ Below w2.heap.size w2 wr) (fun iv wr => ((ts.length : Int) + 1 - intOf iv).toNat)
    case atStart => exact ⟨0, by omega, rfl, Below.refl _ _⟩
    case round =>
      obtain ⟨k, k1, rfl, k6⟩ := hrel
      have BK := hidden k6
      have TK := hidden (T2.out.below k6)
      have BW := hidden (B2.out.trans (k6.mono B2.out.size))
      have TAB := hidden (tab_below HTAB.out BW.out)
      have hszk := k6.size
      have hwk := BW.out.size
      clear k6
      have z9 : (k : Int) < (ts.length : Int) + 1 := by omega
      have zbk : (0 : Int) ≤ (k : Int) ∧ (k : Int) < (ts.length : Int) + 1 := ⟨by omega, z9⟩
      by_cases hlt : k < ts.length
      · obtain ⟨t, t2, p, np, p1, p2, p3, p4, p5, p6, p7, p8⟩ := part_law HR.out hlt
        have hsm := toks_small HR.out (i := k) (t := t) p1
        obtain ⟨m0, m1, m2, m3⟩ := TK.out.cells p1
        obtain ⟨_, m1n, _, _⟩ := TK.out.cells p2
        rw [p3] at m1
        rw [p4] at m1n
        have d1 : decide ((p : Int) < 0) = false := by simp
        have d2 : decide ((s.size : Int) < (p : Int)) = false := by simp; omega
        have d3 : decide (s.size < p) = false := by simp; omega
        have d1' : ¬ (p : Int) < 0 := by omega
        have d2' : ¬ (s.size : Int) < (p : Int) := by omega
        have hkk : (t.kind == 0) = false := beq_eq_false_iff_ne.2 p7
        have PV : Hid (k = 0 ∨ ∃ pp : Nat, 0 < k ∧ pp < p ∧ wr.cell? ⟨g, (k - 1) * 4 + 1, none⟩ = some (.int .i64 (pp : Int))) := by
          show _ ∨ _
          cases k with
          | zero => exact Or.inl rfl
          | succ j =>
            obtain ⟨tp, pp, a1, a2, a3⟩ := prev_law HR.out (by omega) p1 p3
            obtain ⟨_, b1, _, _⟩ := TK.out.cells a1
            rw [a2] at b1
            exact Or.inr ⟨pp, by omega, a3, b1⟩
        have htl := textV_len hsm
        have HX := hidden (fun w h => textP_any t.kind p t.N ⟨t.S.toArray⟩ w (by show t.S.length ≤ _; omega) (by omega) (by omega) h)
        obtain ⟨tx, htx⟩ : ∃ tx : ByteArray, ⟨(textT Lib.itoa ⟨t.kind, (⟨t.S.toArray⟩ : ByteArray).data.toList, t.N⟩).toArray⟩ = tx := ⟨_, rfl⟩
        have htd : tx.data.toList = textV t := by rw [← htx]; rfl
        have htz : tx.size = (textV t).length := by rw [← len_data, htd]
        have htz2 : tx.size ≤ 16500 := by omega
        rw [htx] at HX
        rw [← htz, ← htd] at p8
        have P8 := hidden p8
        have M1 := hidden m1
        have M1N := hidden m1n
        have M0 := hidden m0
        clear p1 p2 p3 p4 p7 p8 hsm htl htx htd htz
        have hcase : (k = 0 ∧ decide (0 < (k : Int)) = false) ∨ (∃ pp : Nat, 0 < k ∧ pp < p ∧ wr.cell? ⟨g, (k - 1) * 4 + 1, none⟩ = some (.int .i64 (pp : Int))) := by
          rcases PV.out with h0 | h0
          · exact Or.inl ⟨h0, by rw [h0]; rfl⟩
          · exact Or.inr h0
        clear PV
        rcases hcase with ⟨hk0, d4⟩ | ⟨pp, hk0, hpp, mj⟩
        · have d4' : ¬ (0 : Int) < (k : Int) := by omega
          have d4n : decide (0 < k) = false := by simp; omega
          have HK := hidden hk0
          clear hk0
          go_wp2_with fail
          go_quiet (fail)
          have TK5 : Hid (MR (wr.drewN nq) g (toks s ts)) := TK.out.below (below_drewN (Below.refl _ _) _)
          have BK5 := hidden (below_drewN BK.out nq)
          have TAB5 := hidden (tab_below TAB.out (below_drewN (Below.refl _ wr) nq))
          have n0 : (wr.drewN nq).cell? ⟨g, k * 4, none⟩ = some (.int .i64 t.kind) := M0.out
          have n1 : (wr.drewN nq).cell? ⟨g, k * 4 + 1, none⟩ = some (.int .i64 (p : Int)) := M1.out
          have n2 : (wr.drewN nq).cell? ⟨g, k * 4 + 2, none⟩ = some (.int .i64 t.N) := m2
          have n3 : (wr.drewN nq).cell? ⟨g, k * 4 + 3, none⟩ = some (.string ⟨t.S.toArray⟩) := m3
          have n1n : (wr.drewN nq).cell? ⟨g, (k + 1) * 4 + 1, none⟩ = some (.int .i64 (np : Int)) := M1N.out
          have hgw : g < (wr.drewN nq).heap.size := TK5.out.lt
          have hsz5 : w2.heap.size ≤ (wr.drewN nq).heap.size := hszk
          clear m0 m1 m2 m3 m1n TK BK BW TAB M0 M1 M1N d1 d2 d3 d1' d2'
          generalize wr.drewN nq = w5 at *
          have zn : (0 : Int) ≤ (k : Int) + 1 ∧ (k : Int) + 1 < (ts.length : Int) + 1 := ⟨by omega, by omega⟩
          rcases P8.out with ⟨hk2, hhead⟩ | ⟨hk2, b1, b2, b3⟩
          · have hps : p < s.size := by omega
            have h34 : s[p] = 34 := by rw [suf_cons s hps] at hhead; simpa using hhead
            have hk2b : (t.kind == 2) = true := by rw [hk2]; rfl
            clear hhead P8 hk2
            go_wp2_with (go_at_call 12; refine (HX.out _ TAB5.out).mono ?_; rintro e w6 ⟨rfl, hb⟩; have B6 := hidden (BK5.out.trans (hb.mono hsz5)); have hcc : ∀ o, w6.cell? ⟨g, o, none⟩ = w5.cell? ⟨g, o, none⟩ := (fun o => World.cell?_of_block (a := ⟨g, o, none⟩) (hb.block g hgw)); clear hb)
            all_goals go_roundw
            case rel => exact ⟨k + 1, by omega, by go_num, B6.out⟩
            case measure => simp [intOf]; omega
          · have hk2b : (t.kind == 2) = false := beq_eq_false_iff_ne.2 hk2
            have hs1 : ∀ w', Sem.run Tryd.prog (Instr.slice 9 (.string s) (some (.int .i64 (p : Int))) (some (.int .i64 ((p : Int) + (tx.size : Int)))) none) w' = .ok (.string (s.extract p (p + tx.size))) w' := run_str_at (s := s) (a := p) (b := p + tx.size) (by omega) (by omega)
            have hs2 : ∀ w', Sem.run Tryd.prog (Instr.slice 9 (.string s) (some (.int .i64 ((p : Int) + (tx.size : Int)))) (some (.int .i64 (np : Int))) none) w' = .ok (.string (s.extract (p + tx.size) np)) w' := run_str_at (s := s) (a := p + tx.size) (b := np) (by omega) (by omega)
            have heq : ((s.extract p (p + tx.size)).toList == tx.toList) = true := by
              rw [Go.ByteArray.toList_eq, Go.ByteArray.toList_eq, b2]
              simp
            have R3 := hidden b3
            have zle : ¬ (np : Int) < (p : Int) + (tx.size : Int) := by omega
            clear P8 hk2 b2 b3
            go_wp2_with (first
              | (go_at_call 9; refine (lexP_one w6 R3.out).mono ?_; rintro e w7 ⟨ao7, c7, rfl, hb⟩; have B7 := hidden (B6.out.trans (hb.mono B6.out.size)); clear hb)
              | (go_at_call 12; refine (HX.out _ TAB5.out).mono ?_; rintro e w6 ⟨rfl, hb⟩; have B6 := hidden (BK5.out.trans (hb.mono hsz5)); have hcc : ∀ o, w6.cell? ⟨g, o, none⟩ = w5.cell? ⟨g, o, none⟩ := (fun o => World.cell?_of_block (a := ⟨g, o, none⟩) (hb.block g hgw)); clear hb))
            all_goals go_roundw
            case rel => exact ⟨k + 1, by omega, by go_num, B7.out⟩
            case measure => simp [intOf]; omega
        · have d4 : decide (0 < (k : Int)) = true := by simp; omega
          have d4' : (0 : Int) < (k : Int) := by omega
          have d5 : decide ((p : Int) ≤ (pp : Int)) = false := by simp; omega
          have d6 : decide (p ≤ pp) = false := by simp; omega
          have e1 := wrapId ((k : Int) - 1) (by omega) (by omega)
          have zj : (0 : Int) ≤ (k : Int) - 1 ∧ (k : Int) - 1 < (ts.length : Int) + 1 := ⟨by omega, by omega⟩
          go_wp2_with fail
          go_quiet (fail)
          clear mj hpp d5 d6 e1 zj
          have TK5 : Hid (MR (wr.drewN nq) g (toks s ts)) := TK.out.below (below_drewN (Below.refl _ _) _)
          have BK5 := hidden (below_drewN BK.out nq)
          have TAB5 := hidden (tab_below TAB.out (below_drewN (Below.refl _ wr) nq))
          have n0 : (wr.drewN nq).cell? ⟨g, k * 4, none⟩ = some (.int .i64 t.kind) := M0.out
          have n1 : (wr.drewN nq).cell? ⟨g, k * 4 + 1, none⟩ = some (.int .i64 (p : Int)) := M1.out
          have n2 : (wr.drewN nq).cell? ⟨g, k * 4 + 2, none⟩ = some (.int .i64 t.N) := m2
          have n3 : (wr.drewN nq).cell? ⟨g, k * 4 + 3, none⟩ = some (.string ⟨t.S.toArray⟩) := m3
          have n1n : (wr.drewN nq).cell? ⟨g, (k + 1) * 4 + 1, none⟩ = some (.int .i64 (np : Int)) := M1N.out
          have hgw : g < (wr.drewN nq).heap.size := TK5.out.lt
          have hsz5 : w2.heap.size ≤ (wr.drewN nq).heap.size := hszk
          clear m0 m1 m2 m3 m1n TK BK BW TAB M0 M1 M1N d1 d2 d3 d1' d2'
          generalize wr.drewN nq = w5 at *
          have zn : (0 : Int) ≤ (k : Int) + 1 ∧ (k : Int) + 1 < (ts.length : Int) + 1 := ⟨by omega, by omega⟩
          rcases P8.out with ⟨hk2, hhead⟩ | ⟨hk2, b1, b2, b3⟩
          · have hps : p < s.size := by omega
            have h34 : s[p] = 34 := by rw [suf_cons s hps] at hhead; simpa using hhead
            have hk2b : (t.kind == 2) = true := by rw [hk2]; rfl
            clear hhead P8 hk2
            go_wp2_with (go_at_call 12; refine (HX.out _ TAB5.out).mono ?_; rintro e w6 ⟨rfl, hb⟩; have B6 := hidden (BK5.out.trans (hb.mono hsz5)); have hcc : ∀ o, w6.cell? ⟨g, o, none⟩ = w5.cell? ⟨g, o, none⟩ := (fun o => World.cell?_of_block (a := ⟨g, o, none⟩) (hb.block g hgw)); clear hb)
            all_goals go_roundw
            case rel => exact ⟨k + 1, by omega, by go_num, B6.out⟩
            case measure => simp [intOf]; omega
          · have hk2b : (t.kind == 2) = false := beq_eq_false_iff_ne.2 hk2
            have hs1 : ∀ w', Sem.run Tryd.prog (Instr.slice 9 (.string s) (some (.int .i64 (p : Int))) (some (.int .i64 ((p : Int) + (tx.size : Int)))) none) w' = .ok (.string (s.extract p (p + tx.size))) w' := run_str_at (s := s) (a := p) (b := p + tx.size) (by omega) (by omega)
            have hs2 : ∀ w', Sem.run Tryd.prog (Instr.slice 9 (.string s) (some (.int .i64 ((p : Int) + (tx.size : Int)))) (some (.int .i64 (np : Int))) none) w' = .ok (.string (s.extract (p + tx.size) np)) w' := run_str_at (s := s) (a := p + tx.size) (b := np) (by omega) (by omega)
            have heq : ((s.extract p (p + tx.size)).toList == tx.toList) = true := by
              rw [Go.ByteArray.toList_eq, Go.ByteArray.toList_eq, b2]
              simp
            have R3 := hidden b3
            have zle : ¬ (np : Int) < (p : Int) + (tx.size : Int) := by omega
            clear P8 hk2 b2 b3
            go_wp2_with (first
              | (go_at_call 9; refine (lexP_one w6 R3.out).mono ?_; rintro e w7 ⟨ao7, c7, rfl, hb⟩; have B7 := hidden (B6.out.trans (hb.mono B6.out.size)); clear hb)
              | (go_at_call 12; refine (HX.out _ TAB5.out).mono ?_; rintro e w6 ⟨rfl, hb⟩; have B6 := hidden (BK5.out.trans (hb.mono hsz5)); have hcc : ∀ o, w6.cell? ⟨g, o, none⟩ = w5.cell? ⟨g, o, none⟩ := (fun o => World.cell?_of_block (a := ⟨g, o, none⟩) (hb.block g hgw)); clear hb))
            all_goals go_roundw
            case rel => exact ⟨k + 1, by omega, by go_num, B7.out⟩
            case measure => simp [intOf]; omega
      · have hke : k = ts.length := by omega
        have hte : (toks s ts)[k]? = some (endV s.size) := by rw [hke]; exact toks_end
        obtain ⟨m0, m1, m2, m3⟩ := TK.out.cells hte
        have m0' : wr.cell? ⟨g, k * 4, none⟩ = some (.int .i64 0) := m0
        have m1' : wr.cell? ⟨g, k * 4 + 1, none⟩ = some (.int .i64 (s.size : Int)) := m1
        have d1 : decide ((s.size : Int) < 0) = false := by simp
        have d2 : decide ((s.size : Int) < (s.size : Int)) = false := by simp
        have d1' : ¬ (s.size : Int) < 0 := by omega
        have zend : ((k : Int) == (ts.length : Int)) = true := by rw [beq_iff_eq]; omega
        have hcase : (k = 0 ∧ decide (0 < (k : Int)) = false) ∨ (∃ pp : Nat, 0 < k ∧ pp < s.size ∧ wr.cell? ⟨g, (k - 1) * 4 + 1, none⟩ = some (.int .i64 (pp : Int))) := by
          cases k with
          | zero => exact Or.inl ⟨rfl, rfl⟩
          | succ j =>
            obtain ⟨tp, pp, a1, a2, a3⟩ := prev_law HR.out (by omega) hte rfl
            obtain ⟨_, b1, _, _⟩ := TK.out.cells a1
            rw [a2] at b1
            exact Or.inr ⟨pp, by omega, a3, b1⟩
        clear m0 m1 m2 m3 hte hke
        rcases hcase with ⟨hk0, d4⟩ | ⟨pp, hk0, hpp, mj⟩
        · have d4' : ¬ (0 : Int) < (k : Int) := by omega
          have d4n : decide (0 < k) = false := by simp; omega
          have HK := hidden hk0
          clear hk0
          go_wp2_with fail
          go_quiet (fail)
          go_wp2_with fail
          go_ret
          exact ⟨rfl, below_drewN BW.out _⟩
        · have d4 : decide (0 < (k : Int)) = true := by simp; omega
          have d4' : (0 : Int) < (k : Int) := by omega
          have d5 : decide ((s.size : Int) ≤ (pp : Int)) = false := by simp; omega
          have d6 : decide (s.size ≤ pp) = false := by simp; omega
          have e1 := wrapId ((k : Int) - 1) (by omega) (by omega)
          have zj : (0 : Int) ≤ (k : Int) - 1 ∧ (k : Int) - 1 < (ts.length : Int) + 1 := ⟨by omega, by omega⟩
          go_wp2_with fail
          go_quiet (fail)
          clear mj hpp d5 d6 e1 zj
          go_wp2_with fail
          go_ret
          exact ⟨rfl, below_drewN BW.out _⟩
end Go.Proofs.YtapecobalkjdhaaDoor
