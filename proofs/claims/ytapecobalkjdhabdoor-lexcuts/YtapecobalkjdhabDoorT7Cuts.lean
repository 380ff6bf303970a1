/-
  Layer 7: LexCuts, walked: it returns true. Condition: the table of powers of ten reads as its initialiser lays it.
-/
import Derived.Test.YtapecobalkjdhabDoorL7Cells
namespace Go.Proofs.YtapecobalkjdhabDoor
open Go.ChangeShapes Go.WideShapes Go.ChangeAt Go.RowKit Go.Deep
set_option linter.unusedVariables false
set_option maxHeartbeats 2000000
set_option maxRecDepth 20000

theorem lexCuts_walk (s : ByteArray) (a : Int) (w : World) (hz : s.size ≤ maxLen) (ha0 : -9223372036854775808 ≤ a) (ha1 : a ≤ 9223372036854775807) (htab : Lib.TabIs Tryd.prog w "internal/strconv.uint64pow10" .u64 Lib.pow10Tab) :
    Calls Tryd.prog 3 #[.string s, .int .i64 a] w fun e w' => e = .returned (.bool true) ∧ Below w.heap.size w w' := by
  have HA := hidden (awake_any w htab)
  clear htab
  cases hR : lexR s with
  | error ek =>
    obtain ⟨e', k⟩ := ek
    have hne := lexR_err hR
    have z1 : (e' != 0) = true := by rw [bne_iff_ne]; exact hne
    have HR := hidden hR
    clear hR hne
    go_enter Tryd.func3, Tryd.ntmps3
    go_wp2_with (first
      | (go_at_call 4; refine HA.out.mono ?_; rintro e w1 ⟨rfl, hb⟩; have B1 := hidden hb; clear hb)
      | (go_at_call 5; refine (lexP_err w1 HR.out hz).mono ?_; rintro e w2 ⟨rfl, hb⟩; have B2 := hidden (B1.out.trans (hb.mono B1.out.size)); clear hb))
    go_ret
    exact ⟨rfl, B2.out⟩
  | ok ts =>
    have HR := hidden hR
    have hs := (lexR_count hR).1
    have hlen := (lexR_count hR).2
    by_cases c0 : a < 0
    · clear hR
      go_enter Tryd.func3, Tryd.ntmps3
      go_wp2_with (first
        | (go_at_call 4; refine HA.out.mono ?_; rintro e w1 ⟨rfl, hb⟩; have B1 := hidden hb; clear hb)
        | (go_at_call 5; refine (lexP_ok w1 HR.out).mono ?_; rintro e w2 ⟨ao, c, rfl, ht, hg, hb⟩; have B2 := hidden (B1.out.trans (hb.mono B1.out.size)); clear ht hg hb))
      go_ret
      exact ⟨rfl, B2.out⟩
    · by_cases c1 : a < (ts.length : Int) + 1
      · obtain ⟨i, rfl⟩ : ∃ i : Nat, a = (i : Int) := ⟨a.toNat, by omega⟩
        obtain ⟨p, ts', t, p1, p2, p3, p4, p5, p6⟩ := cut_law hR (i := i) (by omega)
        have HR2 := hidden p4
        have z2 : ¬ ((ts.length : Int) + 1 ≤ (i : Int)) := by omega
        have zb : (0 : Int) ≤ (i : Int) ∧ (i : Int) < (ts.length : Int) + 1 := ⟨by omega, c1⟩
        have zc : (0 : Int) ≤ (i : Int) ∧ (i : Int) < (i : Int) + 1 := ⟨by omega, by omega⟩
        have hsl : ∀ w', Sem.run Tryd.prog (Instr.slice 9 (.string s) none (some (.int .i64 (p : Int))) none) w' = .ok (.string (s.extract 0 p)) w' := run_str_to p1
        have HP2 := hidden p2
        have HP3 := hidden p3
        have HP5 := hidden p5
        have HP6 := hidden p6
        clear hR p2 p3 p4 p5 p6
        go_enter Tryd.func3, Tryd.ntmps3
        go_wp2_with (first
          | (go_at_call 4; refine HA.out.mono ?_; rintro e w1 ⟨rfl, hb⟩; have B1 := hidden hb; clear hb)
          | (go_at_call 5; refine (lexP_ok w2 HR2.out).mono ?_; rw [HP5.out]; rintro e w3 ⟨ao', c', rfl, ht, ⟨⟨g', e', _⟩, cc'⟩, hb⟩; have T3 := hidden ht; have U3 := hidden (T2.out.below hb); have B3 := hidden (B2.out.trans (hb.mono B2.out.size)); clear hb; subst e'; have d0 : w3.cell? ⟨g', i * 4, none⟩ = some (.int .i64 0) := (end_kind HP5.out ht); clear ht)
          | (go_at_call 5; refine (lexP_ok w1 HR.out).mono ?_; rintro e w2 ⟨ao, c, rfl, ht, ⟨⟨g, e1, _⟩, cc⟩, hb⟩; subst e1; have T2 := hidden ht; have B2 := hidden (B1.out.trans (hb.mono B1.out.size)); have q1 := (place_at ht HP2.out HP3.out); clear ht hb))
        have T4 := hidden (T3.out.take i)
        have U4 := hidden (U3.out.take i)
        rw [HP6.out] at T4
        have hL : ((toks s ts).take i).length = i := by rw [List.length_take, toks_len]; omega
        have HL := hidden hL
        have HS := hidden (fun n => same_yes (some ⟨g', 0, none⟩) (some ⟨g, 0, none⟩) c' c ((toks s ts).take i) (w3.drewN n) (T4.out.drewN n) (U4.out.drewN n) (by omega))
        rw [hL] at HS
        clear hL
        have s1 := run_tok_to (g := g') (n := i + 1) (c := c') (i := i) (by omega)
        have s2 := run_tok_to (g := g) (n := ts.length + 1) (c := c) (i := i) (by omega)
        go_quiet ((go_at_call 6; exact Calls.quiet_of (HS.out _)))
        go_wp2_with fail
        go_ret
        exact ⟨rfl, below_drewN B3.out _⟩
      · have z2 : (ts.length : Int) + 1 ≤ a := by omega
        clear hR
        go_enter Tryd.func3, Tryd.ntmps3
        go_wp2_with (first
          | (go_at_call 4; refine HA.out.mono ?_; rintro e w1 ⟨rfl, hb⟩; have B1 := hidden hb; clear hb)
          | (go_at_call 5; refine (lexP_ok w1 HR.out).mono ?_; rintro e w2 ⟨ao, c, rfl, ht, hg, hb⟩; have B2 := hidden (B1.out.trans (hb.mono B1.out.size)); clear ht hg hb))
        go_ret
        exact ⟨rfl, B2.out⟩
end Go.Proofs.YtapecobalkjdhabDoor
