/-
  Layer 7: LexReads, walked: it returns true. Condition: the table of powers of ten reads as its initialiser lays it.
-/
import Derived.Test.YtapecobalkjdhaaDoorR7Lex
namespace Go.Proofs.YtapecobalkjdhaaDoor
open Go.ChangeShapes Go.WideShapes Go.ChangeAt Go.RowKit Go.Deep
set_option linter.unusedVariables false
set_option maxHeartbeats 4000000
set_option maxRecDepth 20000

theorem lexD_ok {s : ByteArray} {ts : List (Tk × Nat)} (w : World) (h : lexR s = .ok ts) : Calls Tryd.prog 10 #[.string s] w fun e w' => ∃ ao c, e = .returned (.tuple #[.slice ao (ts.length + 1) c, .int .i64 0, .int .i64 0]) ∧ TS w' ao (toks s ts) ∧ Below w.heap.size w w' := by
  obtain ⟨h1, h2⟩ := lexR_ok h
  have := lexD_as s w h1
  rw [h2] at this
  refine this.mono (fun e w' hh => ?_)
  obtain ⟨v, rfl, ht, hb⟩ := hh
  obtain ⟨ao, c, rfl⟩ := ht.slice
  exact ⟨ao, c, by rw [← toks_len s ts]; rfl, (TR.ts ht).2, hb⟩
theorem lexD_err {s : ByteArray} {e' : Int} {k : Nat} (w : World) (h : lexR s = .error (e', k)) (hz : s.size ≤ maxLen) : Calls Tryd.prog 10 #[.string s] w fun e w' => e = .returned (.tuple #[.slice none 0 0, .int .i64 e', .int .i64 ((s.size - k : Nat) : Int)]) ∧ Below w.heap.size w w' := by
  unfold lexR at h
  split at h
  · rename_i hbig
    simp only [Except.error.injEq, Prod.mk.injEq] at h
    obtain ⟨rfl, rfl⟩ := h
    rw [Nat.sub_self]
    exact lexD_big s w hbig hz
  · have := lexD_as s w (by omega)
    rw [h] at this
    exact this
theorem ts_nil (w : World) : TS w none [] := ⟨fun i t h => by simp at h⟩
theorem lexReads_walk (s : ByteArray) (w : World) (hza : s.size ≤ 140737488351232) (htab : Lib.TabIs Tryd.prog w "internal/strconv.uint64pow10" .u64 Lib.pow10Tab) :
    Calls Tryd.prog 3 #[.string s] w fun e w' => e = .returned (.bool true) ∧ Below w.heap.size w w' := by
  have HA := hidden (awake_any w htab)
  have hz : s.size ≤ maxLen := by unfold maxLen; omega
  clear htab
  cases hR : lexR s with
  | error ek =>
    obtain ⟨e', k⟩ := ek
    have HR := hidden hR
    clear hR
    go_enter Tryd.func3, Tryd.ntmps3
    go_wp2_with (first
      | (go_at_call 8; refine HA.out.mono ?_; rintro e w1 ⟨rfl, hb⟩; have B1 := hidden hb; clear hb)
      | (go_at_call 9; refine (lexP_err w1 HR.out hz).mono ?_; rintro e w2 ⟨rfl, hb⟩; have B2 := hidden (B1.out.trans (hb.mono B1.out.size)); clear hb)
      | (go_at_call 10; refine (lexD_err w2 HR.out hz).mono ?_; rintro e w3 ⟨rfl, hb⟩; have B3 := hidden (B2.out.trans (hb.mono B2.out.size)); clear hb)
      | (go_at_call 11; refine (same_yes none none 0 0 [] w3 (ts_nil _) (ts_nil _) (by decide)).mono ?_; rintro e w4 ⟨rfl, n, hw4⟩; have B4 : Hid (Below w.heap.size w w4) := hw4 ▸ below_drewN B3.out n; clear hw4))
    go_ret
    exact ⟨rfl, B4.out⟩
  | ok ts =>
    have HR := hidden hR
    obtain ⟨hs, hlen⟩ := lexR_count hR
    have hM := toks_len s ts
    have HM := hidden hM
    clear hR hM
    go_enter Tryd.func3, Tryd.ntmps3
    go_wp2_with (first
      | (go_at_call 8; refine HA.out.mono ?_; rintro e w1 ⟨rfl, hb⟩; have B1 := hidden hb; clear hb)
      | (go_at_call 9; refine (lexP_ok w1 HR.out).mono ?_; rintro e w2 ⟨ao, c, rfl, ht, _, hb⟩; have T2 := hidden ht; have B2 := hidden (B1.out.trans (hb.mono B1.out.size)); clear ht hb)
      | (go_at_call 10; refine (lexD_ok w2 HR.out).mono ?_; rintro e w3 ⟨ao', c', rfl, ht, hb⟩; have T3 := hidden ht; have U3 := hidden (T2.out.below hb); have B3 := hidden (B2.out.trans (hb.mono B2.out.size)); clear ht hb)
      | (go_at_call 11; rw [← HM.out]; refine (same_yes ao ao' c c' (toks s ts) w3 U3.out T3.out (by rw [HM.out]; omega)).mono ?_; rintro e w4 ⟨rfl, n, hw4⟩; have B4 : Hid (Below w.heap.size w w4) := hw4 ▸ below_drewN B3.out n; clear hw4))
    go_ret
    exact ⟨rfl, B4.out⟩
end Go.Proofs.YtapecobalkjdhaaDoor
