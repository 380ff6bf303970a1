/-
  Layer 7, the statements: tokens' cells, parts of texts and of lists of tokens.
-/
import Derived.Test.YtapecobalkjdhaaDoorX7Law
namespace Go.Proofs.YtapecobalkjdhaaDoor
open Go.ChangeShapes Go.WideShapes Go.ChangeAt Go.RowKit Go.Deep
set_option linter.unusedVariables false
set_option maxHeartbeats 2000000
set_option maxRecDepth 20000

theorem toks_end {s : ByteArray} {ts : List (Tk × Nat)} : (toks s ts)[ts.length]? = some (endV s.size) := by
  unfold toks
  rw [List.getElem?_append_right (by rw [tvs_len]; omega), tvs_len, Nat.sub_self]
  rfl
theorem run_str_to {s : ByteArray} {p : Nat} (hp : p ≤ s.size) (w : World) : Sem.run Tryd.prog (Instr.slice 9 (.string s) none (some (.int .i64 (p : Int))) none) w = .ok (.string (s.extract 0 p)) w := by
  have h1 : (0 : Int) ≤ (p : Int) ∧ (p : Int) ≤ (s.size : Int) := ⟨by omega, by omega⟩
  rw [run_slice_string_to_if w 9 s .i64 (p : Int) Tryd.underlying9, if_pos h1]
  rfl
theorem end_kind {w : World} {g i : Nat} {s : ByteArray} {ts : List (Tk × Nat)} (hi : ts.length = i) (h : TS w (some ⟨g, 0, none⟩) (toks s ts)) : w.cell? ⟨g, i * 4, none⟩ = some (.int .i64 0) := by
  obtain ⟨g', e, d0, _⟩ := h.at_ i (endV _) (by rw [← hi]; exact toks_end)
  simp only [Option.some.injEq, Addr.mk.injEq, and_true] at e
  rw [e]
  exact d0
theorem place_at {w : World} {g i p : Nat} {L : List TV} {t : TV} (h : TS w (some ⟨g, 0, none⟩) L) (ht : L[i]? = some t) (hp : t.pl = (p : Int)) : w.cell? ⟨g, i * 4 + 1, none⟩ = some (.int .i64 (p : Int)) := by
  obtain ⟨g', e, _, d1, _⟩ := h.at_ i t ht
  simp only [Option.some.injEq, Addr.mk.injEq, and_true] at e
  rw [e, ← hp]
  exact d1
theorem run_tok_to {g n c i : Nat} (hi : i ≤ c) (w : World) : Sem.run Tryd.prog (Instr.slice 23 (.slice (some ⟨g, 0, none⟩) n c) none (some (.int .i64 (i : Int))) none) w = .ok (.slice (some ⟨g, 0, none⟩) i c) w := by
  rw [run_slice_h w 23 (some ⟨g, 0, none⟩) n c (by kernel_rfl) .i64 (i : Int) (by omega) (by omega)]
  simp [go_sem, sliced]
end Go.Proofs.YtapecobalkjdhaaDoor
