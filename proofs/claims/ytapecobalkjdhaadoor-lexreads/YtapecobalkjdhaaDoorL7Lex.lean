/-
  Layer 7, the statements: what Lex tells of any source, by the plain function; awake. Condition of awake: the table of powers of ten reads as its initialiser lays it.
-/
import Derived.Test.YtapecobalkjdhaaDoorL7Same
import Derived.Test.YtapecobalkjdhaaDoorP7Words
namespace Go.Proofs.YtapecobalkjdhaaDoor
open Go.ChangeShapes Go.WideShapes Go.ChangeAt Go.RowKit Go.Deep
set_option linter.unusedVariables false
set_option maxHeartbeats 1000000

/-- What Lex tells of a source. -/
def lexR (s : ByteArray) : Except (Int × Nat) (List (Tk × Nat)) := if 4096 < s.size then .error (4, s.size) else lexC docW (suf s 0)
/-- A source's tokens with their places, the end behind them. -/
def toks (s : ByteArray) (ts : List (Tk × Nat)) : List TV := tvs s.size ts ++ [endV s.size]
theorem toks_len (s : ByteArray) (ts : List (Tk × Nat)) : (toks s ts).length = ts.length + 1 := by
  unfold toks
  rw [List.length_append, tvs_len]
  rfl
theorem lexR_ok {s : ByteArray} {ts : List (Tk × Nat)} (h : lexR s = .ok ts) : s.size ≤ 4096 ∧ lexC docW (suf s 0) = .ok ts := by
  unfold lexR at h
  split at h
  · cases h
  · exact ⟨by omega, h⟩
theorem lexP_ok {s : ByteArray} {ts : List (Tk × Nat)} (w : World) (h : lexR s = .ok ts) : Calls Tryd.prog 9 #[.string s] w fun e w' => ∃ ao c, e = .returned (.tuple #[.slice ao (ts.length + 1) c, .int .i64 0, .int .i64 0]) ∧ TS w' ao (toks s ts) ∧ ((∃ g, ao = some ⟨g, 0, none⟩ ∧ w.heap.size ≤ g ∧ ∃ cur, w'.heap[g]? = some (.cells cur 31 (0, 0))) ∧ ts.length + 1 ≤ c) ∧ Below w.heap.size w w' := by
  obtain ⟨h1, h2⟩ := lexR_ok h
  have := lexP_as s w h1
  rw [h2] at this
  refine this.mono (fun e w' hh => ?_)
  obtain ⟨hb, v, rfl, ht⟩ := hh
  obtain ⟨ao, c, rfl⟩ := ht.slice
  refine ⟨ao, c, by rw [← toks_len s ts]; rfl, (TR.ts ht).2, ?_, hb⟩
  rcases ht.2 with ⟨e, hn⟩ | ⟨g, cap, cur, e, h3, h4, h5, h6⟩
  · have := toks_len s ts
    unfold toks at this
    omega
  · simp only [Value.slice.injEq] at e
    obtain ⟨rfl, _, rfl⟩ := e
    refine ⟨⟨g, rfl, h3, cur, h4⟩, ?_⟩
    rw [← toks_len s ts]
    exact h5
theorem lexP_err {s : ByteArray} {e' : Int} {k : Nat} (w : World) (h : lexR s = .error (e', k)) (hz : s.size ≤ maxLen) : Calls Tryd.prog 9 #[.string s] w fun e w' => e = .returned (.tuple #[.slice none 0 0, .int .i64 e', .int .i64 ((s.size - k : Nat) : Int)]) ∧ Below w.heap.size w w' := by
  unfold lexR at h
  split at h
  · rename_i hbig
    simp only [Except.error.injEq, Prod.mk.injEq] at h
    obtain ⟨rfl, rfl⟩ := h
    rw [Nat.sub_self]
    exact lexP_big s w hbig hz
  · have := lexP_as s w (by omega)
    rw [h] at this
    exact this.mono (fun e w' hh => ⟨hh.2, hh.1⟩)
theorem lexes_count {W : LexW} (hW : SignsOk W) {l : List UInt8} {ts : List (Tk × Nat)} (h : Lexes W l ts) : ts.length ≤ l.length := by
  induction h with
  | nil => simp
  | blank hc h ih => simp only [List.length_cons]; omega
  | comment hc h ih => have := skipC_len _ _ hc; simp only [List.length_cons]; omega
  | tok hb hn ht h ih => have := tok_len hW ht; simp only [List.length_cons]; omega
theorem lexR_count {s : ByteArray} {ts : List (Tk × Nat)} (h : lexR s = .ok ts) : s.size ≤ 4096 ∧ ts.length ≤ 4096 := by
  have h1 := lexes_count docSigns ((lexC_lexes docSigns).1 (lexR_ok h).2)
  rw [suf_len] at h1
  have := (lexR_ok h).1
  omega
theorem tok_err {l : List UInt8} {e : Int} (h : tokAt docW l = .error e) : e ≠ 0 := by
  unfold tokAt at h
  split at h
  · simp only [Except.error.injEq] at h; omega
  · split at h
    · cases h
    · split at h
      · split at h
        · simp only [Except.error.injEq] at h; omega
        · split at h
          · rename_i c _; simp only [Except.error.injEq] at h; rw [← h]; assumption
          · cases h
      · split at h
        · split at h
          · cases h
          · simp only [Except.error.injEq] at h; omega
        · split at h
          · cases h
          · simp only [Except.error.injEq] at h; omega
theorem lexF_err : ∀ (n : Nat) (l : List UInt8) {e : Int} {k : Nat}, l.length < n → lexF docW n l = .error (e, k) → e ≠ 0
  | 0, l, e, k, hn, h => by omega
  | n + 1, [], e, k, hn, h => by cases h
  | n + 1, c :: x, e, k, hn, h => by
    simp only [List.length_cons] at hn
    unfold lexF at h
    by_cases c1 : blankB c = true
    · rw [if_pos c1] at h; exact lexF_err n x (by omega) h
    · rw [if_neg c1] at h
      by_cases c2 : opensC (c :: x) = true
      · rw [if_pos c2] at h
        cases hr : skipC 0 (x.drop 1) with
        | none => rw [hr] at h; simp only [Except.error.injEq, Prod.mk.injEq] at h; omega
        | some r =>
          rw [hr] at h
          have := skipC_len _ _ hr
          rw [List.length_drop] at this
          exact lexF_err n r (by omega) h
      · rw [if_neg c2] at h
        cases ht : tokAt docW (c :: x) with
        | error e2 =>
          rw [ht] at h
          simp only [Except.error.injEq, Prod.mk.injEq] at h
          rw [← h.1]
          exact tok_err ht
        | ok p =>
          obtain ⟨t, r⟩ := p
          rw [ht] at h
          simp only at h
          have hl := tok_len docSigns ht
          simp only [List.length_cons] at hl
          cases hr : lexF docW n r with
          | error ek =>
            rw [hr] at h
            obtain ⟨e3, k3⟩ := ek
            simp only [Except.error.injEq, Prod.mk.injEq] at h
            rw [← h.1]
            exact lexF_err n r (by omega) hr
          | ok us => rw [hr] at h; cases h
theorem lexR_err {s : ByteArray} {e : Int} {k : Nat} (h : lexR s = .error (e, k)) : e ≠ 0 := by
  unfold lexR at h
  split at h
  · simp only [Except.error.injEq, Prod.mk.injEq] at h; omega
  · exact lexF_err _ _ (by omega) h
def awA : ByteArray := ⟨#[108, 101, 116, 32, 120, 39, 32, 61, 32, 49, 40, 42, 32, 97, 32, 40, 42, 32, 98, 32, 42, 41, 32, 42, 41]⟩
def awB : ByteArray := ⟨#[97, 32, 40, 42, 32, 40, 42, 32, 42, 41]⟩
theorem aw_a : lexR awA = .ok [(⟨5, [108, 101, 116], 0⟩, 25), (⟨3, [120, 39], 0⟩, 21), (⟨5, [61], 0⟩, 18), (⟨1, [], 1⟩, 16)] := by kernel_rfl
theorem aw_b : lexR awB = .error (20, 8) := by kernel_rfl
theorem aw_lex1 (w : World) : Calls Tryd.prog 9 #[.string ⟨#[108, 101, 116, 32, 120, 39, 32, 61, 32, 49, 40, 42, 32, 97, 32, 40, 42, 32, 98, 32, 42, 41, 32, 42, 41]⟩] w fun e w' => ∃ g c, e = .returned (.tuple #[.slice (some ⟨g, 0, none⟩) 5 c, .int .i64 0, .int .i64 0]) ∧ (w'.cell? ⟨g, 7, none⟩ = some (.string ⟨#[120, 39]⟩) ∧ w'.cell? ⟨g, 14, none⟩ = some (.int .i64 1) ∧ w'.cell? ⟨g, 17, none⟩ = some (.int .i64 25)) ∧ Below w.heap.size w w' := by
  have h : Calls Tryd.prog 9 #[.string awA] w _ := lexP_ok w aw_a
  refine Calls.mono h ?_
  rintro e w' ⟨ao, c, rfl, ht, _, hb⟩
  obtain ⟨g, rfl, _, _, _, h1⟩ := ht.at_ 1 ⟨3, 4, 0, [120, 39]⟩ rfl
  obtain ⟨g2, e2, _, _, h2, _⟩ := ht.at_ 3 ⟨1, 9, 1, []⟩ rfl
  obtain ⟨g3, e3, _, h3, _, _⟩ := ht.at_ 4 ⟨0, 25, 0, []⟩ rfl
  simp only [Option.some.injEq, Addr.mk.injEq, and_true] at e2 e3
  subst e2
  subst e3
  exact ⟨g, c, rfl, ⟨h1, h2, h3⟩, hb⟩
theorem aw_lex2 (w : World) : Calls Tryd.prog 9 #[.string ⟨#[97, 32, 40, 42, 32, 40, 42, 32, 42, 41]⟩] w fun e w' => e = .returned (.tuple #[.slice none 0 0, .int .i64 20, .int .i64 2]) ∧ Below w.heap.size w w' := by
  have h : Calls Tryd.prog 9 #[.string awB] w _ := lexP_err w aw_b (by decide)
  exact h
theorem aw_text (w : World) (htab : Lib.TabIs Tryd.prog w "internal/strconv.uint64pow10" .u64 Lib.pow10Tab) : Calls Tryd.prog 12 #[.agg #[.int .i64 2, .int .i64 0, .int .i64 0, .string ⟨#[97, 10]⟩]] w fun e w' => e = .returned (.string ⟨#[34, 97, 92, 110, 34]⟩) ∧ Below w.heap.size w w' := textP_any 2 0 0 ⟨#[97, 10]⟩ w (by decide) (by decide) (by decide) htab
set_option maxRecDepth 20000 in
theorem awake_any (w : World) (htab : Lib.TabIs Tryd.prog w "internal/strconv.uint64pow10" .u64 Lib.pow10Tab) : Calls Tryd.prog 8 #[] w fun e w' => e = .returned (.bool true) ∧ Below w.heap.size w w' := by
  have HT := hidden htab
  have HW1 := hidden (fun w => isWordP_any (b := true) ⟨#[108, 101, 116]⟩ w (by decide))
  have HW2 := hidden (fun w => isWordP_any (b := false) ⟨#[108, 101, 116, 115]⟩ w (by decide))
  clear htab
  go_enter Tryd.func8, Tryd.ntmps8
  go_wp2_with fail
  refine (aw_lex1 _).mono ?_
  rintro e w1 ⟨g, c, rfl, ⟨h1, h2, h3⟩, hb1⟩
  have B1 := hidden hb1
  have C1 := hidden (show w1.cell? ⟨g, 7, none⟩ = some (.string ⟨#[120, 39]⟩) ∧ w1.cell? ⟨g, 14, none⟩ = some (.int .i64 1) ∧ w1.cell? ⟨g, 17, none⟩ = some (.int .i64 25) from ⟨h1, h2, h3⟩)
  have hg := cell_lt h1
  clear hb1 h1 h2 h3
  go_wp2_with fail
  refine (aw_lex2 _).mono ?_
  rintro e w2 ⟨rfl, hb2⟩
  have B2 := hidden (B1.out.trans (hb2.mono B1.out.size))
  have k1 : w2.cell? ⟨g, 7, none⟩ = some (.string ⟨#[120, 39]⟩) := (World.cell?_of_block (a := ⟨g, 7, none⟩) (hb2.block g hg)).trans C1.out.1
  have k2 : w2.cell? ⟨g, 14, none⟩ = some (.int .i64 1) := (World.cell?_of_block (a := ⟨g, 14, none⟩) (hb2.block g hg)).trans C1.out.2.1
  have k3 : w2.cell? ⟨g, 17, none⟩ = some (.int .i64 25) := (World.cell?_of_block (a := ⟨g, 17, none⟩) (hb2.block g hg)).trans C1.out.2.2
  clear hb2 C1
  go_wp2_with (first
    | (go_at_call 13; first
      | (with_reducible refine (HW1.out _).mono ?_; rintro e w' ⟨rfl, hw'⟩; rw [hw']; clear hw' w')
      | (with_reducible refine (HW2.out _).mono ?_; rintro e w' ⟨rfl, hw'⟩; rw [hw']; clear hw' w'))
    | (go_at_call 12; refine (aw_text _ (tab_below HT.out B2.out)).mono ?_; rintro e w3 ⟨rfl, hb3⟩; have B3 := hidden (B2.out.trans (hb3.mono B2.out.size)); clear hb3))
  go_ret
  exact ⟨rfl, B3.out⟩
end Go.Proofs.YtapecobalkjdhaaDoor
