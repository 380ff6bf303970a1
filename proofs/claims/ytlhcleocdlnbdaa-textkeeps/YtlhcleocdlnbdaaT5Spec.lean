/-
  Layer 5: what the program's text is to tell and to make, as the document's own does (the promises P5.1, P5.2, as one structure: proved of the landed code elsewhere); two arenas in one memory. No condition.
-/
import Derived.Test.YtlhcleocdlnbdaaR5Any
import Derived.Test.YtlhcleocdlnbdaaL5Lay
namespace Go.Proofs.Ytlhcleocdlnbdaa
open Go.ChangeShapes Go.WideShapes Go.ChangeAt Go.RowKit Go.Deep
set_option linter.unusedVariables false
set_option maxHeartbeats 1000000

/-- What the program's functions over a word tell and make. -/
structure TextC : Prop where
  read : ∀ {p : Pl} {s : St} {r : RS} (x : Int) (w : World), Ar w p s → Rep s r → 0 ≤ x → x ≤ 18446744073709551615 → Calls Try.prog 15 #[.pointer (some ⟨p.a, 0, none⟩), .int .u64 x] w fun e w' => e = .returned (.tuple #[.string ⟨((textAt s r x).1.getD []).toArray⟩, .int .i64 (textAt s r x).2]) ∧ Below w.heap.size w w'
  length : ∀ {p : Pl} {s : St} {r : RS} (x : Int) (w : World), Ar w p s → Rep s r → 0 ≤ x → x ≤ 18446744073709551615 → Calls Try.prog 13 #[.pointer (some ⟨p.a, 0, none⟩), .int .u64 x] w fun e w' => e = .returned (.tuple #[.int .i64 (((textAt s r x).1.getD []).length : Nat), .int .i64 (textAt s r x).2]) ∧ Below w.heap.size w w'
  byte : ∀ {p : Pl} {s : St} {r : RS} (x i : Int) (w : World), Ar w p s → Rep s r → 0 ≤ x → x ≤ 18446744073709551615 → Calls Try.prog 18 #[.pointer (some ⟨p.a, 0, none⟩), .int .u64 x, .int .i64 i] w fun e w' => e = .returned (.tuple #[.int .u8 (byteAt s r x i).1, .int .i64 (byteAt s r x i).2]) ∧ Below w.heap.size w w'
  put : ∀ {p : Pl} {s : St} {r : RS} (x i : Int) (c : UInt8) (w : World), Ar w p s → Rep s r → 0 ≤ x → x ≤ 18446744073709551615 → Calls Try.prog 20 #[.pointer (some ⟨p.a, 0, none⟩), .int .u64 x, .int .i64 i, u8v c] w fun e w' => e = .returned (.int .i64 (byteAt s r x i).2) ∧ ∃ s', Ar w' p s' ∧ Rep s' (putR s r x i c) ∧ Only p.own w w'
/-- The calls whose answers the document fixes are answered so. -/
def AwakeC : Prop := ∀ w : World, Calls Try.prog 8 #[] w fun e w' => e = .returned (.bool true) ∧ Below w.heap.size w w'
variable {w w' : World} {p : Pl} {s : St} {rb : Nat} {r : RS} {a : Option Addr} {cap : Nat} {V : Nat → Value}
theorem Two.below (h : Two w p s rb r a cap V) (k : Below w.heap.size w w') : Two w' p s rb r a cap V := h.frame (S := fun _ => False) (Only.of_below k) (fun _ _ => id)
theorem Two.four (h : Two w p s rb r a cap V) : 4 ≤ rb := by
  obtain ⟨b1, b2, b3, b4⟩ := h.bo.below
  obtain ⟨cur, hc, _⟩ := h.ar.hc
  obtain ⟨cur2, hb, _⟩ := h.ar.hb
  have ha := h.ar.ha
  have hh := h.ar.hh
  have n1 : p.a ≠ p.h := fun e => by rw [e, hh] at ha; simp at ha
  have n2 : p.a ≠ p.c := fun e => by rw [e, hc] at ha; simp at ha
  have n3 : p.a ≠ p.b := fun e => by rw [e, hb] at ha; simp at ha
  have n4 : p.h ≠ p.c := fun e => by rw [e, hc] at hh; simp at hh
  have n5 : p.h ≠ p.b := fun e => by rw [e, hb] at hh; simp at hh
  have n6 : p.c ≠ p.b := fun e => by rw [e, hb] at hc; simp at hc
  omega
/-- What the statements' own lay makes: one state in both. -/
def LaidOne (w : World) (e : Ending) (w' : World) : Prop :=
  ∃ (p : Pl) (rb : Nat) (s : St) (r : RS) (a : Option Addr) (cap : Nat) (V : Nat → Value) (W : Int), e = .returned (.tuple #[.pointer (some ⟨p.a, 0, none⟩), .pointer (some ⟨rb, 0, none⟩), .int .u64 W]) ∧ Two w' p s rb r a cap V ∧ Below w.heap.size w w' ∧ 0 ≤ W ∧ W ≤ 2 ∧ w.heap.size ≤ p.h ∧ w.heap.size ≤ p.c ∧ w.heap.size ≤ p.b ∧ w.heap.size ≤ rb
theorem lay5_any {al : Option Addr} {m c : Nat} {X : Nat → Int} (t : Int) (w : World) (hz : WS w al m c X) (hmc : m ≤ c) :
    Calls Try.prog 16 #[.int .i64 t, .slice al m c] w fun e w' => LaidOne w e w' := by
  have ok : ∀ {F : List Int} {e : Ending} {w' : World}, LaidYes t F w e w' → LaidOne w e w' := by
    rintro F e w' ⟨p, rb, s, a, cap, V, he, h, hb, _, p2, p3, p4, p5⟩
    exact ⟨p, rb, s, _, a, cap, V, 2, he, h, hb, by omega, by omega, p2, p3, p4, p5⟩
  have no : ∀ {e : Ending} {w' : World}, LaidNo w e w' → LaidOne w e w' := by
    rintro e w' ⟨p, rb, s, a, cap, V, he, h, hb, _, p2, p3, p4, p5⟩
    exact ⟨p, rb, s, _, a, cap, V, 0, he, h, hb, by omega, by omega, p2, p3, p4, p5⟩
  by_cases hm : 40 < m
  · cases ht : St.mayLie t with
    | true => exact (lay5_okB t w hz hm hmc ht).mono (fun e w' => ok)
    | false => exact (lay5_noB t w hz hm hmc ht).mono (fun e w' => no)
  · cases ht : St.mayLie t with
    | true => exact (lay5_ok t w hz (by omega) ht).mono (fun e w' => ok)
    | false => exact (lay5_no t w hz (by omega) ht).mono (fun e w' => no)
end Go.Proofs.Ytlhcleocdlnbdaa
