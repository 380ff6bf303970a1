/-
  Layer 7, the document's own lex: which bytes are which, whether a text stands at a place, comments. No condition but that places are within the source.
-/
import Derived.Test.YtapecobalkjdhaaDoorRows
import Derived.ProofKit
import Derived.OpenShut
import Derived.WalkKit
import Derived.Deep.Slices
import Derived.BigQuiet
import Derived.Laws.Strings2
import Derived.Test.YtapecobalkjdhaaDoorX7Texts
namespace Go.Proofs.YtapecobalkjdhaaDoor
open Go.ChangeShapes Go.WideShapes Go.ChangeAt Go.RowKit Go.Deep
set_option linter.unusedVariables false
set_option maxHeartbeats 1000000

theorem hidden {p : Prop} (h : p) : Hid p := h
/-- A source from a place on. -/
def suf (s : ByteArray) (i : Nat) : List UInt8 := s.data.toList.drop i
theorem suf_len (s : ByteArray) (i : Nat) : (suf s i).length = s.size - i := by unfold suf; rw [List.length_drop]; rfl
theorem suf_cons (s : ByteArray) {i : Nat} (h : i < s.size) : suf s i = s[i] :: suf s (i + 1) := by
  unfold suf
  exact List.drop_eq_getElem_cons (by rw [Array.length_toList]; exact h)
theorem u8_iff (c : UInt8) (n : Nat) (hn : n < 256) : (decide (UInt8.ofNat n ≤ c) = decide ((n : Int) ≤ (c.toNat : Int))) ∧ (decide (c ≤ UInt8.ofNat n) = decide ((c.toNat : Int) ≤ (n : Int))) ∧ ((c == UInt8.ofNat n) = ((c.toNat : Int) == (n : Int))) := by
  have e : (UInt8.ofNat n).toNat = n := by simp; omega
  refine ⟨?_, ?_, ?_⟩
  · congr 1; rw [UInt8.le_iff_toNat_le, e]; exact propext (by omega)
  · congr 1; rw [UInt8.le_iff_toNat_le, e]; exact propext (by omega)
  · rw [Bool.eq_iff_iff, beq_iff_eq, beq_iff_eq, ← UInt8.toNat_inj, e]; omega
theorem small_is (c : UInt8) : smallB c = ((decide ((97 : Int) ≤ (c.toNat : Int)) && decide ((c.toNat : Int) ≤ 122)) || ((c.toNat : Int) == 95)) := by
  unfold smallB
  have h1 := (u8_iff c 97 (by decide)).1
  have h2 := (u8_iff c 122 (by decide)).2.1
  have h3 := (u8_iff c 95 (by decide)).2.2
  exact congr (congrArg _ (congr (congrArg _ h1) h2)) h3
theorem great_is (c : UInt8) : greatB c = (decide ((65 : Int) ≤ (c.toNat : Int)) && decide ((c.toNat : Int) ≤ 90)) := by
  unfold greatB
  exact congr (congrArg _ (u8_iff c 65 (by decide)).1) (u8_iff c 90 (by decide)).2.1
theorem digit_is (c : UInt8) : digitB c = (decide ((48 : Int) ≤ (c.toNat : Int)) && decide ((c.toNat : Int) ≤ 57)) := by
  unfold digitB
  exact congr (congrArg _ (u8_iff c 48 (by decide)).1) (u8_iff c 57 (by decide)).2.1
theorem ret_bool {a b : Bool} (h : a = b) : Ending.returned (.bool a) = .returned (.bool b) := by rw [h]
theorem small_any {b : Bool} (c : UInt8) (w : World) (e : smallB c = b) : Calls Tryd.prog 23 #[.int .u8 (c.toNat : Int)] w fun e w' => e = .returned (.bool b) ∧ w' = w := by
  subst e
  rw [small_is c]
  generalize (c.toNat : Int) = n
  go_enter Tryd.func23, Tryd.ntmps23
  go_wp2
  all_goals go_ret
  all_goals refine ⟨ret_bool ?_, rfl⟩
  all_goals rw [Bool.eq_iff_iff]
  all_goals simp
  all_goals omega
theorem great_any {b : Bool} (c : UInt8) (w : World) (e : greatB c = b) : Calls Tryd.prog 24 #[.int .u8 (c.toNat : Int)] w fun e w' => e = .returned (.bool b) ∧ w' = w := by
  subst e
  rw [great_is c]
  generalize (c.toNat : Int) = n
  go_enter Tryd.func24, Tryd.ntmps24
  go_wp2
  all_goals go_ret
  all_goals refine ⟨ret_bool ?_, rfl⟩
  all_goals rw [Bool.eq_iff_iff]
  all_goals simp
  all_goals omega
theorem digit_any {b : Bool} (c : UInt8) (w : World) (e : digitB c = b) : Calls Tryd.prog 25 #[.int .u8 (c.toNat : Int)] w fun e w' => e = .returned (.bool b) ∧ w' = w := by
  subst e
  rw [digit_is c]
  generalize (c.toNat : Int) = n
  go_enter Tryd.func25, Tryd.ntmps25
  go_wp2
  all_goals go_ret
  all_goals refine ⟨ret_bool ?_, rfl⟩
  all_goals rw [Bool.eq_iff_iff]
  all_goals simp
  all_goals omega
/-- Does a text stand at a place? -/
def atB (s : ByteArray) (i : Nat) (t : ByteArray) : Bool := t.data.toList.isPrefixOf (suf s i)
theorem at_no {s t : ByteArray} {i : Nat} (h : s.size < i + t.size) (hi : i ≤ s.size) : atB s i t = false := by
  unfold atB
  cases e : t.data.toList.isPrefixOf (suf s i) with
  | false => rfl
  | true =>
    have := (List.isPrefixOf_iff_prefix.1 e).length_le
    rw [suf_len] at this
    have e2 : t.data.toList.length = t.size := rfl
    omega
theorem at_yes {s t : ByteArray} {i : Nat} (h : i + t.size ≤ s.size) : ((s.extract i (i + t.size)).toList == t.toList) = atB s i t := by
  rw [Go.ByteArray.toList_eq, Go.ByteArray.toList_eq]
  unfold atB suf
  have e : (s.extract i (i + t.size)).data.toList = (s.data.toList.drop i).take t.size := by
    rw [ByteArray.data_extract]
    simp
  rw [e]
  rw [Bool.eq_iff_iff, beq_iff_eq, List.isPrefixOf_iff_prefix, List.prefix_iff_eq_take]
  exact ⟨fun h => h.symm, fun h => h.symm⟩
theorem at_any {b : Bool} (s t : ByteArray) (i : Nat) (w : World) (hi : i ≤ s.size) (hs : s.size ≤ 1000000) (ht : t.size ≤ 1000000) (e : atB s i t = b) : Calls Tryd.prog 16 #[.string s, .int .i64 (i : Int), .string t] w fun e w' => e = .returned (.bool b) ∧ w' = w := by
  by_cases h : i + t.size ≤ s.size
  · have h2 : (i : Int) + (t.size : Int) ≤ (s.size : Int) := by omega
    have HE : Hid (((s.extract i (i + t.size)).toList == t.toList) = b) := by show _ = _; rw [at_yes h, e]
    have hsl : ∀ w', (Instr.sliceAt 9 (.string s) (some (.int .i64 (i : Int))) (some (.int .i64 ((i : Int) + (t.size : Int)))) none).run Tryd.prog w' = .ok (.string (s.extract i (i + t.size))) w' := fun w' => by
      rw [run_sliceAt_string w' 9 _ _ _ _ Tryd.underlying9, run_slice_string w' 9 s .i64 .i64 (i : Int) ((i : Int) + (t.size : Int)) Tryd.underlying9 (by omega) (by omega) (by omega)]
      rfl
    clear e
    go_enter Tryd.func16, Tryd.ntmps16
    go_wp2
    all_goals go_ret
    all_goals exact ⟨ret_bool HE.out, rfl⟩
  · have h2 : ¬ (i : Int) + (t.size : Int) ≤ (s.size : Int) := by omega
    have HE : Hid (b = false) := by show _ = _; rw [← e]; exact at_no (by omega) hi
    clear e
    go_enter Tryd.func16, Tryd.ntmps16
    go_wp2
    all_goals go_ret
    all_goals exact ⟨ret_bool HE.out.symm, rfl⟩
end Go.Proofs.YtapecobalkjdhaaDoor
