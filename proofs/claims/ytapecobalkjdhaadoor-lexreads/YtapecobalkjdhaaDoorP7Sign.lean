/-
  Layer 7, the program's reader: signs. Condition: the reader lies in memory.
-/
import Derived.Test.YtapecobalkjdhaaDoorP7Read
import Derived.Test.YtapecobalkjdhaaDoorP7Words
namespace Go.Proofs.YtapecobalkjdhaaDoor
open Go.ChangeShapes Go.WideShapes Go.ChangeAt Go.RowKit Go.Deep
set_option linter.unusedVariables false
set_option maxHeartbeats 1000000

/-- The longest sign of n bytes at most that stands there. -/
def signFrom (l : List UInt8) : Nat → Option (List UInt8)
  | 0 => none
  | n + 1 => if signsL.contains (l.take (n + 1)) then some (l.take (n + 1)) else signFrom l n
theorem find_len (l : List UInt8) (n : Nat) : ∀ L : List (List UInt8), (∀ s, s ∈ L → s.length = n) → L.find? (fun s => s.isPrefixOf l) = if L.contains (l.take n) then some (l.take n) else none
  | [], _ => rfl
  | s :: L, h => by
    have hs := h s (List.mem_cons_self)
    have ih := find_len l n L (fun x hx => h x (List.mem_cons_of_mem _ hx))
    have e : s.isPrefixOf l = (l.take n == s) := by
      rw [Bool.eq_iff_iff, List.isPrefixOf_iff_prefix, List.prefix_iff_eq_take, hs, beq_iff_eq]
      exact eq_comm
    rw [List.find?_cons, e, List.contains_cons]
    cases c : (l.take n == s) with
    | true => simp only [Bool.true_or, if_true]; rw [beq_iff_eq.1 c]
    | false => simp only [Bool.false_or]; exact ih
def twoL : List (List UInt8) := signsL.take 13
def oneL : List (List UInt8) := signsL.drop 13
theorem signs_split : signsL = twoL ++ oneL := rfl
theorem two_len : ∀ s, s ∈ twoL → s.length = 2 := by decide
theorem one_len : ∀ s, s ∈ oneL → s.length = 1 := by decide
theorem contains_len {L : List (List UInt8)} {n : Nat} {x : List UInt8} (h : ∀ s, s ∈ L → s.length = n) (hx : x.length ≠ n) : L.contains x = false := by
  cases c : L.contains x with
  | false => rfl
  | true => exact absurd (h x (List.contains_iff_mem.1 c)) hx
theorem contains_app (A B : List (List UInt8)) (x : List UInt8) : (A ++ B).contains x = (A.contains x || B.contains x) := by
  rw [Bool.eq_iff_iff, Bool.or_eq_true, List.contains_iff_mem, List.contains_iff_mem, List.contains_iff_mem, List.mem_append]
theorem find_signs (l : List UInt8) : signsL.find? (fun s => s.isPrefixOf l) = signFrom l (min 2 l.length) := by
  rw [signs_split, List.find?_append, find_len l 2 twoL two_len, find_len l 1 oneL one_len]
  have k0 : ∀ x : List UInt8, x.length = 0 → twoL.contains x = false ∧ oneL.contains x = false := fun x hx => ⟨contains_len two_len (by omega), contains_len one_len (by omega)⟩
  have k1 : ∀ x : List UInt8, x.length = 1 → signsL.contains x = oneL.contains x := fun x hx => by rw [signs_split, contains_app, contains_len two_len (by omega), Bool.false_or]
  have k2 : ∀ x : List UInt8, x.length = 2 → signsL.contains x = twoL.contains x := fun x hx => by rw [signs_split, contains_app, contains_len one_len (by omega), Bool.or_false]
  rcases l with _ | ⟨a, _ | ⟨c, l⟩⟩
  · rfl
  · have e : min 2 ([a] : List UInt8).length = 1 := rfl
    rw [e]
    simp only [signFrom]
    rw [k1 (([a] : List UInt8).take (0 + 1)) rfl]
    have : twoL.contains (([a] : List UInt8).take 2) = false := contains_len two_len (by simp)
    rw [this]
    rfl
  · have e : min 2 (a :: c :: l).length = 2 := by simp
    rw [e]
    simp only [signFrom]
    rw [k1 ((a :: c :: l).take (0 + 1)) rfl, k2 ((a :: c :: l).take (1 + 1)) rfl]
    cases h2 : twoL.contains ((a :: c :: l).take 2) with
    | true => rfl
    | false => rfl
theorem take_suf {s : ByteArray} {i n : Nat} (h : i + n ≤ s.size) : (s.extract i (i + n)).data.toList = (suf s i).take n := by
  rw [ext_suf (by omega) h, show i + n - i = n by omega]
/-- What is so behind a sign. -/
def SignAs (F : Option (List UInt8)) (b : Nat) (s : ByteArray) (i f : Nat) (w : World) (e : Ending) (w' : World) : Prop :=
  match F with
  | some x => e = .returned (.string ⟨x.toArray⟩) ∧ RD w' b s (i + x.length) f ∧ OnlyB b w w'
  | none => e = .panicked [faultP 20 f] ∧ OnlyB b w w'
set_option maxRecDepth 20000 in
theorem sign_as {w : World} {b : Nat} {s : ByteArray} {i f : Nat} (h : RD w b s i f) (hi : i ≤ s.size) (hs : s.size ≤ 1000000) : Calls Tryd.prog 43 #[.pointer (some ⟨b, 0, none⟩)] w fun e w' => SignAs (signsL.find? (fun x => x.isPrefixOf (suf s i))) b s i f w e w' := by
  rw [find_signs]
  obtain ⟨F, hF⟩ : ∃ F, signFrom (suf s i) (min 2 (suf s i).length) = F := ⟨_, rfl⟩
  rw [hF]
  rw [suf_len] at hF
  have HF := hidden hF
  have H := hidden h
  obtain ⟨c0, c1, c2, hf⟩ := h.cells
  have e1 := wrapId ((s.size : Int) - (i : Int)) (by omega) (by omega)
  obtain ⟨m, hm⟩ : ∃ m, min 2 (s.size - i) = m := ⟨_, rfl⟩
  rw [hm] at HF
  have m1 : m ≤ 2 := by omega
  have m2 : i + m ≤ s.size := by omega
  have hmin : ∀ w' : World, Sem.run Tryd.prog (Builtin.min_ #[3, 3] 3 #[.int .i64 2, .int .i64 ((s.size : Int) - (i : Int))]) w' = .ok (.int .i64 (m : Int)) w' := fun w' => by
    have e : Builtin.min_ #[3, 3] 3 #[.int .i64 2, .int .i64 ((s.size : Int) - (i : Int))] = pure (.int .i64 (if (s.size : Int) - (i : Int) < 2 then (s.size : Int) - (i : Int) else 2)) := rfl
    rw [e, Sem.run_pure]
    congr 2
    split <;> omega
  clear hF h hm
  go_enter Tryd.func43, Tryd.ntmps43
  go_wp2_with fail
  go_quiet (fail)
  go_wp2_with fail
  have H1 := hidden (H.out.drewN nq)
  have O1 := hidden ((Only.refl (fun k => k = b) w).drewN nq)
  clear c0 c1 c2 hf H hmin e1
  generalize w.drewN nq = w1 at *
  go_loopg [3] m (fun gk nv wr => ∃ n : Nat, gk = n ∧ nv = .int .i64 (n : Int) ∧ n ≤ 2 ∧ i + n ≤ s.size ∧ signFrom (suf s i) n = F ∧ RD wr b s i f ∧ OnlyB b w wr)
  case atStart => exact ⟨m, rfl, rfl, m1, m2, HF.out, H1.out, O1.out⟩
  case round =>
    clear HF H1 O1
    obtain ⟨n, rfl, rfl, n1, n2, n3, n4, n5⟩ := hrel
    have HF := hidden n3
    have HR := hidden n4
    have HO := hidden n5
    obtain ⟨c0, c1, c2, hf⟩ := n4.cells
    clear n3 n4 n5
    by_cases hz : gk = 0
    · subst hz
      have HE : Hid (F = none) := HF.out.symm
      go_wp2_with (go_at_call 56; refine (giveUp_any 20 HR.out).mono ?_; rintro e w7 ⟨rfl, hw'⟩; rw [hw']; clear hw' w7)
      refine And.intro rfl ?_
      rw [HE.out]
      exact ⟨rfl, HO.out⟩
    · obtain ⟨n, rfl⟩ : ∃ n, gk = n + 1 := ⟨gk - 1, by omega⟩
      have e1 := wrapId ((i : Int) + ((n + 1 : Nat) : Int)) (by omega) (by omega)
      have hsl : ∀ w', Sem.run Tryd.prog (Instr.slice 9 (.string s) (some (.int .i64 (i : Int))) (some (.int .i64 ((i : Int) + ((n + 1 : Nat) : Int)))) none) w' = .ok (.string (s.extract i (i + (n + 1)))) w' := fun w' => by
        rw [run_slice_string w' 9 s .i64 .i64 (i : Int) ((i : Int) + ((n + 1 : Nat) : Int)) Tryd.underlying9 (by omega) (by omega) (by omega)]
        rfl
      have hsl2 : ∀ w', Sem.run Tryd.prog (Instr.slice 9 (.string s) (some (.int .i64 (i : Int))) (some (.int .i64 ((i : Int) + ((n : Int) + 1)))) none) w' = .ok (.string (s.extract i (i + (n + 1)))) w' := hsl
      have zp : (0 : Int) < (n : Int) + 1 := by omega
      have hf2 := HF.out
      rw [signFrom] at hf2
      cases hc : signsL.contains ((suf s i).take (n + 1)) with
      | true =>
        rw [hc, if_pos rfl] at hf2
        have HE := hidden hf2
        have HC : Hid (signsL.contains (s.extract i (i + (n + 1))).data.toList = true) := by show _ = _; rw [take_suf n2]; exact hc
        have HL : Hid (((suf s i).take (n + 1)).length = n + 1) := by show _ = _; rw [List.length_take, suf_len]; omega
        have HX := hidden (ext_suf (s := s) (i := i) (k := i + (n + 1)) (by omega) n2)
        clear hf2 hc HF
        go_wp2_with fail
        go_quiet (fail)
        clear hsl hsl2
        have HR1 := hidden (HR.out.drewN nq)
        have HO1 := hidden (HO.out.drewN nq)
        obtain ⟨d0, d1, d2, df⟩ := HR1.out.cells
        clear c0 c1 c2 hf HR HO
        generalize wr.drewN nq = w2 at *
        go_wp2_with (go_at_call 59; refine (isSign_any _ _ HC.out).mono ?_; rintro e w7 ⟨rfl, hw'⟩; rw [hw']; clear hw' w7)
        go_ret
        rw [← HE.out]
        refine ⟨?_, ?_, HO1.out.setCell (a := ⟨b, 1, none⟩) (Or.inr rfl) _⟩
        · rw [HX.out, show i + (n + 1) - i = n + 1 by omega]; rfl
        · rw [HL.out]; exact HR1.out.to1 (by omega)
      | false =>
        rw [hc, if_neg (by decide)] at hf2
        have HE := hidden hf2
        have HC : Hid (signsL.contains (s.extract i (i + (n + 1))).data.toList = false) := by show _ = _; rw [take_suf n2]; exact hc
        clear hf2 hc HF
        go_wp2_with fail
        go_quiet (fail)
        clear hsl hsl2
        have HR1 := hidden (HR.out.drewN nq)
        have HO1 := hidden (HO.out.drewN nq)
        clear c0 c1 c2 hf HR HO
        generalize wr.drewN nq = w2 at *
        go_wp2_with (go_at_call 59; refine (isSign_any _ _ HC.out).mono ?_; rintro e w7 ⟨rfl, hw'⟩; rw [hw']; clear hw' w7)
        go_roundg n
        case rel => exact ⟨n, rfl, by go_num, by omega, by omega, HE.out, HR1.out, HO1.out⟩
        case measure => omega
end Go.Proofs.YtapecobalkjdhaaDoor
