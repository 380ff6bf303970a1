/-
  Layer 5: which text a word holds, a byte of it, what it is when a byte is put: plain; and that the document's own functions tell so. Condition: the document's own arena lies in memory.
-/
import Derived.Test.YtlhcleocdlnbdaaR5Put
namespace Go.Proofs.Ytlhcleocdlnbdaa
open Go.ChangeShapes Go.WideShapes Go.ChangeAt Go.RowKit Go.Deep
set_option linter.unusedVariables false
set_option maxHeartbeats 1000000

theorem find2_lo (s : St) (x : Int) : 0 ≤ (s.find x).2 := by
  unfold St.find
  split
  · exact Int.le_refl _
  · split
    · exact Int.le_refl _
    · split
      · exact sizeW_lo _
      · exact Int.le_refl _
/-- The text that a word holds, and what is wrong. -/
def textAt (s : St) (r : RS) (x : Int) : Option (List UInt8) × Int :=
  if (s.find x).1 = 0 ∨ 0 < (s.find x).2 then (none, 6)
  else match leadI s r x with
    | none => (none, 6)
    | some k => (textF (blkAt r k), if (textF (blkAt r k)).isSome then 0 else 5)
/-- A byte of it, and what is wrong. -/
def byteAt (s : St) (r : RS) (x i : Int) : Int × Int := if (textAt s r x).2 = 6 then (0, 6) else byteOut (textAt s r x).1 i
/-- What the blocks are when a byte is put. -/
def putR (s : St) (r : RS) (x i : Int) (c : UInt8) : RS :=
  match leadI s r x, (textAt s r x).1 with
  | some k, some l => if 0 ≤ i ∧ i < l.length then r.withF k (blkAt r k) (fieldsT (l.set i.toNat c)) else r
  | _, _ => r
theorem text_cases {s : St} {r : RS} (h : Rep s r) (x : Int) : (((s.find x).1 = 0 ∨ 0 < (s.find x).2) ∧ textAt s r x = (none, 6)) ∨ ∃ k b, r.L[k]? = some b ∧ (s.find x).1 = b.ad ∧ (s.find x).2 = 0 ∧ (b.ad : Int) = addrW x ∧ leadI s r x = some k ∧ blkAt r k = b ∧ textAt s r x = (textF b, if (textF b).isSome then 0 else 5) := by
  by_cases g : (s.find x).1 = 0 ∨ 0 < (s.find x).2
  · exact Or.inl ⟨g, by unfold textAt; rw [if_pos g]⟩
  · rcases lead_cases h x with ⟨g0, _⟩ | ⟨k, b, hb, hf, hl⟩
    · exact absurd (Or.inl g0) g
    · have h2 := find2_lo s x
      have g2 : (s.find x).2 = 0 := by omega
      have hs := find_sum (s := s) (x := x) (by omega)
      have hbk : blkAt r k = b := by unfold blkAt; rw [List.getD_eq_getElem?_getD, hb]; rfl
      refine Or.inr ⟨k, b, hb, hf, g2, by omega, hl, hbk, ?_⟩
      unfold textAt
      rw [if_neg g, hl]
      simp only [hbk]
variable {w : World} {p : Pl} {s : St} {rb : Nat} {r : RS} {a : Option Addr} {cap : Nat} {V : Nat → Value}
theorem below_drews (w : World) (m : Nat) : Below w.heap.size w (w.drewN m) := ⟨rfl, rfl, rfl, Nat.le_refl _, fun _ _ => rfl⟩
theorem rread_any (x : Int) (w : World) (h : Both w p s rb r a cap V) (h0 : 0 ≤ x) (h1 : x ≤ 18446744073709551615) :
    Calls Try.prog 17 #[.pointer (some ⟨rb, 0, none⟩), .int .u64 x] w fun e w' => e = .returned (.tuple #[.string ⟨((textAt s r x).1.getD []).toArray⟩, .int .i64 (textAt s r x).2]) ∧ Below w.heap.size w w' := by
  rcases text_cases h.rep x with ⟨g, e⟩ | ⟨k, b, hk, hf, g2, hx, _, _, e⟩
  · rw [e]
    refine (rread_addr x w h h0 h1 g).mono ?_
    rintro e w' ⟨rfl, m, rfl⟩
    exact ⟨rfl, below_drews _ _⟩
  · rw [e]
    exact (rread_blk x k b w h h0 h1 hk hf g2).mono (fun e w' h => h)
theorem rbyte_any (x i : Int) (w : World) (h : Both w p s rb r a cap V) (h0 : 0 ≤ x) (h1 : x ≤ 18446744073709551615) :
    Calls Try.prog 19 #[.pointer (some ⟨rb, 0, none⟩), .int .u64 x, .int .i64 i] w fun e w' => e = .returned (.tuple #[.int .u8 (byteAt s r x i).1, .int .i64 (byteAt s r x i).2]) ∧ Below w.heap.size w w' := by
  rcases text_cases h.rep x with ⟨g, e⟩ | ⟨k, b, hk, hf, g2, hx, _, _, e⟩
  · have e2 : byteAt s r x i = (0, 6) := by unfold byteAt; rw [e]; rfl
    rw [e2]
    refine (rbyte_addr x i w h h0 h1 g).mono ?_
    rintro e w' ⟨rfl, m, rfl⟩
    exact ⟨rfl, below_drews _ _⟩
  · have e2 : byteAt s r x i = byteOut (textF b) i := by
      unfold byteAt
      rw [e, if_neg (by show ¬ (if _ then (0 : Int) else 5) = 6; split <;> decide)]
    rw [e2]
    exact (rbyte_blk x i k b w h h0 h1 hk hf g2).mono (fun e w' h => h)
/-- What Put makes. -/
def PutAs (rb : Nat) (r' : RS) (a : Option Addr) (cap : Nat) (V : Nat → Value) (len : Nat) (E : Int) (w : World) (e : Ending) (w' : World) : Prop :=
  e = .returned (.int .i64 E) ∧ ∃ V' s', Rf w' rb r' a cap V' ∧ Good s' r' ∧ Only (Rown rb a) w w' ∧ Fresh w.heap.size len V len V'
theorem rput_any (x i : Int) (c : UInt8) (w : World) (h : Rf w rb r a cap V) (hg : Good s r) (h4 : 4 ≤ rb) (h0 : 0 ≤ x) (h1 : x ≤ 18446744073709551615) :
    Calls Try.prog 21 #[.pointer (some ⟨rb, 0, none⟩), .int .u64 x, .int .i64 i, u8v c] w fun e w' => PutAs rb (putR s r x i c) a cap V r.L.length (byteAt s r x i).2 w e w' := by
  have hb := good_both h hg h4
  rcases text_cases hg.rep x with ⟨g, e⟩ | ⟨k, b, hk, hf, g2, hx, hl, hbk, e⟩
  · have e2 : byteAt s r x i = (0, 6) := by unfold byteAt; rw [e]; rfl
    have e3 : putR s r x i c = r := by unfold putR; rw [e]; split <;> simp_all
    rw [e2, e3]
    refine (rput_addr x i c w hb h0 h1 g).mono ?_
    rintro e w' ⟨rfl, m, rfl⟩
    exact ⟨rfl, V, s, h.drewN m, hg, (Only.refl _ _).drewN m, Fresh.refl _ _ _⟩
  · have e2 : byteAt s r x i = byteOut (textF b) i := by
      unfold byteAt
      rw [e, if_neg (by show ¬ (if _ then (0 : Int) else 5) = 6; split <;> decide)]
    rw [e2]
    have no : putR s r x i c = r → (byteOut (textF b) i).2 ≠ 0 → Calls Try.prog 21 #[.pointer (some ⟨rb, 0, none⟩), .int .u64 x, .int .i64 i, u8v c] w fun e w' => PutAs rb (putR s r x i c) a cap V r.L.length (byteOut (textF b) i).2 w e w' := by
      intro e3 hno
      rw [e3]
      refine (rput_no x i c k b w hb h0 h1 hk hf g2 hno).mono ?_
      rintro e w' ⟨rfl, hbe⟩
      exact ⟨rfl, V, s, h.frame (Only.of_below (S := fun _ => False) hbe) (fun _ _ => id), hg, Only.of_below hbe, Fresh.refl _ _ _⟩
    cases ht : textF b with
    | none =>
      rw [ht] at e
      have := no (by unfold putR; rw [e, hl]) (by rw [ht]; unfold byteOut; simp)
      rw [ht] at this
      exact this
    | some l =>
      by_cases hi : 0 ≤ i ∧ i < l.length
      · have e3 : putR s r x i c = r.withF k b (fieldsT (l.set i.toNat c)) := by
          unfold putR
          rw [e, hl, ht]
          show (if _ then _ else _) = _
          rw [if_pos hi, hbk]
        have e4 : (byteOut (some l) i).2 = 0 := by unfold byteOut; simp only; rw [if_pos hi]
        rw [e3, e4]
        refine (rput_yes x i c k b l w h hg h4 h0 h1 hk hx ht hi.1 hi.2).mono ?_
        rintro e w' ⟨rfl, ⟨V', s', rf, hg', fr⟩, on⟩
        exact ⟨rfl, V', s', rf, hg', on, fr⟩
      · have e3 : putR s r x i c = r := by
          unfold putR
          rw [e, hl, ht]
          show (if _ then _ else _) = _
          rw [if_neg hi]
        have := no e3 (by rw [ht]; unfold byteOut; simp only; rw [if_neg hi]; decide)
        rw [ht] at this
        exact this
end Go.Proofs.Ytlhcleocdlnbdaa
