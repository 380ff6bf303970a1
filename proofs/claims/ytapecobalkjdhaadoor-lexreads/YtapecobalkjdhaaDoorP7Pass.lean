/-
  Layer 7, the program's reader: comments, what is passed over. Condition: the reader lies in memory.
-/
import Derived.Test.YtapecobalkjdhaaDoorP7Read
namespace Go.Proofs.YtapecobalkjdhaaDoor
open Go.ChangeShapes Go.WideShapes Go.ChangeAt Go.RowKit Go.Deep
set_option linter.unusedVariables false
set_option maxHeartbeats 1000000

theorem at_two {s : ByteArray} {i : Nat} {a c : UInt8} (hi : i ≤ s.size) (h : atB s i ⟨#[a, c]⟩ = true) : i + 2 ≤ s.size ∧ suf s i = a :: c :: suf s (i + 2) := by
  have hl : i + 2 ≤ s.size := at_fits hi h
  refine ⟨hl, ?_⟩
  obtain ⟨t, ht⟩ := List.isPrefixOf_iff_prefix.1 h
  rw [suf_two s (by omega)] at ht ⊢
  have ht' : a :: c :: t = s[i] :: s[i + 1] :: suf s (i + 2) := ht
  simp only [List.cons.injEq] at ht'
  rw [ht'.1, ht'.2.1]
/-- How a comment goes on: o are open. -/
def CNow (R : Option (List UInt8)) (l : List UInt8) (o : Nat) : Prop := (o = 0 → R = some l) ∧ (∀ d, o = d + 1 → skipC d l = R)
theorem cnow_succ {R : Option (List UInt8)} {l : List UInt8} {d : Nat} (h : skipC d l = R) : CNow R l (d + 1) := ⟨fun c => absurd c (by omega), fun d' hd => by rw [show d' = d by omega]; exact h⟩
theorem skip_beg (d : Nat) (l : List UInt8) : skipC d (40 :: 42 :: l) = skipC (d + 1) l := by
  rw [skipC.eq_def]; simp
theorem skip_end0 (l : List UInt8) : skipC 0 (42 :: 41 :: l) = some l := by
  rw [skipC.eq_def]; simp
theorem skip_end1 (d : Nat) (l : List UInt8) : skipC (d + 1) (42 :: 41 :: l) = skipC d l := by
  rw [skipC.eq_def]; simp
theorem skip_else (d : Nat) {a c : UInt8} (l : List UInt8) (g1 : ¬ (a = 42 ∧ c = 41)) (g2 : ¬ (a = 40 ∧ c = 42)) : skipC d (a :: c :: l) = skipC d (c :: l) := by
  rw [skipC.eq_def]; simp only [if_neg g1, if_neg g2]
theorem skipD_open {s : ByteArray} {i d : Nat} (hi : i ≤ s.size) (h : atB s i begC = true) : i + 2 ≤ s.size ∧ skipC d (suf s i) = skipC (d + 1) (suf s (i + 2)) := by
  obtain ⟨h1, h2⟩ := at_two hi h
  refine ⟨h1, ?_⟩
  rw [h2, skip_beg]
theorem skipD_close {s : ByteArray} {i d : Nat} {R : Option (List UInt8)} (hi : i ≤ s.size) (h : atB s i endC = true) (e : skipC d (suf s i) = R) : i + 2 ≤ s.size ∧ CNow R (suf s (i + 2)) d := by
  obtain ⟨h1, h2⟩ := at_two hi h
  refine ⟨h1, fun h0 => ?_, fun d' hd => ?_⟩
  · subst h0; rw [h2, skip_end0] at e; exact e.symm
  · subst hd; rw [h2, skip_end1] at e; exact e
theorem skipD_one {s : ByteArray} {i d : Nat} (hi : i < s.size) (h1 : atB s i endC = false) (h2 : atB s i begC = false) : skipC d (suf s i) = skipC d (suf s (i + 1)) := by
  by_cases hl : i + 1 < s.size
  · have e := suf_two s hl
    have e1 := suf_cons s hl
    unfold atB endC at h1
    unfold atB begC at h2
    rw [e] at h1 h2 ⊢
    have g1 : ¬ (s[i] = 42 ∧ s[i + 1] = 41) := fun c => by rw [c.1, c.2] at h1; simp [List.isPrefixOf] at h1
    have g2 : ¬ (s[i] = 40 ∧ s[i + 1] = 42) := fun c => by rw [c.1, c.2] at h2; simp [List.isPrefixOf] at h2
    rw [skip_else d _ g1 g2, e1]
  · have e0 : suf s (i + 1) = [] := suf_end hl
    rw [suf_cons s hi, e0]
    unfold skipC
    rfl
/-- What is so behind a comment. -/
def CommentAs (R : Option (List UInt8)) (b : Nat) (s : ByteArray) (i : Nat) (w : World) (e : Ending) (w' : World) : Prop :=
  match R with
  | some r => e = .returned (.tuple #[]) ∧ RD w' b s (s.size - r.length) i ∧ OnlyB b w w'
  | none => e = .panicked [faultP 20 i] ∧ OnlyB b w w'
/-- How a comment stands while it is read. -/
def InC (R : Option (List UInt8)) (b : Nat) (s : ByteArray) (i : Nat) (w : World) (gk : Nat) (ov : Value) (wr : World) : Prop :=
  ∃ j o : Nat, j ≤ s.size ∧ o ≤ j ∧ gk = s.size + 1 - j ∧ ov = .int .i64 (o : Int) ∧ CNow R (suf s j) o ∧ RD wr b s j i ∧ OnlyB b w wr
theorem comment_as {w : World} {b : Nat} {s : ByteArray} {i f : Nat} (h : RD w b s i f) (hi : i ≤ s.size) (hs : s.size ≤ 1000000) (ho : atB s i begC = true) : Calls Tryd.prog 35 #[.pointer (some ⟨b, 0, none⟩)] w fun e w' => CommentAs (skipC 0 (suf s (i + 2))) b s i w e w' := by
  obtain ⟨R, hR⟩ : ∃ R, skipC 0 (suf s (i + 2)) = R := ⟨_, rfl⟩
  rw [hR]
  have HR := hidden hR
  have H := hidden h
  have HB : Hid (atB s i ⟨#[40, 42]⟩ = true) := ho
  have h2 := at_fits hi ho
  have h3 : i + 2 ≤ s.size := h2
  obtain ⟨c0, c1, c2, hf⟩ := h.cells
  clear hR h ho h2
  go_enter Tryd.func35, Tryd.ntmps35
  go_wp2_with (go_at_call 52; refine (take_yes _ (H.out.to2 (z := (i : Int)) (j := i) rfl) hi hs HB.out).mono ?_; rintro e w5 ⟨rfl, hr, ho⟩; have R5 := hidden hr; have O5 : Hid (OnlyB b w w5) := ((Only.refl (fun k => k = b) w).setCell (a := ⟨b, 2, none⟩) (Or.inr rfl) _).trans ho; clear hr ho)
  clear c0 c1 c2 hf
  go_loopg [2] (s.size + 1 - (i + 2)) (fun gk ov wr => InC R b s i w gk ov wr)
  case atStart => exact ⟨i + 2, 1, h3, by omega, rfl, rfl, cnow_succ HR.out, R5.out, O5.out⟩
  case round =>
    clear HR R5 O5 H
    obtain ⟨j, o, j1, j2, j3, rfl, j4, j5, j6⟩ := hrel
    have HJ := hidden j4
    have HRD := hidden j5
    have HO := hidden j6
    have HG := hidden j3
    clear j3 j4 j5 j6
    by_cases hz : o = 0
    · subst hz
      have HE : Hid (R = some (suf s j)) := HJ.out.1 rfl
      go_wp2_with fail
      go_end0
      rw [HE.out]
      exact ⟨rfl, by rw [suf_len, show s.size - (s.size - j) = j by omega]; exact HRD.out, HO.out⟩
    · obtain ⟨d, rfl⟩ : ∃ d, o = d + 1 := ⟨o - 1, by omega⟩
      have HJ2 : Hid (skipC d (suf s j) = R) := HJ.out.2 d rfl
      have zp : (0 : Int) < (d : Int) + 1 := by omega
      clear HJ
      cases hb : atB s j begC with
      | true =>
        obtain ⟨q1, q2⟩ := skipD_open (d := d) j1 hb
        have HB2 : Hid (atB s j ⟨#[40, 42]⟩ = true) := hb
        have HN : Hid (skipC (d + 1) (suf s (j + 2)) = R) := by show _ = _; rw [← q2]; exact HJ2.out
        clear hb q2
        go_wp2_with (go_at_call 52; refine (take_yes _ HRD.out j1 hs HB2.out).mono ?_; rintro e w6 ⟨rfl, hr, ho⟩; have R6 := hidden hr; have O6 := hidden (HO.out.trans ho); clear hr ho)
        go_roundg (s.size + 1 - (j + 2))
        case rel => exact ⟨j + 2, d + 2, q1, by omega, rfl, by go_num, cnow_succ HN.out, R6.out, O6.out⟩
        case measure => rw [HG.out]; omega
      | false =>
        have HB2 : Hid (atB s j ⟨#[40, 42]⟩ = false) := hb
        cases he : atB s j endC with
        | true =>
          obtain ⟨q1, q2⟩ := skipD_close (d := d) j1 he HJ2.out
          have HE2 : Hid (atB s j ⟨#[42, 41]⟩ = true) := he
          have HN := hidden q2
          clear hb he q2
          go_wp2_with (go_at_call 52; first
            | (refine (take_yes _ R6.out j1 hs HE2.out).mono ?_; rintro e w7 ⟨rfl, hr, ho⟩; have R7 := hidden hr; have O7 := hidden (O6.out.trans ho); clear hr ho)
            | (refine (take_no _ HRD.out j1 hs HB2.out).mono ?_; rintro e w6 ⟨rfl, hr, ho⟩; have R6 := hidden hr; have O6 := hidden (HO.out.trans ho); clear hr ho))
          go_roundg (s.size + 1 - (j + 2))
          case rel => exact ⟨j + 2, d, q1, by omega, rfl, by go_num, HN.out, R7.out, O7.out⟩
          case measure => rw [HG.out]; omega
        | false =>
          have HE2 : Hid (atB s j ⟨#[42, 41]⟩ = false) := he
          by_cases hlt : j < s.size
          · have HN : Hid (skipC d (suf s (j + 1)) = R) := by show _ = _; rw [← skipD_one hlt he hb]; exact HJ2.out
            clear hb he
            go_wp2_with (first
              | (go_at_call 52; first
                | (refine (take_no _ R6.out j1 hs HE2.out).mono ?_; rintro e w7 ⟨rfl, hr, ho⟩; have R7 := hidden hr; have O7 := hidden (O6.out.trans ho); clear hr ho)
                | (refine (take_no _ HRD.out j1 hs HB2.out).mono ?_; rintro e w6 ⟨rfl, hr, ho⟩; have R6 := hidden hr; have O6 := hidden (HO.out.trans ho); clear hr ho))
              | (go_at_call 53; refine (next_yes R7.out hlt hs).mono ?_; rintro e w8 ⟨rfl, hr, ho⟩; have R8 := hidden hr; have O8 := hidden (O7.out.trans ho); clear hr ho))
            go_roundg (s.size + 1 - (j + 1))
            case rel => exact ⟨j + 1, d + 1, by omega, by omega, rfl, by go_num, cnow_succ HN.out, R8.out, O8.out⟩
            case measure => rw [HG.out]; omega
          · have HN : Hid (R = none) := by
              show _ = _
              rw [← HJ2.out, suf_end hlt]
              unfold skipC
              rfl
            have hjs : j = s.size := by omega
            have HJS := hidden hjs
            clear hb he hjs
            go_wp2_with (first
              | (go_at_call 52; first
                | (refine (take_no _ R6.out j1 hs HE2.out).mono ?_; rintro e w7 ⟨rfl, hr, ho⟩; have R7 := hidden hr; have O7 := hidden (O6.out.trans ho); clear hr ho)
                | (refine (take_no _ HRD.out j1 hs HB2.out).mono ?_; rintro e w6 ⟨rfl, hr, ho⟩; have R6 := hidden hr; have O6 := hidden (HO.out.trans ho); clear hr ho))
              | (go_at_call 53; refine (next_no R7.out HJS.out hs).mono ?_; rintro e w8 ⟨rfl, ho⟩; have O8 := hidden (O7.out.trans ho); clear ho))
            refine And.intro rfl ?_
            rw [HN.out]
            exact ⟨rfl, O8.out⟩
theorem comment_yes {w : World} {b : Nat} {s : ByteArray} {i f : Nat} {r : List UInt8} (h : RD w b s i f) (hi : i ≤ s.size) (hs : s.size ≤ 1000000) (ho : atB s i begC = true) (e : skipC 0 (suf s (i + 2)) = some r) : Calls Tryd.prog 35 #[.pointer (some ⟨b, 0, none⟩)] w fun e w' => e = .returned (.tuple #[]) ∧ RD w' b s (s.size - r.length) i ∧ OnlyB b w w' := by
  have := comment_as h hi hs ho
  rw [e] at this
  exact this
theorem comment_no {w : World} {b : Nat} {s : ByteArray} {i f : Nat} (h : RD w b s i f) (hi : i ≤ s.size) (hs : s.size ≤ 1000000) (ho : atB s i begC = true) (e : skipC 0 (suf s (i + 2)) = none) : Calls Tryd.prog 35 #[.pointer (some ⟨b, 0, none⟩)] w fun e w' => e = .panicked [faultP 20 i] ∧ OnlyB b w w' := by
  have := comment_as h hi hs ho
  rw [e] at this
  exact this
/-- A source's tokens, or what is wrong first. -/
def lexC (W : LexW) (l : List UInt8) : Except (Int × Nat) (List (Tk × Nat)) := lexF W (l.length + 1) l
theorem lexF_more {W : LexW} (hW : SignsOk W) : ∀ (n m : Nat) (l : List UInt8), l.length < n → l.length < m → lexF W n l = lexF W m l
  | 0, m, l, h, _ => by omega
  | n + 1, 0, l, _, h => by omega
  | n + 1, m + 1, [], _, _ => rfl
  | n + 1, m + 1, c :: x, h1, h2 => by
    simp only [List.length_cons] at h1 h2
    unfold lexF
    by_cases c1 : blankB c = true
    · rw [if_pos c1, if_pos c1]; exact lexF_more hW n m x (by omega) (by omega)
    · rw [if_neg c1, if_neg c1]
      by_cases c2 : opensC (c :: x) = true
      · rw [if_pos c2, if_pos c2]
        cases hr : skipC 0 (x.drop 1) with
        | none => rfl
        | some r =>
          have := skipC_len _ _ hr
          rw [List.length_drop] at this
          exact lexF_more hW n m r (by omega) (by omega)
      · rw [if_neg c2, if_neg c2]
        cases ht : tokAt W (c :: x) with
        | error e => rfl
        | ok p =>
          obtain ⟨t, r⟩ := p
          have := tok_len hW ht
          simp only [List.length_cons] at this
          simp only
          rw [lexF_more hW n m r (by omega) (by omega)]
section
variable {W : LexW} (hW : SignsOk W)
theorem lexC_nil : lexC W [] = .ok [] := rfl
include hW
theorem lexC_blank {c : UInt8} {x : List UInt8} (h : blankB c = true) : lexC W (c :: x) = lexC W x := by
  show lexF W (x.length + 1 + 1) (c :: x) = _
  rw [lexF, if_pos h]
  exact lexF_more hW _ _ _ (by omega) (by omega)
theorem lexC_comment {x : List UInt8} : lexC W (40 :: 42 :: x) = (match skipC 0 x with | none => .error (20, x.length + 2) | some r => lexC W r) := by
  show lexF W (x.length + 1 + 1 + 1) (40 :: 42 :: x) = _
  rw [lexF, if_neg (by decide), if_pos (show opensC (40 :: 42 :: x) = true from rfl)]
  show (match skipC 0 x with | none => _ | some r => _) = _
  cases hr : skipC 0 x with
  | none => rfl
  | some r =>
    have := skipC_len _ _ hr
    exact lexF_more hW _ _ _ (by omega) (by omega)
theorem lexC_tok {c : UInt8} {x : List UInt8} (h1 : blankB c = false) (h2 : opensC (c :: x) = false) : lexC W (c :: x) = (match tokAt W (c :: x) with | .error e => .error (e, (c :: x).length) | .ok (t, r) => (match lexC W r with | .error e => .error e | .ok ts => .ok ((t, (c :: x).length) :: ts))) := by
  show lexF W (x.length + 1 + 1) (c :: x) = _
  rw [lexF, if_neg (by rw [h1]; decide), if_neg (by rw [h2]; decide)]
  cases ht : tokAt W (c :: x) with
  | error e => rfl
  | ok p =>
    obtain ⟨t, r⟩ := p
    have := tok_len hW ht
    simp only [List.length_cons] at this
    simp only
    rw [lexF_more hW (x.length + 1) (r.length + 1) r (by omega) (by omega)]
    rfl
theorem lexC_lexes {l : List UInt8} {ts : List (Tk × Nat)} : lexC W l = .ok ts ↔ Lexes W l ts := ⟨fun h => lexF_lexes _ _ h, fun h => lexes_lexF hW h _ (by omega)⟩
end
end Go.Proofs.YtapecobalkjdhaaDoor
