/-
  Layer 7, the program's reader: what stands behind a backslash. Condition: the reader lies in memory.
-/
import Derived.Test.YtapecobalkjdhaaDoorP7Mem
namespace Go.Proofs.YtapecobalkjdhaaDoor
open Go.ChangeShapes Go.WideShapes Go.ChangeAt Go.RowKit Go.Deep
set_option linter.unusedVariables false
set_option maxHeartbeats 1000000

def hexL : List UInt8 := [48, 49, 50, 51, 52, 53, 54, 55, 56, 57, 97, 98, 99, 100, 101, 102]
/-- A digit's number, or -1. -/
def hexI (c : UInt8) : Int := match hexB c with | some n => n.toNat | none => -1
theorem hex_index (c : UInt8) : Lib.indexByte hexL c = hexI c := by
  refine all_u8 (p := fun c => Lib.indexByte hexL c = hexI c) ?_ c
  decide +kernel
theorem hex_small {c n : UInt8} (h : hexB c = some n) : n.toNat < 16 := by
  have : ((hexB c).all fun n => decide (n.toNat < 16)) = true := by
    refine all_u8 (p := fun c => ((hexB c).all fun n => decide (n.toNat < 16)) = true) ?_ c
    decide +kernel
  rw [h] at this
  simpa using this
theorem back_u8 (c : UInt8) : ((c.toNat : Int)).toNat.toUInt8 = c := by simp
theorem hexP_yes {w : World} {b : Nat} {s : ByteArray} {i f : Nat} {n : UInt8} (h : RD w b s i f) (hi : i < s.size) (hs : s.size ≤ 1000000) (e : hexB s[i] = some n) : Calls Tryd.prog 72 #[.pointer (some ⟨b, 0, none⟩)] w fun r w' => r = .returned (.int .u8 (n.toNat : Int)) ∧ RD w' b s (i + 1) f ∧ OnlyB b w w' := by
  have H := hidden h
  have hn := hex_small e
  have HX := hidden (fun w => Tryd.strings_IndexByte ⟨#[48, 49, 50, 51, 52, 53, 54, 55, 56, 57, 97, 98, 99, 100, 101, 102]⟩ (s[i].toNat : Int) w)
  rw [back_u8] at HX
  have HV : Lib.indexByte (⟨#[48, 49, 50, 51, 52, 53, 54, 55, 56, 57, 97, 98, 99, 100, 101, 102]⟩ : ByteArray).data.toList s[i] = (n.toNat : Int) := by
    have := hex_index s[i]
    unfold hexI at this
    rw [e] at this
    exact this
  rw [HV] at HX
  have z1 : (0 : Int) ≤ (n.toNat : Int) := by omega
  have z2 : (n.toNat : Int) ≤ 15 := by omega
  clear h e HV hn
  go_enter Tryd.func72, Tryd.ntmps72
  go_wp2_with (first
    | (go_at_call 53; refine (next_yes H.out hi hs).mono ?_; rintro e w5 ⟨rfl, hr, ho⟩; have R5 := hidden hr; have O5 := hidden ho; clear hr ho)
    | (go_at_call 76; refine (HX.out _).mono ?_; rintro e w6 ⟨rfl, hw'⟩; rw [hw']; clear hw' w6))
  go_ret
  exact ⟨rfl, R5.out, O5.out⟩
theorem hexP_no {w : World} {b : Nat} {s : ByteArray} {i f : Nat} (h : RD w b s i f) (hi : i ≤ s.size) (hs : s.size ≤ 1000000) (e : ∀ hi : i < s.size, hexB s[i] = none) : Calls Tryd.prog 72 #[.pointer (some ⟨b, 0, none⟩)] w fun r w' => r = .panicked [faultP 20 f] ∧ OnlyB b w w' := by
  have H := hidden h
  by_cases hlt : i < s.size
  · have HX := hidden (fun w => Tryd.strings_IndexByte ⟨#[48, 49, 50, 51, 52, 53, 54, 55, 56, 57, 97, 98, 99, 100, 101, 102]⟩ (s[i].toNat : Int) w)
    rw [back_u8] at HX
    have HV : Lib.indexByte (⟨#[48, 49, 50, 51, 52, 53, 54, 55, 56, 57, 97, 98, 99, 100, 101, 102]⟩ : ByteArray).data.toList s[i] = -1 := by
      have := hex_index s[i]
      unfold hexI at this
      rw [e hlt] at this
      exact this
    rw [HV] at HX
    clear h e HV
    go_enter Tryd.func72, Tryd.ntmps72
    go_wp2_with (first
      | (go_at_call 53; refine (next_yes H.out hlt hs).mono ?_; rintro e w5 ⟨rfl, hr, ho⟩; have R5 := hidden hr; have O5 := hidden ho; clear hr ho)
      | (go_at_call 76; refine (HX.out _).mono ?_; rintro e w6 ⟨rfl, hw'⟩; rw [hw']; clear hw' w6)
      | (go_at_call 56; refine (giveUp_any 20 R5.out).mono ?_; rintro e w7 ⟨rfl, hw'⟩; rw [hw']; clear hw' w7))
    exact And.intro rfl ⟨rfl, O5.out⟩
  · have HI : Hid (i = s.size) := by show _ = _; omega
    clear h e
    go_enter Tryd.func72, Tryd.ntmps72
    go_wp2_with (go_at_call 53; refine (next_no H.out HI.out hs).mono ?_; rintro e w5 ⟨rfl, ho⟩; have O5 := hidden ho; clear ho)
    exact And.intro rfl ⟨rfl, O5.out⟩
theorem form_len (s : ByteArray) (i : Nat) {c : UInt8} {r : List UInt8} (h : formB (suf s i) = some (c, r)) : i < s.size := by
  have := formB_len h
  rw [suf_len] at this
  omega
/-- A form of two: a byte that stands for itself or another one. -/
def oneF (c : UInt8) : Option UInt8 := if c = 34 ∨ c = 92 then some c else if c = 110 then some 10 else if c = 116 then some 9 else none
theorem form_one {c : UInt8} {l : List UInt8} (h : c ≠ 120) : formB (c :: l) = (oneF c).map fun d => (d, l) := by
  rw [formB_cons]
  unfold oneF
  by_cases c1 : c = 34 ∨ c = 92
  · rw [if_pos c1, if_pos c1]; rfl
  · rw [if_neg c1, if_neg c1]
    by_cases c2 : c = 110
    · rw [if_pos c2, if_pos c2]; rfl
    · rw [if_neg c2, if_neg c2]
      by_cases c3 : c = 116
      · rw [if_pos c3, if_pos c3]; rfl
      · rw [if_neg c3, if_neg c3, if_neg h]; rfl
theorem or_hex (x y : Nat) (hx : x < 16) (hy : y < 16) : bits BinOp.or IntKind.u8 ((x : Int) * 16) (y : Int) = (x : Int) * 16 + y := by
  have : ∀ a b : Fin 16, bits BinOp.or IntKind.u8 ((a.val : Int) * 16) (b.val : Int) = (a.val : Int) * 16 + b.val := by decide +kernel
  exact this ⟨x, hx⟩ ⟨y, hy⟩
theorem hex_val {x y : UInt8} (hx : x.toNat < 16) (hy : y.toNat < 16) : bits BinOp.or IntKind.u8 ((x.toNat : Int) * 16) (y.toNat : Int) = ((x * 16 + y).toNat : Int) := by
  rw [or_hex _ _ hx hy]
  have h16 : (16 : UInt8).toNat = 16 := rfl
  rw [UInt8.toNat_add, UInt8.toNat_mul, h16]
  omega
theorem ret_u8 {a b : Int} (h : a = b) : Ending.returned (.int .u8 a) = .returned (.int .u8 b) := by rw [h]
theorem form_x {l : List UInt8} : formB (120 :: l) = (match l with | x :: y :: r => (match hexB x, hexB y with | some a, some b => some (a * 16 + b, r) | _, _ => none) | _ => none) := by
  rw [formB_cons, if_neg (by decide), if_neg (by decide), if_neg (by decide), if_pos rfl]
  rcases l with _ | ⟨x, _ | ⟨y, r⟩⟩ <;> rfl
theorem escX_yes {w : World} {b : Nat} {s : ByteArray} {i f : Nat} {x y : UInt8} (h : RD w b s i f) (hs : s.size ≤ 1000000) (hi : i + 2 < s.size) (e : s[i] = 120) (hx : hexB s[i + 1] = some x) (hy : hexB s[i + 2] = some y) : Calls Tryd.prog 58 #[.pointer (some ⟨b, 0, none⟩)] w fun r w' => r = .returned (.int .u8 ((x * 16 + y).toNat : Int)) ∧ RD w' b s (i + 3) f ∧ OnlyB b w w' := by
  have H := hidden h
  have HX := hidden hx
  have HY := hidden hy
  have hx1 := hex_small hx
  have hy1 := hex_small hy
  have HV := hidden (hex_val hx1 hy1)
  have z1 : (0 : Int) ≤ (x.toNat : Int) := by omega
  have z2 : (x.toNat : Int) ≤ 15 := by omega
  have z3 : (0 : Int) ≤ (y.toNat : Int) := by omega
  have z4 : (y.toNat : Int) ≤ 15 := by omega
  clear h hx hy hx1 hy1
  go_enter Tryd.func58, Tryd.ntmps58
  go_wp2_with (first
    | (go_at_call 72; first
      | (refine (hexP_yes R6.out hi hs HY.out).mono ?_; rintro e w7 ⟨rfl, hr, ho⟩; have R7 := hidden hr; have O7 := hidden (O6.out.trans ho); clear hr ho)
      | (refine (hexP_yes R5.out (by omega) hs HX.out).mono ?_; rintro e w6 ⟨rfl, hr, ho⟩; have R6 := hidden hr; have O6 := hidden (O5.out.trans ho); clear hr ho))
    | (go_at_call 53; refine (next_yes H.out (by omega) hs).mono ?_; rw [e]; rintro e w5 ⟨rfl, hr, ho⟩; have R5 := hidden hr; have O5 := hidden ho; clear hr ho))
  go_ret
  exact ⟨ret_u8 HV.out, R7.out, O7.out⟩
theorem escOne_yes {w : World} {b : Nat} {s : ByteArray} {i f : Nat} {c d : UInt8} (h : RD w b s i f) (hs : s.size ≤ 1000000) (hi : i < s.size) (e : s[i] = c) (hd : oneF c = some d) : Calls Tryd.prog 58 #[.pointer (some ⟨b, 0, none⟩)] w fun r w' => r = .returned (.int .u8 (d.toNat : Int)) ∧ RD w' b s (i + 1) f ∧ OnlyB b w w' := by
  have H := hidden h
  unfold oneF at hd
  clear h
  by_cases c1 : c = 34 ∨ c = 92
  · rw [if_pos c1] at hd
    obtain rfl : c = d := by simpa using hd
    rcases c1 with rfl | rfl
    all_goals
      clear hd
      go_enter Tryd.func58, Tryd.ntmps58
      go_wp2_with (go_at_call 53; refine (next_yes H.out hi hs).mono ?_; rw [e]; rintro e w5 ⟨rfl, hr, ho⟩; have R5 := hidden hr; have O5 := hidden ho; clear hr ho)
      go_ret
      exact ⟨rfl, R5.out, O5.out⟩
  · rw [if_neg c1] at hd
    by_cases c2 : c = 110
    · rw [if_pos c2] at hd
      obtain rfl : 10 = d := by simpa using hd
      subst c2
      clear hd c1
      go_enter Tryd.func58, Tryd.ntmps58
      go_wp2_with (go_at_call 53; refine (next_yes H.out hi hs).mono ?_; rw [e]; rintro e w5 ⟨rfl, hr, ho⟩; have R5 := hidden hr; have O5 := hidden ho; clear hr ho)
      go_ret
      exact ⟨rfl, R5.out, O5.out⟩
    · rw [if_neg c2] at hd
      by_cases c3 : c = 116
      · rw [if_pos c3] at hd
        obtain rfl : 9 = d := by simpa using hd
        subst c3
        clear hd c1 c2
        go_enter Tryd.func58, Tryd.ntmps58
        go_wp2_with (go_at_call 53; refine (next_yes H.out hi hs).mono ?_; rw [e]; rintro e w5 ⟨rfl, hr, ho⟩; have R5 := hidden hr; have O5 := hidden ho; clear hr ho)
        go_ret
        exact ⟨rfl, R5.out, O5.out⟩
      · rw [if_neg c3] at hd; cases hd
theorem escaped_yes {w : World} {b : Nat} {s : ByteArray} {i f : Nat} {c : UInt8} {r : List UInt8} (h : RD w b s i f) (hs : s.size ≤ 1000000) (e : formB (suf s i) = some (c, r)) : Calls Tryd.prog 58 #[.pointer (some ⟨b, 0, none⟩)] w fun e w' => e = .returned (.int .u8 (c.toNat : Int)) ∧ RD w' b s (s.size - r.length) f ∧ OnlyB b w w' := by
  have hi := form_len s i e
  rw [suf_cons s hi] at e
  by_cases hx : s[i] = 120
  · rw [hx, form_x] at e
    have l1 := suf_len s (i + 1)
    cases hl : suf s (i + 1) with
    | nil => rw [hl] at e; cases e
    | cons x l =>
      have h1 : i + 1 < s.size := by rw [hl] at l1; simp at l1; omega
      rw [suf_cons s h1] at hl
      simp only [List.cons.injEq] at hl
      obtain ⟨rfl, rfl⟩ := hl
      rw [suf_cons s h1] at e
      have l2 := suf_len s (i + 1 + 1)
      cases hl : suf s (i + 1 + 1) with
      | nil => rw [hl] at e; cases e
      | cons y l =>
        have h2 : i + 1 + 1 < s.size := by rw [hl] at l2; simp at l2; omega
        rw [suf_cons s h2] at hl
        simp only [List.cons.injEq] at hl
        obtain ⟨rfl, rfl⟩ := hl
        rw [suf_cons s h2] at e
        simp only at e
        cases hx1 : hexB s[i + 1] with
        | none => rw [hx1] at e; cases e
        | some x =>
          cases hy1 : hexB s[i + 1 + 1] with
          | none => rw [hx1, hy1] at e; cases e
          | some y =>
            rw [hx1, hy1] at e
            simp only [Option.some.injEq, Prod.mk.injEq] at e
            obtain ⟨rfl, rfl⟩ := e
            rw [suf_len, show s.size - (s.size - (i + 1 + 1 + 1)) = i + 3 by omega]
            exact escX_yes h hs h2 hx hx1 hy1
  · rw [form_one hx] at e
    cases hd : oneF s[i] with
    | none => rw [hd] at e; cases e
    | some d =>
      rw [hd] at e
      simp only [Option.map_some, Option.some.injEq, Prod.mk.injEq] at e
      obtain ⟨rfl, rfl⟩ := e
      rw [suf_len, show s.size - (s.size - (i + 1)) = i + 1 by omega]
      exact escOne_yes h hs hi rfl hd
theorem u8_ne {c : UInt8} {n : Nat} (hn : n < 256) (h : c ≠ UInt8.ofNat n) : ((c.toNat : Int) == (n : Int)) = false := by
  rw [← (u8_iff c n hn).2.2]
  exact beq_eq_false_iff_ne.2 h
theorem escOne_no {w : World} {b : Nat} {s : ByteArray} {i f : Nat} {c : UInt8} (h : RD w b s i f) (hs : s.size ≤ 1000000) (hi : i < s.size) (e : s[i] = c) (h3 : c ≠ 120) (hd : oneF c = none) : Calls Tryd.prog 58 #[.pointer (some ⟨b, 0, none⟩)] w fun e w' => e = .panicked [faultP 20 f] ∧ OnlyB b w w' := by
  have H := hidden h
  unfold oneF at hd
  have g1 : ¬ (c = 34 ∨ c = 92) := fun c1 => by rw [if_pos c1] at hd; cases hd
  rw [if_neg g1] at hd
  have g2 : c ≠ 110 := fun c1 => by rw [if_pos c1] at hd; cases hd
  rw [if_neg g2] at hd
  have g3 : c ≠ 116 := fun c1 => by rw [if_pos c1] at hd; cases hd
  have t1 : ((c.toNat : Int) == 34) = false := u8_ne (n := 34) (by decide) (fun c1 => g1 (Or.inl c1))
  have t2 : ((c.toNat : Int) == 92) = false := u8_ne (n := 92) (by decide) (fun c1 => g1 (Or.inr c1))
  have t3 : ((c.toNat : Int) == 110) = false := u8_ne (n := 110) (by decide) g2
  have t4 : ((c.toNat : Int) == 116) = false := u8_ne (n := 116) (by decide) g3
  have t5 : ((c.toNat : Int) == 120) = false := u8_ne (n := 120) (by decide) h3
  clear h hd g1 g2 g3 h3
  go_enter Tryd.func58, Tryd.ntmps58
  go_wp2_with (first
    | (go_at_call 56; refine (giveUp_any 20 R5.out).mono ?_; rintro e w7 ⟨rfl, hw'⟩; rw [hw']; clear hw' w7)
    | (go_at_call 53; refine (next_yes H.out hi hs).mono ?_; rw [e]; rintro e w5 ⟨rfl, hr, ho⟩; have R5 := hidden hr; have O5 := hidden ho; clear hr ho))
  exact And.intro rfl ⟨rfl, O5.out⟩
theorem escEnd_no {w : World} {b : Nat} {s : ByteArray} {i f : Nat} (h : RD w b s i f) (hs : s.size ≤ 1000000) (hi : i = s.size) : Calls Tryd.prog 58 #[.pointer (some ⟨b, 0, none⟩)] w fun e w' => e = .panicked [faultP 20 f] ∧ OnlyB b w w' := by
  have H := hidden h
  have HI := hidden hi
  clear h hi
  go_enter Tryd.func58, Tryd.ntmps58
  go_wp2_with (go_at_call 53; refine (next_no H.out HI.out hs).mono ?_; rintro e w5 ⟨rfl, ho⟩; have O5 := hidden ho; clear ho)
  exact And.intro rfl ⟨rfl, O5.out⟩
theorem escX_no1 {w : World} {b : Nat} {s : ByteArray} {i f : Nat} (h : RD w b s i f) (hs : s.size ≤ 1000000) (hi : i < s.size) (e : s[i] = 120) (hx : ∀ h : i + 1 < s.size, hexB s[i + 1] = none) : Calls Tryd.prog 58 #[.pointer (some ⟨b, 0, none⟩)] w fun e w' => e = .panicked [faultP 20 f] ∧ OnlyB b w w' := by
  have H := hidden h
  have HX := hidden hx
  clear h hx
  go_enter Tryd.func58, Tryd.ntmps58
  go_wp2_with (first
    | (go_at_call 72; refine (hexP_no R5.out (by omega) hs HX.out).mono ?_; rintro e w6 ⟨rfl, ho⟩; have O6 := hidden (O5.out.trans ho); clear ho)
    | (go_at_call 53; refine (next_yes H.out hi hs).mono ?_; rw [e]; rintro e w5 ⟨rfl, hr, ho⟩; have R5 := hidden hr; have O5 := hidden ho; clear hr ho))
  exact And.intro rfl ⟨rfl, O6.out⟩
theorem escX_no2 {w : World} {b : Nat} {s : ByteArray} {i f : Nat} {x : UInt8} (h : RD w b s i f) (hs : s.size ≤ 1000000) (hi : i + 1 < s.size) (e : s[i] = 120) (hx : hexB s[i + 1] = some x) (hy : ∀ h : i + 1 + 1 < s.size, hexB s[i + 1 + 1] = none) : Calls Tryd.prog 58 #[.pointer (some ⟨b, 0, none⟩)] w fun e w' => e = .panicked [faultP 20 f] ∧ OnlyB b w w' := by
  have H := hidden h
  have HX := hidden hx
  have HY := hidden hy
  have hx1 := hex_small hx
  have z1 : (0 : Int) ≤ (x.toNat : Int) := by omega
  have z2 : (x.toNat : Int) ≤ 15 := by omega
  clear h hx hy hx1
  go_enter Tryd.func58, Tryd.ntmps58
  go_wp2_with (first
    | (go_at_call 72; first
      | (refine (hexP_no R6.out (by omega) hs HY.out).mono ?_; rintro e w7 ⟨rfl, ho⟩; have O7 := hidden (O6.out.trans ho); clear ho)
      | (refine (hexP_yes R5.out (by omega) hs HX.out).mono ?_; rintro e w6 ⟨rfl, hr, ho⟩; have R6 := hidden hr; have O6 := hidden (O5.out.trans ho); clear hr ho))
    | (go_at_call 53; refine (next_yes H.out (by omega) hs).mono ?_; rw [e]; rintro e w5 ⟨rfl, hr, ho⟩; have R5 := hidden hr; have O5 := hidden ho; clear hr ho))
  exact And.intro rfl ⟨rfl, O7.out⟩
theorem escaped_no {w : World} {b : Nat} {s : ByteArray} {i f : Nat} (h : RD w b s i f) (hi : i ≤ s.size) (hs : s.size ≤ 1000000) (e : formB (suf s i) = none) : Calls Tryd.prog 58 #[.pointer (some ⟨b, 0, none⟩)] w fun e w' => e = .panicked [faultP 20 f] ∧ OnlyB b w w' := by
  by_cases hlt : i < s.size
  · rw [suf_cons s hlt] at e
    by_cases hx : s[i] = 120
    · rw [hx, form_x] at e
      by_cases h1 : i + 1 < s.size
      · rw [suf_cons s h1] at e
        cases hx1 : hexB s[i + 1] with
        | none => exact escX_no1 h hs hlt hx (fun _ => hx1)
        | some x =>
          refine escX_no2 h hs h1 hx hx1 (fun h2 => ?_)
          rw [suf_cons s h2] at e
          simp only at e
          cases hy1 : hexB s[i + 1 + 1] with
          | none => rfl
          | some y => rw [hx1, hy1] at e; cases e
      · exact escX_no1 h hs hlt hx (fun c => absurd c h1)
    · rw [form_one hx] at e
      cases hd : oneF s[i] with
      | none => exact escOne_no h hs hlt rfl hx hd
      | some d => rw [hd] at e; cases e
  · exact escEnd_no h hs (by omega)
end Go.Proofs.YtapecobalkjdhaaDoor
