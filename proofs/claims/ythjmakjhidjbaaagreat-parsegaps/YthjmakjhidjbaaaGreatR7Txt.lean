/-
 Layer 7, the document's own Text of a token. Conditions: the number fits 63 bits; the text is no longer than 100000 bytes.
-/
import Derived.Test.YthjmakjhidjbaaaGreatRDigs
import Derived.Test.YthjmakjhidjbaaaGreatLibAB
import Derived.Test.YthjmakjhidjbaaaGreatLibAE
import Derived.Test.YthjmakjhidjbaaaGreatLibAX
import Derived.Test.YthjmakjhidjbaaaGreatLibAY
import Derived.BigQuiet
import Derived.Deep.Cut
namespace Go.Proofs.YthjmakjhidjbaaaGreat
open Go.ChangeShapes Go.WideShapes Go.ChangeAt Go.RowKit Go.Deep
set_option linter.unusedVariables false
set_option linter.unusedSimpArgs false
set_option maxHeartbeats 4000000
set_option maxRecDepth 20000

theorem escB_len (c : UInt8) : (escB c).length ≤ 4 := by
 unfold escB
 split
 ·simp
 ·split
  ·simp
  ·split
   ·simp
   ·split
    ·simp
    ·split <;> simp
theorem escTlen : ∀ x : List UInt8, (escT x).length ≤ 4 * x.length
 | [] => by simp [escT]
 | c :: x => by
  have e : escT (c :: x) = escB c ++ escT x := by unfold escT; rw [List.flatMap_cons]
  have := escB_len c
  have := escTlen x
  rw [e, List.length_append, List.length_cons]
  omega
theorem escTsnoc (x : List UInt8) (c : UInt8) : escT (x ++ [c]) = escT x ++ escB c := by unfold escT; simp
theorem u8_byte (c : UInt8) : UInt8.ofNat c.toNat = c := by simp
theorem one_byte (w : World) (c : UInt8) : (convert 76 9 (.slice (some ⟨w.heap.size, 0, none⟩) 1 1)).run Tryz.prog (w.alloc (.cells #[.int .u8 (c.toNat : Int)] 5)) = .ok (.string ⟨#[c]⟩) (w.alloc (.cells #[.int .u8 (c.toNat : Int)] 5)) := by
 exact run_convert_bytes_back (P := Tryz.prog) (w.alloc (.cells #[.int .u8 (c.toNat : Int)] 5)) 76 9 5 ⟨w.heap.size, 0, none⟩ 1 [c] Tryz.underlying76 Tryz.underlying5 Tryz.underlying9 (fun j hj => by
  have hj0 : j = 0 := by simp at hj; omega
  subst hj0
  show (w.alloc (.cells #[.int .u8 (c.toNat : Int)] 5)).cell? ⟨w.heap.size, 0, none⟩ = some (.int .u8 (c.toNat : Int))
  rw [World.cell?_alloc_mark]
  rfl)
theorem app_data (x : ByteArray) (l : List UInt8) : (x ++ ⟨l.toArray⟩).data.toList = x.data.toList ++ l := by
 rw [ByteArray.data_append]
 simp
theorem two_drew (w : World) (c d : UInt8) : (convert 76 9 (.slice (some ⟨w.heap.size, 0, none⟩) 2 2)).run Tryz.prog (w.alloc (.cells #[.int .u8 (c.toNat : Int), .int .u8 (d.toNat : Int)] 5)).drew = .ok (.string ⟨#[c, d]⟩) (w.alloc (.cells #[.int .u8 (c.toNat : Int), .int .u8 (d.toNat : Int)] 5)).drew := by
 exact run_convert_bytes_back (P := Tryz.prog) (w.alloc (.cells #[.int .u8 (c.toNat : Int), .int .u8 (d.toNat : Int)] 5)).drew 76 9 5 ⟨w.heap.size, 0, none⟩ 2 [c, d] Tryz.underlying76 Tryz.underlying5 Tryz.underlying9 (fun j hj => by
  have hj0 : j = 0 ∨ j = 1 := by simp at hj; omega
  rcases hj0 with rfl | rfl
  ·show (w.alloc (.cells #[.int .u8 (c.toNat : Int), .int .u8 (d.toNat : Int)] 5)).cell? ⟨w.heap.size, 0, none⟩ = some (.int .u8 (c.toNat : Int))
   rw [World.cell?_alloc_mark]
   rfl
  ·show (w.alloc (.cells #[.int .u8 (c.toNat : Int), .int .u8 (d.toNat : Int)] 5)).cell? ⟨w.heap.size, 1, none⟩ = some (.int .u8 (d.toNat : Int))
   rw [World.cell?_alloc_mark]
   rfl)
theorem dig_at (i : Nat) (hi : i < 16) (w : World) : (Instr.index 9 (.string ⟨#[48, 49, 50, 51, 52, 53, 54, 55, 56, 57, 97, 98, 99, 100, 101, 102]⟩) (.int .u8 (i : Int))).run Tryz.prog w = .ok (.int .u8 ((hexD (UInt8.ofNat i)).toNat : Int)) w := by
 have : i = 0 ∨ i = 1 ∨ i = 2 ∨ i = 3 ∨ i = 4 ∨ i = 5 ∨ i = 6 ∨ i = 7 ∨ i = 8 ∨ i = 9 ∨ i = 10 ∨ i = 11 ∨ i = 12 ∨ i = 13 ∨ i = 14 ∨ i = 15 := by omega
 rcases this with rfl | rfl | rfl | rfl | rfl | rfl | rfl | rfl | rfl | rfl | rfl | rfl | rfl | rfl | rfl | rfl <;> rfl
theorem dig_hi (c : UInt8) (w : World) : (Instr.index 9 (.string ⟨#[48, 49, 50, 51, 52, 53, 54, 55, 56, 57, 97, 98, 99, 100, 101, 102]⟩) (.int .u8 (IntKind.u8.wrap ((c.toNat : Int) / 16)))).run Tryz.prog w = .ok (.int .u8 ((hexD (c / 16)).toNat : Int)) w := by
 have h := c.toNat_lt
 have e1 : IntKind.u8.wrap ((c.toNat : Int) / 16) = ((c.toNat / 16 : Nat) : Int) := by rw [IntKind.wrap_u8]; omega
 have e2 : c / 16 = UInt8.ofNat (c.toNat / 16) := by apply UInt8.toNat_inj.1; rw [UInt8.toNat_div, UInt8.toNat_ofNat']; show c.toNat / 16 = _; omega
 rw [e1, e2]
 exact dig_at _ (by omega) w
theorem dig_lo (c : UInt8) (w : World) : (Instr.index 9 (.string ⟨#[48, 49, 50, 51, 52, 53, 54, 55, 56, 57, 97, 98, 99, 100, 101, 102]⟩) (.int .u8 ((c.toNat : Int).tmod 16))).run Tryz.prog w = .ok (.int .u8 ((hexD (c % 16)).toNat : Int)) w := by
 have h := c.toNat_lt
 have e1 : (c.toNat : Int).tmod 16 = ((c.toNat % 16 : Nat) : Int) := by rw [Int.tmod_eq_emod_of_nonneg (by omega)]; omega
 have e2 : c % 16 = UInt8.ofNat (c.toNat % 16) := by apply UInt8.toNat_inj.1; rw [UInt8.toNat_mod, UInt8.toNat_ofNat']; show c.toNat % 16 = _; omega
 rw [e1, e2]
 exact dig_at _ (by omega) w
/-- How it stands while a text is written. -/
def InW (s : ByteArray) (w0 : World) (ov iv : Value) (wr : World) : Prop := ∃ (k : Nat) (x : ByteArray), k ≤ s.size ∧ iv = .int .i64 (k : Int) ∧ ov = .string x ∧ x.data.toList = 34 :: escT (s.data.toList.take k) ∧ Below w0.heap.size w0 wr
theorem rtext_text (p N : Int) (s : ByteArray) (w : World) (hs : s.size ≤ 100000) : Calls Tryz.prog 26 #[.agg #[.int .i64 2, .int .i64 p, .int .i64 N, .string s]] w fun e w' => e = .returned (.string ⟨(34 :: escT s.data.toList ++ [34]).toArray⟩) ∧ Below w.heap.size w w' := by
 go_enter Tryz.func26, Tryz.ntmps26
 go_upto_region 10 with fail
 have A0 : Hid ((w.alloc (.cells #[.int .i64 2, .int .i64 p, .int .i64 N, .string s] 40)).heap[w.heap.size]? = some (.cells #[.int .i64 2, .int .i64 p, .int .i64 N, .string s] 40 (0, 0))) := blk_alloc_new _ _
 have D0 := hidden ((Below.refl w.heap.size w).alloc (Nat.le_refl _) (.cells #[.int .i64 2, .int .i64 p, .int .i64 N, .string s] 40))
 generalize w.alloc (.cells #[.int .i64 2, .int .i64 p, .int .i64 N, .string s] 40) = w0 at *
 go_wp2_with fail
 go_loopw [4, 5] (fun ov iv wr => InW s w0 ov iv wr) (fun ov iv wr => (s.size - intOf iv).toNat)
 case atStart => exact ⟨0, _, by omega, rfl, rfl, rfl, Below.refl _ _⟩
 case round =>
  obtain ⟨k, x, k1, rfl, rfl, hx, hbl⟩ := hrel
  have BL := hidden hbl
  have hd := D0.out.size
  have he := hbl.size
  have hxl : x.size ≤ 1 + 4 * k := by
   have h1 := escTlen (s.data.toList.take k)
   rw [List.length_take] at h1
   rw [← len_data, hx, List.length_cons]
   omega
  have HX := hidden hx
  have c3 : wr.cell? ⟨w.heap.size, 3, none⟩ = some (.string s) := by
   have h := (hbl.block w.heap.size (by have := lt_of_some A0.out; exact this)).trans A0.out
   simp [World.cell?, h]
  clear hbl hx
  by_cases hlt : k < s.size
  ·have z1 : (k : Int) < (s.size : Int) := by omega
   have HT : Hid (x.data.toList ++ escB s[k] = 34 :: escT (s.data.toList.take (k + 1))) := by
    show _ = _
    rw [HX.out, List.take_succ_eq_append_getElem (by simpa using hlt), escTsnoc]
    rfl
   go_upto_region 14 with fail
   generalize s[k] = c at *
   have hc0 : (0 : Int) ≤ (c.toNat : Int) ∧ (c.toNat : Int) ≤ 255 := ⟨by omega, by have := c.toNat_lt; omega⟩
   by_cases h34 : c = 34
   ·subst h34
    have HT2 : Hid (x.data.toList ++ [92, 34] = 34 :: escT (s.data.toList.take (k + 1))) := HT.out
    clear HT
    go_wp2_with fail
    go_roundw
    case rel => exact ⟨k + 1, _, by omega, by go_num, rfl, (app_data x [92, 34]).trans HT2.out, BL.out⟩
    case measure => simp [intOf]; omega
   ·have g34 : ((c.toNat : Int) == 34) = false := by
     rw [beq_eq_false_iff_ne]
     intro h
     exact h34 (UInt8.toNat_inj.1 (by show c.toNat = 34; omega))
    by_cases h92 : c = 92
    ·subst h92
     have HT2 : Hid (x.data.toList ++ [92, 92] = 34 :: escT (s.data.toList.take (k + 1))) := HT.out
     clear HT
     clear h34 g34
     go_wp2_with fail
     go_roundw
     case rel => exact ⟨k + 1, _, by omega, by go_num, rfl, (app_data x [92, 92]).trans HT2.out, BL.out⟩
     case measure => simp [intOf]; omega
    ·have g92 : ((c.toNat : Int) == 92) = false := by
      rw [beq_eq_false_iff_ne]
      intro h
      exact h92 (UInt8.toNat_inj.1 (by show c.toNat = 92; omega))
     by_cases h10 : c = 10
     ·subst h10
      have HT2 : Hid (x.data.toList ++ [92, 110] = 34 :: escT (s.data.toList.take (k + 1))) := HT.out
      clear HT
      clear h34 g34
      clear h92 g92
      go_wp2_with fail
      go_roundw
      case rel => exact ⟨k + 1, _, by omega, by go_num, rfl, (app_data x [92, 110]).trans HT2.out, BL.out⟩
      case measure => simp [intOf]; omega
     ·have g10 : ((c.toNat : Int) == 10) = false := by
       rw [beq_eq_false_iff_ne]
       intro h
       exact h10 (UInt8.toNat_inj.1 (by show c.toNat = 10; omega))
      by_cases h9 : c = 9
      ·subst h9
       have HT2 : Hid (x.data.toList ++ [92, 116] = 34 :: escT (s.data.toList.take (k + 1))) := HT.out
       clear HT
       clear h34 g34
       clear h92 g92
       clear h10 g10
       go_wp2_with fail
       go_roundw
       case rel => exact ⟨k + 1, _, by omega, by go_num, rfl, (app_data x [92, 116]).trans HT2.out, BL.out⟩
       case measure => simp [intOf]; omega
      ·have g9 : ((c.toNat : Int) == 9) = false := by
        rw [beq_eq_false_iff_ne]
        intro h
        exact h9 (UInt8.toNat_inj.1 (by show c.toNat = 9; omega))
       by_cases hp : 32 ≤ c ∧ c ≤ 126
       ·have p1 : (32 : Int) ≤ (c.toNat : Int) := by have := UInt8.le_iff_toNat_le.1 hp.1; have e : (32 : UInt8).toNat = 32 := rfl; omega
        have p2 : (c.toNat : Int) ≤ 126 := by have := UInt8.le_iff_toNat_le.1 hp.2; have e : (126 : UInt8).toNat = 126 := rfl; omega
        have HT2 : Hid (x.data.toList ++ [c] = 34 :: escT (s.data.toList.take (k + 1))) := by
         have h := HT.out
         unfold escB at h
         rw [if_neg h34, if_neg h92, if_neg h10, if_neg h9, if_pos hp] at h
         exact h
        have hcv := one_byte wr c
        clear HT hp h34 h92 h10 h9
        go_wp2_with fail
        go_roundw
        case rel => exact ⟨k + 1, _, by omega, by go_num, rfl, (app_data x [c]).trans HT2.out, BL.out.trans (((Below.refl _ _).alloc (Nat.le_refl _) _).mono he)⟩
        case measure => simp [intOf]; omega
       ·have hq : (c.toNat : Int) < 32 ∨ (126 : Int) < (c.toNat : Int) := by
         rcases Nat.lt_or_ge c.toNat 32 with h | h
         ·exact Or.inl (by omega)
         ·refine Or.inr ?_
          rcases Nat.lt_or_ge 126 c.toNat with h2 | h2
          ·omega
          ·exact absurd ⟨UInt8.le_iff_toNat_le.2 (by show 32 ≤ c.toNat; omega), UInt8.le_iff_toNat_le.2 (by show c.toNat ≤ 126; omega)⟩ hp
        have HT2 : Hid (x.data.toList ++ [92, 120, hexD (c / 16), hexD (c % 16)] = 34 :: escT (s.data.toList.take (k + 1))) := by
         have h := HT.out
         unfold escB at h
         rw [if_neg h34, if_neg h92, if_neg h10, if_neg h9, if_neg hp] at h
         exact h
        clear HT hp h34 h92 h10 h9
        rcases hq with hq | hq
        all_goals
         go_upto_region 13 with fail
         have hi1 := dig_hi c
         have hi2 := dig_lo c
         refine region_till (S := (fun w' => True)) (kz := 13) (by kernel_rfl) trivial (fun hHeld => ?_)
         refine AnyTill.tk (i := 0) (v := ?_) hHeld ?_ ?_
         rotate_left
         ·(intro w hSw; (try dsimp only at hSw); go_simp; (try with_reducible rfl))
         (try simp only [Act.put, q4, q5, q6, q1, q2, q3])
         refine AnyTill.tk (i := 1) (v := ?_) hHeld ?_ ?_
         rotate_left
         ·(intro w hSw; (try dsimp only at hSw); go_simp; (try with_reducible rfl))
         (try simp only [Act.put, q4, q5, q6, q1, q2, q3])
         refine AnyTill.tk (i := 2) (v := ?_) hHeld ?_ ?_
         rotate_left
         ·(intro w hSw; (try dsimp only at hSw); go_simp; (try with_reducible rfl))
         (try simp only [Act.put, q4, q5, q6, q1, q2, q3])
         refine AnyTill.tk (i := 3) (v := ?_) hHeld ?_ ?_
         rotate_left
         ·(intro w hSw; (try dsimp only at hSw); go_simp; (try with_reducible rfl))
         (try simp only [Act.put, q4, q5, q6, q1, q2, q3])
         refine AnyTill.tk (i := 4) (v := ?_) hHeld ?_ ?_
         rotate_left
         ·(intro w hSw; (try dsimp only at hSw); go_simp; (try with_reducible rfl))
         (try simp only [Act.put, q4, q5, q6, q1, q2, q3])
         refine AnyTill.tk (i := 5) (v := ?_) hHeld ?_ ?_
         rotate_left
         ·(intro w hSw; (try dsimp only at hSw); go_simp; (try with_reducible rfl))
         (try simp only [Act.put, q4, q5, q6, q1, q2, q3])
         refine AnyTill.tk (i := 6) (v := ?_) hHeld ?_ ?_
         rotate_left
         ·(intro w hSw; (try dsimp only at hSw); go_simp; (try with_reducible rfl))
         (try simp only [Act.put, q4, q5, q6, q1, q2, q3])
         refine AnyTill.tk (i := 7) (v := ?_) hHeld ?_ ?_
         rotate_left
         ·(intro w hSw; (try dsimp only at hSw); go_simp; (try with_reducible rfl))
         (try simp only [Act.put, q4, q5, q6, q1, q2, q3])
         refine AnyTill.tk (i := 8) (v := ?_) hHeld ?_ ?_
         rotate_left
         ·(intro w hSw; (try dsimp only at hSw); go_simp; (try with_reducible rfl))
         (try simp only [Act.put, q4, q5, q6, q1, q2, q3])
         clear hi1 hi2
         generalize hexD (c / 16) = d1 at *
         generalize hexD (c % 16) = d2 at *
         refine AnyTill.one (i := 9) (by kernel_rfl) rfl (fun K hK => ?_)
         (try simp only [q1, q2, q3])
         go_simp
         refine hK.out _ _ (fun _ => trivial) ?_
         clear hHeld
         clear hK K
         (try simp only [Act.put, q4, q5, q6, q1, q2, q3])
         have hcv := two_drew wr d1 d2
         refine AnyTill.one (i := 10) (by kernel_rfl) rfl (fun K hK => ?_)
         (try simp only [q1, q2, q3])
         go_simp
         refine hK.out _ _ (fun _ => trivial) ?_
         clear hK K
         (try simp only [Act.put, q4, q5, q6, q1, q2, q3])
         clear hcv
         refine AnyTill.one (i := 11) (by kernel_rfl) rfl (fun K hK => ?_)
         (try simp only [q1, q2, q3])
         go_simp
         (try rw [if_neg (by have : x.size ≤ 1 + 4 * k := hxl; simp; omega)])
         refine hK.out _ _ (fun _ => trivial) ?_
         clear hK K
         (try simp only [Act.put, q4, q5, q6, q1, q2, q3])
         refine AnyTill.one (i := 12) (by kernel_rfl) rfl (fun K hK => ?_)
         (try simp only [q1, q2, q3])
         go_simp
         (try rw [if_neg (by have : x.size ≤ 1 + 4 * k := hxl; simp; omega)])
         refine hK.out _ _ (fun _ => trivial) ?_
         clear hK K
         (try simp only [Act.put, q4, q5, q6, q1, q2, q3])
         refine AnyTill.one (i := 13) (by kernel_rfl) rfl (fun K hK => ?_)
         (try simp only [q1, q2, q3])
         go_simp
         refine hK.out _ _ (fun h => absurd rfl h) ?_
         clear hK K
         (try simp only [Act.put, q4, q5, q6, q1, q2, q3])
         refine AnyTill.done (by kernel_rfl) ?_ _
         (try simp only [Act.put, q4, q5, q6, q1, q2, q3])
         go_wp2_with fail
         go_roundw
         case rel => exact ⟨k + 1, _, by omega, by go_num, rfl, (app_data x _).trans HT2.out, BL.out.trans ((((Below.refl _ _).alloc (Nat.le_refl _) _).trans ((drew_below _).mono (by rw [nblk_alloc]; omega))).mono he)⟩
         case measure => simp [intOf]; omega
  ·have z1 : ¬ (k : Int) < (s.size : Int) := by omega
   have hk : k = s.size := by omega
   have HE : Hid ((x ++ ⟨#[34]⟩) = ⟨(34 :: escT s.data.toList ++ [34]).toArray⟩) := by
    show _ = _
    have h1 := HX.out
    rw [hk, List.take_of_length_le (by simp)] at h1
    rw [← h1]
    rfl
   clear hk
   go_wp2_with fail
   go_ret
   exact ⟨congrArg (fun z => Ending.returned (.string z)) HE.out, D0.out.trans (BL.out.mono hd)⟩
/-- Any token's text. -/
theorem rtext_any (k p N : Int) (s : ByteArray) (w : World) (hs : s.size ≤ 100000) (hN : -4611686018427387904 ≤ N) (hN2 : N ≤ 4611686018427387903) : Calls Tryz.prog 26 #[.agg #[.int .i64 k, .int .i64 p, .int .i64 N, .string s]] w fun e w' => e = .returned (.string ⟨(textT Lib.itoa ⟨k, s.data.toList, N⟩).toArray⟩) ∧ Below w.heap.size w w' := by
 unfold textT
 simp only
 by_cases c1 : k = 1
 ·subst c1
  rw [if_pos rfl]
  have HI := hidden (fun w => rint_any N w (by omega) (by omega))
  have HD := hidden (fun w => rdigits_any (intW N) w (intW_lo N) (intW_hi N))
  rw [num_int, cut_same N hN hN2] at HD
  have D0 := hidden ((Below.refl w.heap.size w).alloc (Nat.le_refl _) (.cells #[.int .i64 1, .int .i64 p, .int .i64 N, .string s] 40))
  go_enter Tryz.func26, Tryz.ntmps26
  go_wp2_with fail
  refine (HI.out _).mono ?_
  rintro e w1 ⟨rfl, rfl⟩
  go_wp2_with fail
  refine (HD.out _).mono ?_
  rintro e w2 ⟨rfl, hb⟩
  go_wp2_with fail
  go_ret
  exact ⟨rfl, D0.out.trans (hb.mono D0.out.size)⟩
 ·rw [if_neg c1]
  have g1 : (k == 1) = false := beq_eq_false_iff_ne.2 c1
  by_cases c0 : k = 0
  ·subst c0
   rw [if_pos rfl]
   go_enter Tryz.func26, Tryz.ntmps26
   go_wp2_with fail
   go_ret
   exact ⟨rfl, (Below.refl _ _).alloc (Nat.le_refl _) _⟩
  ·rw [if_neg c0]
   have g0 : (k == 0) = false := beq_eq_false_iff_ne.2 c0
   by_cases c2 : k = 2
   ·subst c2
    rw [if_pos rfl]
    exact rtext_text p N s w hs
   ·rw [if_neg c2]
    have g2 : (k == 2) = false := beq_eq_false_iff_ne.2 c2
    have g3 : (k != 2) = true := by rw [bne_iff_ne]; exact c2
    clear c0 c1 c2
    go_enter Tryz.func26, Tryz.ntmps26
    go_wp2_with fail
    go_ret
    exact ⟨rfl, (Below.refl _ _).alloc (Nat.le_refl _) _⟩
end Go.Proofs.YthjmakjhidjbaaaGreat
