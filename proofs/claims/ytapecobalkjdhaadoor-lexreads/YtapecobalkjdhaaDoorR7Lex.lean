/-
  Layer 7, the document's own lex: a source's tokens, or what is wrong first, and where. Condition: at most 4096 bytes; above them lexD_big.
-/
import Derived.Test.YtapecobalkjdhaaDoorR7OneAs
import Derived.Test.YtapecobalkjdhaaDoorL7Lex
import Derived.OwnWalk
namespace Go.Proofs.YtapecobalkjdhaaDoor
open Go.ChangeShapes Go.WideShapes Go.ChangeAt Go.RowKit Go.Deep
set_option linter.unusedVariables false
set_option linter.unusedSimpArgs false
set_option maxHeartbeats 4000000
set_option maxRecDepth 20000

theorem rowE (w : World) (B : Nat) (hB : B ≤ w.heap.size) : TR (w.alloc (.cells #[] 31)) B (.slice (some ⟨w.heap.size, 0, none⟩) 0 0) [] := ⟨rfl, Or.inr ⟨w.heap.size, 0, #[], rfl, hB, blk_alloc_new _ _, Nat.le_refl _, Nat.zero_le _, rfl, rfl⟩⟩
theorem row_below {w w' : World} {B : Nat} {v : Value} {L : List TV} (h : TR w B v L) (k : Below w.heap.size w w') : TR w' B v L := by
  refine ⟨h.1, ?_⟩
  rcases h.2 with h | ⟨g, cap, cur, e, hb, hg, rest⟩
  · exact Or.inl h
  · exact Or.inr ⟨g, cap, cur, e, hb, (k.block g (lt_of_some hg)).trans hg, rest⟩
theorem blk_two (w : World) (o o' : Obj) : ((w.alloc o).alloc o').heap[w.heap.size + 1]? = some o' := by
  rw [← nblk_alloc w o]
  exact blk_alloc_new _ _
/-- What the document's Lex tells. -/
def LexD (R : Except (Int × Nat) (List (Tk × Nat))) (s : ByteArray) (w : World) (e : Ending) (w' : World) : Prop :=
  match R with
  | .ok ts => ∃ v, e = .returned (.tuple #[v, .int .i64 0, .int .i64 0]) ∧ TR w' w.heap.size v (tvs s.size ts ++ [endV s.size]) ∧ Below w.heap.size w w'
  | .error (e', k) => e = .returned (.tuple #[.slice none 0 0, .int .i64 e', .int .i64 ((s.size - k : Nat) : Int)]) ∧ Below w.heap.size w w'
/-- How it stands while tokens are read. -/
def InD (R : Except (Int × Nat) (List (Tk × Nat))) (s : ByteArray) (w : World) (gk : Nat) (v iv : Value) (wr : World) : Prop :=
  ∃ (k : Nat) (acc : List (Tk × Nat)), k ≤ s.size ∧ acc.length ≤ k ∧ iv = .int .i64 (k : Int) ∧ gk = s.size - k ∧ preL acc (lexC docW (suf s k)) = R ∧ TR wr w.heap.size v (tvs s.size acc) ∧ Below w.heap.size w wr
theorem lexD_big (s : ByteArray) (w : World) (hz : 4096 < s.size) (hm : s.size ≤ maxLen) : Calls Tryd.prog 10 #[.string s] w fun e w' => e = .returned (.tuple #[.slice none 0 0, .int .i64 4, .int .i64 0]) ∧ Below w.heap.size w w' := by
  have z1 : (4096 : Int) < (s.size : Int) := by omega
  unfold maxLen at hm
  go_enter Tryd.func10, Tryd.ntmps10
  go_wp2_with fail
  go_ret3
  exact ⟨rfl, Below.refl _ _⟩
theorem lexD_as (s : ByteArray) (w : World) (hs : s.size ≤ 4096) : Calls Tryd.prog 10 #[.string s] w fun e w' => LexD (lexC docW (suf s 0)) s w e w' := by
  obtain ⟨R, hR⟩ : ∃ R, lexC docW (suf s 0) = R := ⟨_, rfl⟩
  rw [hR]
  have HR0 := hidden hR
  clear hR
  have z4 : ¬ (4096 : Int) < (s.size : Int) := by omega
  go_enter Tryd.func10, Tryd.ntmps10
  go_wp2_with fail
  go_loopg [5, 6] (s.size) (fun gk v iv wr => InD R s w gk v iv wr)
  case atStart => exact ⟨0, [], by omega, Nat.le_refl _, rfl, rfl, by rw [preL_nil]; exact HR0.out, rowE w _ (Nat.le_refl _), (Below.refl _ _).alloc (Nat.le_refl _) _⟩
  case round =>
    clear HR0
    obtain ⟨k, acc, k1, k2, rfl, k3, k4, k5, k6⟩ := hrel
    obtain ⟨ao, cp, rfl⟩ := k5.slice
    have HL := hidden k4
    have HT := hidden k5
    have HB := hidden k6
    have HG := hidden k3
    clear k3 k4 k5 k6
    by_cases hlt : k < s.size
    · have zz : (k : Int) < (s.size : Int) := by omega
      have zb : (0 : Int) ≤ (k : Int) := by omega
      obtain ⟨c, hc⟩ : ∃ c, s[k] = c := ⟨_, rfl⟩
      have e0 := suf_cons s hlt
      rw [hc] at e0
      cases hbl : blankB c with
      | true =>
        have HL2 : Hid (preL acc (lexC docW (suf s (k + 1))) = R) := by
          show _ = _
          rw [← HL.out, e0, lexC_blank docSigns hbl]
        have h4 : c = 32 ∨ c = 10 ∨ c = 9 ∨ c = 13 := by
          unfold blankB at hbl
          simpa [or_assoc] using hbl
        clear hbl e0 HL
        rcases h4 with rfl | rfl | rfl | rfl
        · go_wp2_with fail
          go_roundg (s.size - (k + 1))
          case rel => exact ⟨k + 1, acc, by omega, by omega, by go_num, rfl, HL2.out, HT.out, HB.out⟩
          case measure => rw [HG.out]; omega
        · go_wp2_with fail
          go_roundg (s.size - (k + 1))
          case rel => exact ⟨k + 1, acc, by omega, by omega, by go_num, rfl, HL2.out, HT.out, HB.out⟩
          case measure => rw [HG.out]; omega
        · go_wp2_with fail
          go_roundg (s.size - (k + 1))
          case rel => exact ⟨k + 1, acc, by omega, by omega, by go_num, rfl, HL2.out, HT.out, HB.out⟩
          case measure => rw [HG.out]; omega
        · go_wp2_with fail
          go_roundg (s.size - (k + 1))
          case rel => exact ⟨k + 1, acc, by omega, by omega, by go_num, rfl, HL2.out, HT.out, HB.out⟩
          case measure => rw [HG.out]; omega
      | false =>
        have n32 : c ≠ 32 := fun e => by rw [e] at hbl; exact absurd hbl (by decide)
        have n10 : c ≠ 10 := fun e => by rw [e] at hbl; exact absurd hbl (by decide)
        have n9 : c ≠ 9 := fun e => by rw [e] at hbl; exact absurd hbl (by decide)
        have n13 : c ≠ 13 := fun e => by rw [e] at hbl; exact absurd hbl (by decide)
        have g32 : ((c.toNat : Int) == 32) = false := u8_ne (n := 32) (by decide) n32
        have g10 : ((c.toNat : Int) == 10) = false := u8_ne (n := 10) (by decide) n10
        have g9 : ((c.toNat : Int) == 9) = false := u8_ne (n := 9) (by decide) n9
        have g13 : ((c.toNat : Int) == 13) = false := u8_ne (n := 13) (by decide) n13
        clear n32 n10 n9 n13
        cases ha : atB s k begC with
        | true =>
          have HA : Hid (atB s k ⟨#[40, 42]⟩ = true) := ha
          obtain ⟨a1, a2⟩ := at_two k1 ha
          have hl2 := HL.out
          rw [a2, lexC_comment docSigns] at hl2
          have HC := hidden (fun w => comment_any s (by omega) _ k w (Nat.le_refl _) a1)
          cases hk : skipC 0 (suf s (k + 2)) with
          | none =>
            rw [hk] at hl2 HC
            have HE : Hid (R = .error (20, s.size - k)) := by
              show _ = _
              rw [← hl2, suf_len, show s.size - (k + 2) + 2 = s.size - k by omega]
              rfl
            have HC : Hid (∀ w, Calls Tryd.prog 17 #[.string s, .int .i64 (k : Int)] w fun e w' => e = .returned (.tuple #[.int .i64 0, .bool false]) ∧ w' = w) := HC.out
            clear hl2 a2 ha hk hbl e0 HL
            go_wp2_with (first | (go_at_call 16; refine (at_any s _ k _ k1 (by omega) (by decide) HA.out).mono ?_; rintro e w' ⟨rfl, hw'⟩; rw [hw']; clear hw' w') | (go_at_call 17; refine (HC.out _).mono ?_; rintro e w' ⟨rfl, hw'⟩; rw [hw']; clear hw' w'))
            go_ret3
            rw [HE.out]
            exact ⟨by rw [show s.size - (s.size - k) = k by omega]; rfl, HB.out⟩
          | some r =>
            obtain ⟨q1, q2, q3⟩ := skip_suf hk a1
            rw [hk] at hl2 HC
            have HL2 : Hid (preL acc (lexC docW (suf s (s.size - r.length))) = R) := by show _ = _; rw [← hl2, ← q1]
            have HC : Hid (∀ w, Calls Tryd.prog 17 #[.string s, .int .i64 (k : Int)] w fun e w' => e = .returned (.tuple #[.int .i64 ((s.size - r.length : Nat) : Int), .bool true]) ∧ w' = w) := by
              intro w
              have := HC.out w
              rw [show commentR s (some r) = (((s.size - r.length : Nat) : Int), true) by unfold commentR; simp only; rw [show (s.size : Int) - (r.length : Int) = ((s.size - r.length : Nat) : Int) by omega]] at this
              exact this
            clear hl2 a2 ha hk hbl e0 HL q1
            obtain ⟨m, hm⟩ : ∃ m, s.size - r.length = m := ⟨_, rfl⟩
            rw [hm] at HC HL2 q2
            have m1 : m ≤ s.size := by omega
            clear hm q3
            go_wp2_with (first | (go_at_call 16; refine (at_any s _ k _ k1 (by omega) (by decide) HA.out).mono ?_; rintro e w' ⟨rfl, hw'⟩; rw [hw']; clear hw' w') | (go_at_call 17; refine (HC.out _).mono ?_; rintro e w' ⟨rfl, hw'⟩; rw [hw']; clear hw' w'))
            go_roundg (s.size - m)
            case rel => exact ⟨m, acc, by omega, by omega, rfl, rfl, HL2.out, HT.out, HB.out⟩
            case measure => rw [HG.out]; omega
        | false =>
          have HA : Hid (atB s k ⟨#[40, 42]⟩ = false) := ha
          have b3 := at_opens k1 ha
          have hl2 := HL.out
          rw [e0] at b3
          have hl3 : lexC docW (suf s k) = (match tokAt docW (suf s k) with | .error e => .error (e, (suf s k).length) | .ok (t, r) => (match lexC docW r with | .error e => .error e | .ok ts => .ok ((t, (suf s k).length) :: ts))) := by
            have := lexC_tok docSigns hbl b3
            rw [← e0] at this
            exact this
          rw [hl3] at hl2
          have HK := hidden (fun (w0 : World) => one_as s k w0 hlt (by omega))
          have hlen : (tvs s.size acc).length < 1000000 := by rw [tvs_len]; omega
          cases ht : tokAt docW (suf s k) with
          | error e' =>
            have z1 : (e' != 0) = true := by rw [bne_iff_ne]; exact tok_err ht
            rw [ht] at hl2 HK
            have HE : Hid (R = .error (e', s.size - k)) := by show _ = _; rw [← hl2, ← suf_len]; rfl
            clear hl2 hl3 b3 e0 ht HL ha hbl
            go_wp2_with (first | (go_at_call 16; refine (at_any s _ k _ k1 (by omega) (by decide) HA.out).mono ?_; rintro e w' ⟨rfl, hw'⟩; rw [hw']; clear hw' w') | (go_at_call 18; refine (HK.out _).mono ?_; rintro e w7 ⟨⟨a1, a2, a3, a4, rfl⟩, hb⟩; have B7 := hidden (HB.out.trans (hb.mono HB.out.size)); clear hb))
            go_ret3
            rw [HE.out]
            exact ⟨by rw [show s.size - (s.size - k) = k by omega]; rfl, B7.out.alloc B7.out.size _⟩
          | ok tr =>
            obtain ⟨t, r⟩ := tr
            rw [ht] at hl2 HK
            obtain ⟨r1, r2⟩ := suf_at (tok_suf ht) (by omega)
            have r3 := tok_len docSigns ht
            rw [suf_len] at r3
            have HL2 : Hid (preL (acc ++ [(t, s.size - k)]) (lexC docW (suf s (s.size - r.length))) = R) := by
              show _ = _
              rw [← hl2, ← suf_len, ← r1]
              exact (preL_tok _).symm
            have HV := hidden (tvs_more k1 acc t)
            have HI : Hid ((k : Int) + ((s.size - k - r.length : Nat) : Int) = ((s.size - r.length : Nat) : Int)) := by show _ = _; omega
            clear hl2 hl3 b3 e0 ht HL ha hbl r1
            go_wp2_with (first | (go_at_call 16; refine (at_any s _ k _ k1 (by omega) (by decide) HA.out).mono ?_; rintro e w' ⟨rfl, hw'⟩; rw [hw']; clear hw' w') | (go_at_call 18; refine (HK.out _).mono ?_; rintro e w7 ⟨rfl, hb⟩; have B7 := hidden (HB.out.trans (hb.mono HB.out.size)); have T7 := hidden (row_below HT.out hb); have hsz := B7.out.size; clear hb) | (at_builtin; refine append_tok rfl (.tmp 68) (.tmp 70) rfl w.heap.size (.slice ao (tvs s.size acc).length cp) (tvs s.size acc) rfl (World.ownsRow.alloc (World.ownsRow.alloc T7.out _) _) (w7.heap.size + 1) 1 ⟨t.kind, k, t.N, t.S⟩ (0, 0) rfl (blk_two _ _ _) hlen (by rw [nblk_alloc, nblk_alloc]; omega) ?_; intro g6 c6 w8 hr6 gr6; have T8 := hidden hr6; have B8 := hidden (((B7.out.alloc hsz _).alloc (by rw [nblk_alloc]; omega) _).grown gr6 (by rw [nblk_alloc, nblk_alloc]; omega) (own_ge T7.out)); clear hr6 gr6))
            go_roundg (s.size - (s.size - r.length))
            case rel =>
              refine ⟨s.size - r.length, acc ++ [(t, s.size - k)], by omega, by simp; omega, congrArg _ HI.out, rfl, HL2.out, ?_, B8.out⟩
              rw [HV.out]
              have e9 : (tvs s.size acc).length + 1 = (tvs s.size acc ++ [(⟨t.kind, k, t.N, t.S⟩ : TV)]).length := by simp
              unfold TR
              rw [← e9]
              have := T8.out
              unfold TR at this
              rw [← e9] at this
              exact this
            case measure => rw [HG.out]; omega
    · have zz : ¬ (k : Int) < (s.size : Int) := by omega
      have hke : k = s.size := by omega
      have HE : Hid (R = .ok acc) := by
        show _ = _
        rw [← HL.out, suf_end hlt]
        show Except.ok (acc ++ []) = _
        rw [List.append_nil]
      have hlen : (tvs s.size acc).length < 1000000 := by rw [tvs_len]; omega
      have HKE := hidden hke
      clear HL hke
      have hsz := HB.out.size
      go_wp2_with (at_builtin; refine append_tok rfl (.tmp 75) (.tmp 79) rfl w.heap.size (.slice ao (tvs s.size acc).length cp) (tvs s.size acc) rfl (World.ownsRow.alloc HT.out _) wr.heap.size 1 ⟨0, s.size, 0, []⟩ (0, 0) rfl (blk_alloc_new _ _) hlen (by rw [nblk_alloc]; omega) ?_; intro g6 c6 w8 hr6 gr6; have T8 := hidden hr6; have B8 := hidden ((HB.out.alloc hsz _).grown gr6 (by rw [nblk_alloc]; omega) (own_ge HT.out)); clear hr6 gr6)
      go_ret3
      rw [HE.out]
      refine ⟨_, rfl, ?_, B8.out⟩
      have := T8.out
      unfold TR at this ⊢
      rw [List.length_append] at this ⊢
      exact this
end Go.Proofs.YtapecobalkjdhaaDoor
