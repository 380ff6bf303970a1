/-
  Layer 7, the document's own lex: texts. Condition: the place is within the source.
-/
import Derived.Test.YtapecobalkjdhaaDoorR7Row
import Derived.Deep.CutRange
namespace Go.Proofs.YtapecobalkjdhaaDoor
open Go.ChangeShapes Go.WideShapes Go.ChangeAt Go.RowKit Go.Deep
set_option linter.unusedVariables false
set_option maxHeartbeats 2000000

/-- A text that is read, behind bytes that were. -/
def pre (acc : List UInt8) (o : Option (List UInt8 × List UInt8)) : Option (List UInt8 × List UInt8) := o.map fun p => (acc ++ p.1, p.2)
theorem pre_nil (o : Option (List UInt8 × List UInt8)) : pre [] o = o := by cases o <;> rfl
theorem txt_mark (t acc : List UInt8) : pre acc (txtB (34 :: t)) = some (acc, t) := by
  rw [txtB.eq_def]; simp [pre]
theorem txt_one {c : UInt8} (t acc : List UInt8) (h1 : c ≠ 34) (h2 : c ≠ 92) : pre acc (txtB (c :: t)) = pre (acc ++ [c]) (txtB t) := by
  rw [txtB.eq_def (c :: t)]
  simp only [if_neg h1, if_neg h2]
  cases txtB t with
  | none => rfl
  | some p => obtain ⟨x, r⟩ := p; simp [pre]
theorem txt_form {b : UInt8} {t r : List UInt8} (acc : List UInt8) (h : formB t = some (b, r)) : pre acc (txtB (92 :: t)) = pre (acc ++ [b]) (txtB r) := by
  rw [txtB.eq_def (92 :: t)]
  simp only [if_neg (show (92 : UInt8) ≠ 34 by decide), if_true]
  split
  · rename_i b' r' h'
    rw [h] at h'
    simp only [Option.some.injEq, Prod.mk.injEq] at h'
    obtain ⟨rfl, rfl⟩ := h'
    cases txtB r with
    | none => rfl
    | some p => obtain ⟨x, r⟩ := p; simp [pre]
  · rename_i h'; rw [h] at h'; cases h'
theorem txt_noform {t : List UInt8} (acc : List UInt8) (h : formB t = none) : pre acc (txtB (92 :: t)) = none := by
  rw [txtB.eq_def (92 :: t)]
  simp only [if_neg (show (92 : UInt8) ≠ 34 by decide), if_true]
  split
  · rename_i b' r' h'; rw [h] at h'; cases h'
  · rfl
theorem suf_at {s : ByteArray} {i : Nat} {r : List UInt8} (h : r <:+ suf s i) (hi : i ≤ s.size) : r = suf s (s.size - r.length) ∧ r.length ≤ s.size - i := by
  obtain ⟨t, ht⟩ := h
  have h1 : t.length + r.length = s.size - i := by rw [← suf_len, ← ht, List.length_append]
  refine ⟨?_, by omega⟩
  have : suf s (s.size - r.length) = (suf s i).drop (s.size - r.length - i) := by
    unfold suf
    rw [List.drop_drop]
    congr 1
    omega
  rw [this, ← ht, show s.size - r.length - i = t.length from by omega, List.drop_left]
/-- What text tells. -/
def textR (s : ByteArray) (i : Nat) (o : Option (List UInt8 × List UInt8)) : List UInt8 × Int := match o with | some (x, r) => (x, (s.size : Int) - i - r.length) | none => ([], 0)
set_option maxRecDepth 20000 in
theorem text_any (s : ByteArray) (i : Nat) (w : World) (hs : s.size ≤ 900000) (hi : i < s.size) : Calls Tryd.prog 29 #[.string s, .int .i64 (i : Int)] w fun e w' => e = .returned (.tuple #[.string ⟨(textR s i (txtB (suf s (i + 1)))).1.toArray⟩, .int .i64 (textR s i (txtB (suf s (i + 1)))).2]) ∧ Below w.heap.size w w' := by
  obtain ⟨T, hT⟩ : ∃ T, txtB (suf s (i + 1)) = T := ⟨_, rfl⟩
  rw [hT]
  have HT := hidden hT
  clear hT
  go_enter Tryd.func29, Tryd.ntmps29
  go_wp2
  go_loopw [6, 7] (fun ov kv wr => ∃ (k : Nat) (acc : List UInt8), i + 1 ≤ k ∧ k ≤ s.size ∧ acc.length ≤ k ∧ kv = .int .i64 k ∧ pre acc (txtB (suf s k)) = T ∧ BR wr w.heap.size ov acc ∧ Below w.heap.size w wr) (fun ov kv wr => (s.size - intOf kv).toNat)
  case atStart => exact ⟨i + 1, [], Nat.le_refl _, hi, by simp, by go_num, by rw [pre_nil]; exact HT.out, empty_byte (blk_alloc_new _ _) (Nat.le_refl _), (Below.refl _ _).alloc (Nat.le_refl _) _⟩
  case round =>
    clear HT
    obtain ⟨k, acc, k1, k2, k3, rfl, hp, hbr, hb⟩ := hrel
    obtain ⟨g, cp, rfl, hcells, _⟩ := hbr.slice
    have hlt9 := hbr.lt g rfl
    have HP := hidden hp
    have HBR := hidden hbr
    have HB := hidden hb
    have hsz := hb.size
    have HG := hidden hlt9.1
    clear hp hbr hb hlt9
    by_cases hlt : k < s.size
    · have z1 : (k : Int) < (s.size : Int) := by omega
      have e0 := suf_cons s hlt
      obtain ⟨c, hc⟩ : ∃ c, s[k] = c := ⟨_, rfl⟩
      rw [hc] at e0
      have l1 := suf_len s (k + 1)
      have u34 := u8_val c 34 (by decide)
      have u92 := u8_val c 92 (by decide)
      by_cases c1 : c = 34
      · have HO : Hid (textR s i T = (acc, (k : Int) + 1 - i)) := by
          show _ = _
          rw [← HP.out, e0, c1, txt_mark]
          unfold textR
          simp only [l1]
          rw [Prod.mk.injEq]
          exact ⟨rfl, by omega⟩
        have hcv : Sem.run Tryd.prog (convert 59 9 (.slice (some ⟨g, 0, none⟩) acc.length cp)) wr = .ok (.string ⟨acc.toArray⟩) wr := run_string (w := wr) acc hcells
        subst c1
        clear e0 l1 u34 u92 hcells
        go_wp2
        all_goals go_ret2
        all_goals exact ⟨by rw [HO.out]; rfl, HB.out⟩
      · have g1 : ((c.toNat : Int) == 34) = false := by rw [beq_eq_false_iff_ne]; exact fun h => c1 (u34.2 h)
        by_cases c2 : c = 92
        · rw [e0, c2] at HP
          cases hf : formB (suf s (k + 1)) with
          | none =>
            have HFR : Hid (formR s (k + 1) = (0, 0)) := by show _ = _; unfold formR; rw [hf]
            have HO : Hid (textR s i T = ([], 0)) := by show _ = _; rw [← HP.out, txt_noform acc hf]; rfl
            have HF : Hid (∀ w, Calls Tryd.prog 46 #[.string s, .int .i64 ((k : Int) + 1)] w fun e w' => e = .returned (.tuple #[.int .u8 (formR s (k + 1)).1, .int .i64 (formR s (k + 1)).2]) ∧ ∃ n, w' = w.drewN n) := fun w => form_any s (k + 1) w (by omega) (by omega)
            subst c2
            clear e0 l1 u34 u92 hcells hf
            go_wp2_with (go_at_call 46; refine (HF.out _).mono ?_; rw [HFR.out]; rintro e w5 ⟨rfl, n5, hw5⟩; have B5 : Hid (Below w.heap.size w w5) := (by rw [hw5]; exact below_drewN HB.out _); clear hw5)
            all_goals go_ret2
            all_goals exact ⟨by rw [HO.out]; rfl, B5.out⟩
          | some q =>
            obtain ⟨b, r⟩ := q
            obtain ⟨r1, r2⟩ := suf_at (formB_suf hf) (by omega)
            have r3 := formB_len hf
            rw [l1] at r3
            have HFR : Hid (formR s (k + 1) = ((b.toNat : Int), ((s.size - (k + 1) - r.length : Nat) : Int))) := by
              show _ = _
              unfold formR
              rw [hf]
              simp only
              rw [Prod.mk.injEq]
              exact ⟨rfl, by omega⟩
            have HP2 : Hid (pre (acc ++ [b]) (txtB (suf s (k + (s.size - (k + 1) - r.length) + 1))) = T) := by
              show _ = _
              rw [← HP.out, txt_form acc hf, show k + (s.size - (k + 1) - r.length) + 1 = s.size - r.length from by omega, ← r1]
            have HF : Hid (∀ w, Calls Tryd.prog 46 #[.string s, .int .i64 ((k : Int) + 1)] w fun e w' => e = .returned (.tuple #[.int .u8 (formR s (k + 1)).1, .int .i64 (formR s (k + 1)).2]) ∧ ∃ n, w' = w.drewN n) := fun w => form_any s (k + 1) w (by omega) (by omega)
            obtain ⟨d, hd⟩ : ∃ d, d = s.size - (k + 1) - r.length := ⟨_, rfl⟩
            rw [← hd] at HFR HP2
            have d1 : 1 ≤ d := by omega
            have d2 : k + 1 + d ≤ s.size := by omega
            have d3 : ((d : Int) == 0) = false := by rw [beq_eq_false_iff_ne]; omega
            subst c2
            clear e0 l1 u34 u92 hcells hf r1 r2 r3 hd
            go_upto_region 12 with (go_at_call 46; refine (HF.out _).mono ?_; rw [HFR.out]; rintro e w5 ⟨rfl, n5, hw5⟩; have B5 : Hid (Below w.heap.size w w5) := (by rw [hw5]; exact below_drewN HB.out _); have R5 : Hid (BR w5 w.heap.size (.slice (some ⟨g, 0, none⟩) acc.length cp) acc) := (by rw [hw5]; exact HBR.out.below (below_drewN (Below.refl _ _) _)); clear hw5)
            have hsz5 := B5.out.size
            go_wp2_with (at_builtin; refine append_byte rfl (.tmp 48) (.tmp 50) rfl w.heap.size (.slice (some ⟨g, 0, none⟩) acc.length cp) acc rfl (R5.out.below ((Below.refl _ _).alloc (Nat.le_refl _) _)) w5.heap.size 1 b rfl (byte_new _ _ _) (by omega) (by rw [nblk_alloc]; omega) ?_; intro g6 c6 w6 hr6 gr6; have R6 := hidden hr6; have B6 : Hid (Below w.heap.size w w6) := B5.out.trans (below_more gr6 hsz5 (fun z e => by have := HG.out; have : g = z := (by simpa [Value.ownBlock] using e); omega)); clear hr6 gr6)
            all_goals go_roundw
            case rel => exact ⟨k + d + 1, acc ++ [b], by omega, by omega, by simp; omega, by go_num, HP2.out, R6.out, B6.out⟩
            case measure => simp [intOf]; omega
        · have g2 : ((c.toNat : Int) != 92) = true := by rw [bne_iff_ne]; exact fun h => c2 (u92.2 h)
          have HP2 : Hid (pre (acc ++ [c]) (txtB (suf s (k + 1))) = T) := by
            show _ = _
            rw [← HP.out, e0, txt_one _ acc c1 c2]
          clear e0 l1 u34 u92 hcells c1 c2
          go_wp2_with (at_builtin; refine append_byte rfl (.tmp 33) (.tmp 37) rfl w.heap.size (.slice (some ⟨g, 0, none⟩) acc.length cp) acc rfl (HBR.out.below ((Below.refl _ _).alloc (Nat.le_refl _) _)) wr.heap.size 1 c rfl (byte_new _ _ _) (by omega) (by rw [nblk_alloc]; omega) ?_; intro g6 c6 w6 hr6 gr6; have R6 := hidden hr6; have B6 : Hid (Below w.heap.size w w6) := HB.out.trans (below_more gr6 hsz (fun z e => by have := HG.out; have : g = z := (by simpa [Value.ownBlock] using e); omega)); clear hr6 gr6)
          all_goals go_roundw
          case rel => exact ⟨k + 1, acc ++ [c], by omega, by omega, by simp; omega, by go_num, HP2.out, R6.out, B6.out⟩
          case measure => simp [intOf]; omega
    · have z1 : ¬ (k : Int) < (s.size : Int) := by omega
      have HO : Hid (textR s i T = ([], 0)) := by
        show _ = _
        have e0 : suf s k = [] := List.length_eq_zero_iff.1 (by rw [suf_len]; omega)
        rw [← HP.out, e0, txtB.eq_def]; rfl
      clear hcells
      go_wp2
      all_goals go_ret2
      all_goals exact ⟨by rw [HO.out]; rfl, HB.out⟩
end Go.Proofs.YtapecobalkjdhaaDoor
