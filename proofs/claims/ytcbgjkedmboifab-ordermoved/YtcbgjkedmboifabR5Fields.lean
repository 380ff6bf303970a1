/-
  Layer 5: what the document's own Fields tells of a text. Condition: the text has 40000 bytes at most.
-/
import Derived.Test.YtcbgjkedmboifabLibC
import Derived.Test.YtcbgjkedmboifabLibB
import Derived.Deep.CutRange
import Derived.BigQuiet
namespace Go.Proofs.Ytcbgjkedmboifab
open Go.ChangeShapes Go.WideShapes Go.ChangeAt Go.RowKit Go.Deep
set_option linter.unusedVariables false
set_option maxHeartbeats 1000000

def lenV : Value → Nat
  | .slice _ n _ => n
  | _ => 0
/-- A text's bytes. -/
def bytesS (s : ByteArray) : List UInt8 := s.data.toList
theorem bytesS_len (s : ByteArray) : (bytesS s).length = s.size := by unfold bytesS; rw [Array.length_toList]; rfl
theorem byte_cell {w : World} {b : Nat} {x : Value} {t : TypeId} (h : w.heap[b]? = some (.cells #[x] t (0, 0))) : w.cell? ⟨b, 0, none⟩ = some x := by
  simp [World.cell?, h]
theorem byte_new (w : World) (b : Value) (t : TypeId) : (w.alloc (.cells #[b] t)).cell? ⟨w.heap.size, 0, none⟩ = some b := byte_cell (blk_alloc_new _ _)
theorem below_more {w w' : World} {o : Obj} {B : Nat} {row : Option Nat} (gr : (w.alloc o).grownBy w' row) (hB : B ≤ w.heap.size) (hr : ∀ q, row = some q → B ≤ q) : Below B w w' := by
  have k : Only (fun q => row = some q) w w' := ⟨gr.os, gr.tape, gr.output, Nat.le_trans (by rw [nblk_alloc]; omega) gr.size, fun q hq hs => (gr.block q (by rw [nblk_alloc]; omega) (fun e => hs e.symm)).trans (blk_alloc_lt _ _ _ hq)⟩
  exact k.below hB (fun q hq hs => by have := hr q hs; omega)
/-- The first j words. -/
def wordR (F : List Int) (j : Nat) : List Value := (F.take j).map fun x => .int .u64 x
theorem empty_word {w : World} {B g : Nat} {F : List Int} (h : w.heap[g]? = some (.cells #[] 30 (0, 0))) (hB : B ≤ g) : w.ownsRow B 30 1 (.slice (some ⟨g, 0, none⟩) 0 0) 0 (wordR F 0) :=
  ⟨by simp [wordR], .inr ⟨g, 0, #[], rfl, hB, h, Nat.le_refl _, Nat.zero_le _, by simp, by simp [wordR]⟩⟩
/-- A row of bytes is as it was where a row of words has grown. -/
theorem br_keep {w w' : World} {o : Obj} {B B' : Nat} {v v' : Value} {l : List UInt8} {n : Nat} {xs : List Value} (h : BR w B v l) (hO : w.ownsRow B' 30 1 v' n xs) (gr : (w.alloc o).grownBy w' v'.ownBlock) : ∀ q, v.ownBlock = some q → w'.heap[q]? = w.heap[q]? := by
  intro q hq
  have hlt := (h.lt q hq).2
  refine (gr.block q (by rw [nblk_alloc]; omega) (fun e => ?_)).trans (blk_alloc_lt _ _ _ hlt)
  obtain ⟨cur, hc⟩ := own_row hO q e.symm
  obtain ⟨g, cap, cur2, fz, e2, _, hg, _⟩ := h
  rw [e2] at hq
  have : g = q := by simpa [Value.ownBlock] using hq
  subst this
  rw [hc] at hg
  simp at hg
theorem wordR_range {F : List Int} {j : Nat} (hj : j ≤ F.length) : wordR F j = (List.range j).map fun i => .int .u64 (F.getD i 0) := by
  unfold wordR
  refine List.ext_getElem? (fun k => ?_)
  rw [List.getElem?_map, List.getElem?_map, List.getElem?_take]
  by_cases hk : k < j
  · rw [if_pos hk, List.getElem?_range hk, List.getElem?_eq_getElem (by omega)]
    simp [List.getD_eq_getElem?_getD, List.getElem?_eq_getElem (show k < F.length by omega)]
  · rw [if_neg hk, List.getElem?_eq_none (by simpa using hk)]; rfl
/-- Where the loop over the words is: j words stand. -/
def WordsAt (B m : Nat) (pd : List UInt8) (bv : Value) (w : World) (ov iv : Value) (wr : World) : Prop :=
  ∃ (j go co : Nat), j ≤ m ∧ iv = .int .i64 ((8 * j : Nat) : Int) ∧ ov = .slice (some ⟨go, 0, none⟩) j co ∧ wr.ownsRow B 30 1 (.slice (some ⟨go, 0, none⟩) j co) j (wordR (wordsL m pd) j) ∧ BR wr B bv pd ∧ Below B w wr
/-- What Fields tells: a fresh row of the text's words. -/
def TextRow (l : List UInt8) (m : Nat) (w : World) (e : Ending) (w' : World) : Prop :=
  ∃ g c, e = .returned (.slice (some ⟨g, 0, none⟩) m c) ∧ Own w' g m (fun i => (fieldsT l).getD i 0) ∧ w.heap.size ≤ g ∧ Below w.heap.size w w'
set_option maxRecDepth 100000 in
theorem rfields_any (s : ByteArray) (w : World) (hs : s.size ≤ 40000) : Calls Try.prog 16 #[.string s] w fun e w' => TextRow (bytesS s) (s.size / 8 + 1) w e w' := by
  obtain ⟨cap, C, fz, hcv, hbr⟩ := run_bytes s (by unfold maxLen; omega) w
  have HBR : Hid (BR (w.alloc (.cells C 5 fz)).drew w.heap.size (.slice (some ⟨w.heap.size, 0, none⟩) s.size cap) (bytesS s)) := hbr w.heap.size (Nat.le_refl _)
  have HB1 : Hid (Below w.heap.size w (w.alloc (.cells C 5 fz)).drew) := ((Below.refl _ _).alloc (Nat.le_refl _) _).drew
  have hcv2 : Sem.run Try.prog (convert 9 85 (.string s)) w = .ok (.slice (some ⟨w.heap.size, 0, none⟩) s.size cap) (w.alloc (.cells C 5 fz)).drew := hcv
  clear hbr hcv
  go_enter Try.func16, Try.ntmps16
  go_wp2_with fail
  generalize (w.alloc (.cells C 5 fz)).drew = w1 at *
  go_loopw [3] (fun bv wr => ∃ k : Nat, k ≤ 7 - s.size % 8 ∧ BR wr w.heap.size bv (bytesS s ++ List.replicate k 0) ∧ Below w.heap.size w wr) (fun bv _ => 50000 - lenV bv)
  case atStart => exact ⟨0, Nat.zero_le _, by rw [List.replicate_zero, List.append_nil]; exact HBR.out, HB1.out⟩
  case round =>
    clear HBR HB1 hcv2
    obtain ⟨k, hk, hbr, hb⟩ := hrel
    obtain ⟨g, cp, rfl, hcell, hfr, hcp, hg, hgl⟩ := hbr.slice
    have hl : (bytesS s ++ List.replicate k 0).length = s.size + k := by rw [List.length_append, bytesS_len, List.length_replicate]
    rw [hl] at hbr ⊢
    have HL := hidden hl
    have HBR := hidden hbr
    have HB := hidden hb
    have HSZ := hidden hb.size
    clear hbr hb hcell hfr hcp hl
    by_cases hlt : k < 7 - s.size % 8
    · have hmod : ((s.size : Int) + (k : Int)) % 8 < 7 := by omega
      have HREP : Hid (bytesS s ++ List.replicate k 0 ++ [0] = bytesS s ++ List.replicate (k + 1) 0) := by show _ = _; rw [List.append_assoc, ← List.replicate_succ']
      go_wp2_with (at_builtin; refine append_byte rfl (.tmp 14) (.tmp 15) rfl w.heap.size (.slice (some ⟨g, 0, none⟩) (s.size + k) cp) (bytesS s ++ List.replicate k 0) rfl (HBR.out.below ((Below.refl _ _).alloc (Nat.le_refl _) _)) wr.heap.size 1 0 rfl (byte_new _ _ _) (by rw [HL.out]; omega) (by rw [nblk_alloc]; have := HSZ.out; omega) ?_; rw [HL.out, HREP.out]; intro g2 c2 w2 hr2 gr2; have R2 := hidden hr2; have B2 : Hid (Below w.heap.size w w2) := HB.out.trans (below_more gr2 HSZ.out (fun q e => by have : g = q := (by simpa [Value.ownBlock] using e); omega)); clear hr2 gr2)
      go_roundw
      case rel => exact ⟨k + 1, by omega, R2.out, B2.out⟩
      case measure => simp [lenV]; omega
    · have ek : k = 7 - s.size % 8 := by omega
      have hmod : ¬ ((s.size : Int) + (k : Int)) % 8 < 7 := by omega
      have HEK := hidden ek
      clear ek
      have HP : Hid (Value.int .u8 (7 - (s.size : Int) % 8) = u8v (UInt8.ofNat (7 - s.size % 8))) := by
        show _ = _
        have e : (UInt8.ofNat (7 - s.size % 8)).toNat = 7 - s.size % 8 := by rw [UInt8.toNat_ofNat']; omega
        unfold u8v
        rw [e]
        congr 1
        omega
      have HPAD : Hid (bytesS s ++ List.replicate k 0 ++ [UInt8.ofNat (7 - s.size % 8)] = padT (bytesS s)) := by
        show _ = _
        rw [HEK.out]
        unfold padT
        rw [bytesS_len, List.append_assoc]
      obtain ⟨m, hm⟩ : ∃ m, m = s.size / 8 + 1 := ⟨_, rfl⟩
      have HM := hidden hm
      have hm1 : m ≤ 5001 := by omega
      have HPL : Hid ((padT (bytesS s)).length = 8 * m) := by show _ = _; rw [padT_len, bytesS_len, hm]
      have HK8 : Hid (s.size + k + 1 = 8 * m) := by have := HEK.out; show _ = _; omega
      have HFT : Hid (fieldsT (bytesS s) = wordsL m (padT (bytesS s))) := by show _ = _; unfold fieldsT; rw [bytesS_len, hm]
      clear hm
      generalize padT (bytesS s) = pd at *
      go_upto_region 5 with (at_builtin; refine append_byte rfl (.tmp 17) (.tmp 23) rfl w.heap.size (.slice (some ⟨g, 0, none⟩) (s.size + k) cp) (bytesS s ++ List.replicate k 0) rfl (HBR.out.below ((Below.refl _ _).alloc (Nat.le_refl _) _)) wr.heap.size 1 (UInt8.ofNat (7 - s.size % 8)) rfl ((byte_new _ _ _).trans (congrArg some HP.out)) (by rw [HL.out]; omega) (by rw [nblk_alloc]; have := HSZ.out; omega) ?_; rw [HL.out, HPAD.out, HK8.out]; intro g2 c2 w2 hr2 gr2; have R2 := hidden hr2; have B2 : Hid (Below w.heap.size w w2) := HB.out.trans (below_more gr2 HSZ.out (fun q e => by have : g = q := (by simpa [Value.ownBlock] using e); omega)); clear hr2 gr2)
      clear HBR HB HSZ HL HPAD HP HEK HK8 hmod hlt hk hg hgl
      have HO0 : Hid ((w2.alloc (.cells #[] 30)).ownsRow w.heap.size 30 1 (.slice (some ⟨w2.heap.size, 0, none⟩) 0 0) 0 (wordR (wordsL m pd) 0)) := empty_word (blk_alloc_new _ _) B2.out.size
      have HR0 := hidden (R2.out.below ((Below.refl _ _).alloc (Nat.le_refl _) (.cells #[] 30)))
      have HB0 := hidden (B2.out.alloc B2.out.size (.cells #[] 30))
      go_wp2_with fail
      generalize w2.alloc (.cells #[] 30) = w3 at *
      go_loopw [4, 5] (fun ov iv wr => WordsAt w.heap.size m pd (.slice (some ⟨g2, 0, none⟩) (8 * m) c2) w ov iv wr) (fun _ iv _ => 8 * m - (intOf iv).toNat)
      case atStart => exact ⟨0, _, _, Nat.zero_le _, rfl, rfl, HO0.out, HR0.out, HB0.out⟩
      case round =>
        clear HO0 HR0 HB0 R2 B2
        obtain ⟨j, go, co, hj, rfl, rfl, hO, hR, hb⟩ := hrel
        have HO := hidden hO
        have HR := hidden hR
        have HB := hidden hb
        clear hO hR hb
        by_cases hlt : j < m
        · have x2 : ((8 * j : Nat) : Int) < ((8 * m : Nat) : Int) := by omega
          have hch : ((pd.drop (8 * j)).take 8).length = 8 := by have := HPL.out; rw [List.length_take, List.length_drop]; omega
          have HCW : Hid ((wordsL m pd)[j]? = some (wordL ((pd.drop (8 * j)).take 8))) := wordsL_at m pd j hlt
          have HCH : Hid (∀ q, q < 8 → ∃ hq : 8 * j + q < pd.length, ((pd.drop (8 * j)).take 8).drop q = pd[8 * j + q] :: ((pd.drop (8 * j)).take 8).drop (q + 1)) := fun q hq => by
            have hl := HPL.out
            have h1 : 8 * j + q < pd.length := by omega
            refine ⟨h1, ?_⟩
            rw [List.drop_eq_getElem_cons (by omega)]
            congr 1
            simp
          have HWB : Hid (∀ q, q < 8 → 0 ≤ wordL (((pd.drop (8 * j)).take 8).drop (q + 1)) ∧ wordL (((pd.drop (8 * j)).take 8).drop (q + 1)) < 72057594037927936) := fun q hq => by
            have h1 := wordL_hi (((pd.drop (8 * j)).take 8).drop (q + 1))
            have h2 : (((pd.drop (8 * j)).take 8).drop (q + 1)).length < 8 := by rw [List.length_drop, hch]; omega
            have h3 : ∀ k : Nat, k < 8 → (256 : Int) ^ k ≤ 72057594037927936 := by decide
            have h4 := h3 _ h2
            exact ⟨wordL_lo _, by omega⟩
          have HC8 : Hid (((pd.drop (8 * j)).take 8).drop 8 = []) := by show _ = _; rw [List.drop_of_length_le (by omega)]
          have HC0 : Hid (wordL (((pd.drop (8 * j)).take 8).drop 0) = wordL ((pd.drop (8 * j)).take 8)) := by show _ = _; rw [List.drop_zero]
          clear hch
          generalize (pd.drop (8 * j)).take 8 = ch at *
          obtain ⟨gq, cpq, eq, hcell, _⟩ := HR.out.slice
          have egq : gq = g2 := by simp only [Value.slice.injEq, Option.some.injEq, Addr.mk.injEq, and_true] at eq; exact eq.1.symm
          subst egq
          clear eq
          have HCE := hidden hcell
          clear hcell
          go_wp2_with fail
          go_loop [6, 7] (fun wv kv => ∃ q : Nat, q ≤ 8 ∧ kv = .int .i64 ((q : Int) - 1) ∧ wv = .int .u64 (wordL (ch.drop q))) (fun _ kv => (intOf kv + 1).toNat)
          case atStart => exact ⟨8, Nat.le_refl _, rfl, by rw [HC8.out]; rfl⟩
          case round =>
            obtain ⟨q, hq, rfl, rfl⟩ := hrel
            by_cases hq0 : 1 ≤ q
            · obtain ⟨p, rfl⟩ : ∃ p, q = p + 1 := ⟨q - 1, by omega⟩
              obtain ⟨hpl, hdr⟩ := HCH.out p (by omega)
              obtain ⟨wl, wh⟩ := HWB.out p (by omega)
              have ek : ((p + 1 : Nat) : Int) - 1 = (p : Int) := by omega
              rw [ek]
              have hc := HCE.out (8 * j + p) hpl
              have hb := u8_lt pd[8 * j + p]
              have hwd : wordL (ch.drop p) = (pd[8 * j + p].toNat : Int) + 256 * wordL (ch.drop (p + 1)) := by rw [hdr]; rfl
              unfold u8v at hc
              have HWD := hidden hwd
              generalize pd[8 * j + p].toNat = bb at *
              generalize wordL (ch.drop (p + 1)) = W at *
              have y0 : (0 : Int) ≤ ((8 * j : Nat) : Int) + (p : Int) := by omega
              have y1 : ((8 * j : Nat) : Int) + (p : Int) < ((8 * m : Nat) : Int) := by omega
              have e1 := wrapId (((8 * j : Nat) : Int) + (p : Int)) (by omega) (by omega)
              clear hdr hwd ek hpl
              go_wp2_with fail
              go_round
              case rel => exact ⟨p, by omega, rfl, by rw [HWD.out]; first | done | (congr 1; omega) | congr 1⟩
              case measure => simp [intOf]
            · have eq0 : q = 0 := by omega
              subst eq0
              rw [HC0.out]
              have hnl : ¬ ((0 : Int) ≤ ((0 : Nat) : Int) - 1) := by omega
              have HWR : Hid (wordR (wordsL m pd) (j + 1) = wordR (wordsL m pd) j ++ [.int .u64 (wordL ch)]) := by show _ = _; unfold wordR; rw [List.take_add_one, List.map_append, HCW.out]; rfl
              obtain ⟨wl, wh⟩ := HWB.out 0 (by omega)
              have hs3 := HB.out.size
              generalize wordL ch = W at *
              clear wl wh
              go_wp2_with (at_builtin; refine wpList_append_one rfl (.tmp 46) (.tmp 48) rfl w.heap.size (.slice (some ⟨go, 0, none⟩) j co) j (wordR (wordsL m pd) j) rfl (HO.out.alloc _) ⟨wr.heap.size, 0, none⟩ 1 W rfl (by exact byte_new _ _ _) (by omega) (by rw [nblk_alloc]; omega) ?_; intro g6 c6 w6 ho6 gr6 hg6; rw [← HWR.out] at ho6; have O6 := hidden ho6; have R6 := hidden (HR.out.keep (fun q e => br_keep HR.out HO.out gr6 q e)); have B6 := hidden (HB.out.trans (below_more gr6 hs3 (fun q e => own_ge HO.out q e))); clear ho6 gr6)
              go_roundw
              case rel => exact ⟨j + 1, g6, c6, by omega, by first | rfl | (congr 1; omega), rfl, O6.out, R6.out, B6.out⟩
              case measure => simp [intOf]; omega
        · have ej : j = m := by omega
          have hnl : ¬ (((8 * j : Nat) : Int) < ((8 * m : Nat) : Int)) := by omega
          have HEJ := hidden ej
          clear ej hlt
          go_wp2_with fail
          go_ret
          have e := HEJ.out
          have eM := HM.out
          subst e
          have ho := HO.out
          rw [wordR_range (by rw [wordsL_len]; exact Nat.le_refl _)] at ho
          obtain ⟨o1, o2⟩ := own_of_row ho
          refine ⟨go, co, ?_, ?_, o2, HB.out⟩
          · rw [← eM]; rfl
          · rw [← eM, HFT.out]; exact o1
end Go.Proofs.Ytcbgjkedmboifab
