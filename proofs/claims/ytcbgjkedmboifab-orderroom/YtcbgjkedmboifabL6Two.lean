/-
  Layer 6: what the statements' own lay makes of a block's Value: its parts are laid one behind the other, then the block. Condition: what is known of its parts.
-/
import Derived.Test.YtcbgjkedmboifabL6Lay
namespace Go.Proofs.Ytcbgjkedmboifab
open Go.ChangeShapes Go.WideShapes Go.ChangeAt Go.RowKit Go.Deep
set_option linter.unusedVariables false
set_option maxHeartbeats 1000000

variable {w w' : World} {lb : Nat} {p : Pl} {rb : Nat} {s : St} {r : RS} {had : List Int} {left : Int} {O : Nat → Prop}
/-- The tag of a block's Value. -/
def tagOf (n : Int) : Int := IntKind.u64.wrap n % 201
theorem tagOf_rng (n : Int) : 0 ≤ tagOf n ∧ tagOf n ≤ 200 := by
  unfold tagOf
  have := wrapU_rng n
  unfold R64 at this
  omega
/-- What is known when i parts have been laid. -/
abbrev LayI := Nat → List Int → St → RS → List Int → Int → Prop
/-- One part is laid. -/
def PartOk (I : LayI) (w : World) (lb : Nat) (p : Pl) (rb : Nat) (O : Nat → Prop) (al : Option Addr) (i : Nat) : Prop :=
  ∀ F s1 r1 had1 left1 O1 w1, I i F s1 r1 had1 left1 → LaidIn w1 lb p rb s1 r1 had1 left1 O1 → Grows O O1 w w1 → ∃ (ad : Addr) (c0 c1 c2 c3 : Value), al = some ad ∧ w1.cell? (ad.add (i * 4)) = some c0 ∧ w1.cell? ⟨(ad.add (i * 4)).block, (ad.add (i * 4)).off + 1, none⟩ = some c1 ∧ w1.cell? ⟨(ad.add (i * 4)).block, (ad.add (i * 4)).off + 2, none⟩ = some c2 ∧ w1.cell? ⟨(ad.add (i * 4)).block, (ad.add (i * 4)).off + 3, none⟩ = some c3 ∧
    Calls Try.prog 8 #[.pointer (some ⟨lb, 0, none⟩), .agg #[c0, c1, c2, c3]] w1 fun e w2 => ∃ x s2 r2 had2 left2 O2, e = .returned (.int .u64 x) ∧ LaidIn w2 lb p rb s2 r2 had2 left2 O2 ∧ Grows O1 O2 w1 w2 ∧ I (i + 1) (F ++ [x]) s2 r2 had2 left2
/-- Where the loop over the parts is. -/
def LayTill (I : LayI) (w : World) (lb : Nat) (p : Pl) (rb : Nat) (O : Nat → Prop) (vs : Array Value) (m : Nat) (lv iv : Value) (wr : World) : Prop :=
  ∃ (i : Nat) (F : List Int) (s1 : St) (r1 : RS) (had1 : List Int) (left1 : Int) (O1 : Nat → Prop), i ≤ m ∧ iv = .int .i64 i ∧ I i F s1 r1 had1 left1 ∧ LaidIn wr lb p rb s1 r1 had1 left1 O1 ∧ Grows O O1 w wr ∧ wr.ownsRow 0 30 1 lv i (F.map u64v) ∧ (∀ q, lv.ownBlock = some q → ¬ O1 q ∧ w.heap.size ≤ q) ∧ (wr.heap[w.heap.size]? = some (.cells vs 24 (0, 0)) ∧ ¬ O1 w.heap.size)
theorem laid_lt (h : LaidIn w lb p rb s r had left O) : ∀ q, O q → q < w.heap.size := by
  obtain ⟨_, _, _, _, _, _, _, _, _, _, _, h8⟩ := h
  exact h8
/-- A part more, and the row of words has grown. -/
theorem lay_grown {w5 w6 : World} {g cq i : Nat} {F : List Int} {x : Int} {lv : Value} {O2 : Nat → Prop} {vs : Array Value} {q0 : Nat} (hl : LaidIn w5 lb p rb s r had left O2) (hgr : Grows O O2 w w5) (hlv : w5.ownsRow 0 30 1 lv i (F.map u64v)) (hn : ∀ q, lv.ownBlock = some q → ¬ O2 q ∧ w.heap.size ≤ q) (hbx : w5.heap[q0]? = some (.cells vs 24 (0, 0)))
    {o : Obj} (gr : (w5.alloc o).grownBy w6 lv.ownBlock) (hat : lv.ownBlock = some g ∨ g = (w5.alloc o).heap.size) (ho6 : w6.ownsRow 0 30 1 (.slice (some ⟨g, 0, none⟩) (i + 1) cq) (i + 1) (F.map u64v ++ [.int .u64 x])) :
    LaidIn w6 lb p rb s r had left O2 ∧ Grows O O2 w w6 ∧ w6.ownsRow 0 30 1 (.slice (some ⟨g, 0, none⟩) (i + 1) cq) (i + 1) ((F ++ [x]).map u64v) ∧ (∀ q, (Value.slice (some ⟨g, 0, none⟩) (i + 1) cq).ownBlock = some q → ¬ O2 q ∧ w.heap.size ≤ q) ∧ w6.heap[q0]? = some (.cells vs 24 (0, 0)) := by
  have hb : Below w5.heap.size w5 (w5.alloc o) := (Below.refl _ _).alloc (Nat.le_refl _) o
  have hl1 := hl.under hb
  have k6 : Only (fun q => lv.ownBlock = some q) (w5.alloc o) w6 := ⟨gr.os, gr.tape, gr.output, gr.size, fun j hj hs => gr.block j hj (fun e => hs e.symm)⟩
  have hbx1 := (blk_alloc_lt _ o _ (lt_of_some hbx)).trans hbx
  have k5 : Only (fun q => lv.ownBlock = some q) w5 w6 := (Only.of_below hb).trans k6
  refine ⟨hl1.frame k6 (fun q hq e => (hn q e).1 hq), ⟨⟨k5.os.trans hgr.only.os, k5.tape.trans hgr.only.tape, k5.output.trans hgr.only.output, Nat.le_trans hgr.only.size k5.size, fun j hj hs => ?_⟩, hgr.sub⟩, by rw [List.map_append]; exact ho6, fun q e => ?_, ?_⟩
  · exact (k5.block j (Nat.lt_of_lt_of_le hj hgr.only.size) (fun c => by have := (hn j c).2; omega)).trans (hgr.only.block j hj hs)
  · have e2 : g = q := by simpa [Value.ownBlock] using e
    subst e2
    rcases hat with c | c
    · exact hn _ c
    · rw [nblk_alloc] at c
      refine ⟨fun c2 => ?_, ?_⟩
      · have := laid_lt hl _ c2
        omega
      · have := hgr.only.size
        omega
  · exact (k6.block q0 (lt_of_some hbx1) (fun c => own_ne (hlv.alloc o) hbx1 (by decide) c.symm)).trans hbx1
theorem lay_off {w5 : World} {O1 O2 : Nat → Prop} {lv : Value} {i B : Nat} {xs : List Value} (h : w.ownsRow 0 30 1 lv i xs) (hn : ∀ q, lv.ownBlock = some q → ¬ O1 q ∧ B ≤ q) (g : Grows O1 O2 w w5) : ∀ q, lv.ownBlock = some q → ¬ O2 q ∧ B ≤ q := fun q hq => by
  obtain ⟨h1, h2⟩ := hn q hq
  refine ⟨fun c => ?_, h2⟩
  rcases g.sub q c with c | c
  · exact h1 c
  · have := (h.lt q hq).2; omega
theorem lay_off2 {w5 : World} {O1 O2 : Nat → Prop} {q : Nat} {o : Obj} (h : w.heap[q]? = some o) (hn : ¬ O1 q) (g : Grows O1 O2 w w5) : ¬ O2 q := fun c => by
  rcases g.sub q c with c | c
  · exact hn c
  · have := lt_of_some h; omega
/-- What lay of a block's Value tells and makes. -/
def TwoAs (I : LayI) (w : World) (lb : Nat) (p : Pl) (rb : Nat) (O : Nat → Prop) (n : Int) (m : Nat) (e : Ending) (w' : World) : Prop :=
  ∃ F s1 r1 had1 left1 O1 w1, I m F s1 r1 had1 left1 ∧ LaidIn w1 lb p rb s1 r1 had1 left1 O1 ∧ Grows O O1 w w1 ∧ BlockAs w1 lb p rb s1 r1 had1 left1 O1 (tagOf n) F e w'
theorem twoAs_val {I : LayI} {n : Int} {m : Nat} {e : Ending} (h : TwoAs I w lb p rb O n m e w') : ∃ x, e = .returned (.int .u64 x) := by
  obtain ⟨_, _, _, _, _, _, _, _, _, _, h⟩ := h
  exact blockAs_val h
theorem own_src {lv : Value} {F : List Int} {i : Nat} {ao : Option Addr} {c : Nat} (h : w.ownsRow 0 30 1 (.slice ao i c) i (F.map u64v)) (hi : F.length = i) (hn : ∀ q, (Value.slice ao i c).ownBlock = some q → ¬ O q) (hr : ∀ x, x ∈ F → R64 x) : Src6 w O ao F := by
  refine ⟨fun j hj => ?_, fun j hj => hr _ (by rw [List.getD_eq_getElem?_getD, List.getElem?_eq_getElem hj]; exact List.getElem_mem _)⟩
  obtain ⟨g, c', e, _, hlt⟩ := h.form (by omega)
  simp only [Value.slice.injEq] at e
  obtain ⟨rfl, _, rfl⟩ := e
  refine ⟨⟨g, 0, none⟩, rfl, hlt, hn g rfl, ?_⟩
  have e : (Addr.mk g 0 none).add j = ⟨g, j, none⟩ := by
    unfold Addr.add
    split
    · rename_i h; rw [h]
    · simp
  rw [e, h.cellAt j (by omega), List.getElem?_map, List.getElem?_eq_getElem hj, List.getD_eq_getElem?_getD, List.getElem?_eq_getElem hj]; rfl
set_option maxRecDepth 20000 in
set_option maxHeartbeats 8000000 in
theorem lay_two {I : LayI} {k n : Int} {b : ByteArray} {al : Option Addr} {len cap : Nat} (m : Nat) (w : World) (h : LaidIn w lb p rb s r had left O) (hl : 0 < left) (hl2 : left ≤ 1000000) (hk : k = 2) (n0 : -9223372036854775808 ≤ n) (n1 : n ≤ 9223372036854775807) (hlen : len ≤ maxLen) (hm : m = min len 40)
    (hI0 : I 0 [] s r had (left - 1)) (hI : ∀ i F s1 r1 had1 left1, I i F s1 r1 had1 left1 → (∀ x, x ∈ F → R64 x) ∧ F.length = i ∧ had1.length ≤ 100000)
    (hpart : ∀ i, i < m → PartOk I w lb p rb O al i) :
    Calls Try.prog 8 #[.pointer (some ⟨lb, 0, none⟩), .agg #[.int .i64 k, .int .i64 n, .string b, .slice al len cap]] w fun e w' => TwoAs I w lb p rb O n m e w' := by
  subst hk
  have HII := hidden hI
  have HPT := hidden hpart
  have HI00 := hidden hI0
  have HMM := hidden hm
  have hm40 : m ≤ 40 := by rw [hm]; exact Nat.min_le_right _ _
  clear hI hpart hI0 hm
  have HI := hidden (lay_in h (valV 2 n b al len cap))
  obtain ⟨c0, c1, c3, cf⟩ := h.cells
  have hlb : lb < w.heap.size := by obtain ⟨_, _, _, _, h1, _⟩ := h; exact lt_of_some h1
  clear h
  go_enter Try.func8, Try.ntmps8
  go_upto_region 2 with fail
  unfold valV at HI
  generalize (w.setCell ⟨lb, 3, none⟩ (.int .i64 (left - 1))).alloc (.cells #[.int .i64 2, .int .i64 n, .string b, .slice al len cap] 24) = w2 at *
  clear c0 c1 c3 cf
  obtain ⟨d0, d1, d2, d3⟩ := LayIn.cells HI.out
  obtain ⟨e0, e1, e3, ef⟩ := HI.out.laid.cells
  have hpos : ¬ left - 1 < 0 := by omega
  have hlen2 : (len : Int) ≤ 9223372036854775807 := by unfold maxLen at hlen; omega
  go_wp2_with fail
  go_loopw [6, 7] (fun lv iv wr => LayTill I w lb p rb O #[.int .i64 2, .int .i64 n, .string b, .slice al len cap] m lv iv wr) (fun _ iv _ => m - (intOf iv).toNat)
  case atStart =>
    have hb : Below w2.heap.size w2 (w2.alloc (.cells #[] 30)) := (Below.refl _ _).alloc (Nat.le_refl _) _
    refine ⟨0, [], s, r, had, left - 1, O, Nat.zero_le _, rfl, HI00.out, HI.out.laid.under hb, HI.out.grows.trans (Grows.of_below O hb), ⟨rfl, Or.inr ⟨w2.heap.size, 0, #[], rfl, Nat.zero_le _, blk_alloc_new _ _, Nat.le_refl _, Nat.zero_le _, rfl, rfl⟩⟩, fun q e => ?_, (blk_alloc_lt _ _ _ (lt_of_some HI.out.box)).trans HI.out.box, HI.out.off⟩
    have e2 : w2.heap.size = q := by simpa [Value.ownBlock] using e
    subst e2
    exact ⟨fun c => Nat.lt_irrefl _ (laid_lt HI.out.laid _ c), HI.out.grows.only.size⟩
  case round =>
    clear d0 d1 d2 d3 e0 e1 e3 ef HI HI00
    obtain ⟨i, F, s1, r1, had1, left1, O1, hi, rfl, hI1, hL, hG, hlv, hn, hbx, hob⟩ := hrel
    have hII1 := HII.out _ _ _ _ _ _ hI1
    have d3 : wr.cell? ⟨w.heap.size, 3, none⟩ = some (.slice al len cap) := by simp [World.cell?, hbx]
    have d1 : wr.cell? ⟨w.heap.size, 1, none⟩ = some (.int .i64 n) := by simp [World.cell?, hbx]
    obtain ⟨ao, cl, rfl, _, _⟩ := own_sl hlv
    have HL := hidden hL
    have HG := hidden hG
    have HLV := hidden hlv
    have HNN := hidden hn
    have HBX := hidden hbx
    have HOB := hidden hob
    have HI1 := hidden hI1
    have HII1 := hidden hII1
    clear hL hG hlv hn hbx hob hI1 hII1
    by_cases hlt : i < m
    · have z1 : (i : Int) < (len : Int) := by have := HMM.out; omega
      have z2 : (i : Int) < 40 := by have := HMM.out; omega
      obtain ⟨ad, v0, v1, v2, v3, rfl, k0, k1, k2, k3, hc⟩ := HPT.out i hlt F s1 r1 had1 left1 O1 wr HI1.out HL.out HG.out
      have HC := hidden hc
      clear hc
      go_wp2_with (first
        | (at_builtin; refine appendW _ rfl (.tmp 55) (.tmp 63) rfl (.slice ao i cl) i _ rfl (HLV5.out.alloc _) ⟨w5.heap.size, 0, none⟩ 1 x rfl (by simp [Addr.add]) (by omega) ?_; intro g cq w6 ho6 gr6 hat6 hlt6; have M6 := hidden (lay_grown H5.out G5.out HLV5.out HN5.out HB5.out gr6 hat6 ho6); clear ho6 gr6 hat6 hlt6)
        | (go_at_call 8; refine HC.out.mono ?_; rintro e w5 ⟨x, s2, r2, had2, left2, O2, rfl, h5, g5, i5⟩; have H5 := hidden h5; have G5 := hidden (HG.out.trans g5); have I5 := hidden i5; have HLV5 := hidden (own_frame HLV.out g5.only (fun q e => (HNN.out q e).1)); have HN5 : Hid (∀ q, (Value.slice ao i cl).ownBlock = some q → ¬ O2 q ∧ w.heap.size ≤ q) := lay_off HLV.out HNN.out g5; have HB5 := hidden ((g5.only.block _ (lt_of_some HBX.out) HOB.out).trans HBX.out); have HO5 := hidden (lay_off2 HBX.out HOB.out g5); clear h5 g5 i5))
      all_goals go_roundw
      case rel =>
        obtain ⟨q1, q2, q3, q4, q5⟩ := M6.out
        exact ⟨i + 1, F ++ [x], s2, r2, had2, left2, O2, by omega, by go_num, I5.out, q1, q2, q3, q4, q5, HO5.out⟩
      case measure => simp [intOf]; omega
    · have ei : i = m := by omega
      have hcond : ¬ ((i : Int) < (len : Int) ∧ (i : Int) < 40) := by have := HMM.out; omega
      obtain ⟨u0, u1⟩ := wrapU_rng n
      obtain ⟨U, hU⟩ : ∃ U, IntKind.u64.wrap n = U := ⟨_, rfl⟩
      obtain ⟨T, hT⟩ : ∃ T, tagOf n = T := ⟨_, rfl⟩
      obtain ⟨t0, t1⟩ := tagOf_rng n
      have hTU : U % 201 = T := by rw [← hU, ← hT]; rfl
      rw [hU] at u0 u1
      rw [hT] at t0 t1
      have hTt : U.tmod 201 = T := by rw [Int.tmod_eq_emod_of_nonneg u0]; exact hTU
      have eT : IntKind.i64.wrap T = T := wrapId _ (by omega) (by omega)
      have HT := hidden hT
      have HFL := hidden HII1.out.2.1
      have HBK : Hid (Calls Try.prog 10 #[.pointer (some ⟨lb, 0, none⟩), .int .i64 T, .slice ao i cl] wr fun e w' => TwoAs I w lb p rb O n m e w') := by
        have h9 := block_any (c := cl) T wr HL.out (own_src (lv := .slice ao i cl) HLV.out HFL.out (fun q e => (HNN.out q e).1) HII1.out.1) (by rw [HFL.out]; omega) HII1.out.2.2
        rw [HFL.out] at h9
        refine h9.mono ?_
        intro e w' h
        exact ⟨F, s1, r1, had1, left1, O1, wr, by rw [← ei]; exact HI1.out, HL.out, HG.out, by rw [HT.out]; exact h⟩
      clear hT ei
      by_cases hil : (i : Int) < (len : Int)
      · have hi40 : ¬ (i : Int) < 40 := fun c => hcond ⟨hil, c⟩
        clear hcond
        go_wp2_with (go_at_call 10; refine HBK.out.mono ?_; intro e w4 h4; have H4 := hidden h4; obtain ⟨x, rfl⟩ := twoAs_val h4; clear h4)
        all_goals go_ret
        all_goals exact H4.out
      · clear hcond
        go_wp2_with (go_at_call 10; refine HBK.out.mono ?_; intro e w4 h4; have H4 := hidden h4; obtain ⟨x, rfl⟩ := twoAs_val h4; clear h4)
        all_goals go_ret
        all_goals exact H4.out
end Go.Proofs.Ytcbgjkedmboifab
