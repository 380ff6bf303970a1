/-
  Layer 6: what the statements' own lay makes of a Value. Condition: the layer and the Value lie in memory, apart from each other.
-/
import Derived.Test.YtcbgjkedmboifabL6Block
import Derived.Test.YtcbgjkedmboifabV6Open
import Derived.Test.YtcbgjkedmboifabRefNum
import Derived.BigQuiet
namespace Go.Proofs.Ytcbgjkedmboifab
open Go.ChangeShapes Go.WideShapes Go.ChangeAt Go.RowKit Go.Deep
set_option linter.unusedVariables false
set_option maxHeartbeats 1000000

variable {w w' : World} {lb : Nat} {p : Pl} {rb : Nat} {s : St} {r : RS} {had : List Int} {left : Int} {O : Nat → Prop}
theorem wrapU_rng (n : Int) : R64 (IntKind.u64.wrap n) := by rw [IntKind.wrap_u64]; unfold R64; omega
/-- No block but texts has more than 40 fields. -/
def P40 (r : RS) : Prop := ∀ b, b ∈ r.L → b.tag ≠ 202 → b.F.length ≤ 40
/-- A Value's four cells. -/
def valV (k n : Int) (b : ByteArray) (al : Option Addr) (len cap : Nat) : Array Value := #[.int .i64 k, .int .i64 n, .string b, .slice al len cap]
/-- Behind the first steps of lay: the Value's own copy lies there, and one fewer may be laid. -/
structure LayIn (w w2 : World) (lb : Nat) (p : Pl) (rb : Nat) (s : St) (r : RS) (had : List Int) (left : Int) (O : Nat → Prop) (vs : Array Value) : Prop where
  laid : LaidIn w2 lb p rb s r had (left - 1) O
  grows : Grows O O w w2
  box : w2.heap[w.heap.size]? = some (.cells vs 24 (0, 0))
  off : ¬ O w.heap.size
theorem lay_in (h : LaidIn w lb p rb s r had left O) (vs : Array Value) : LayIn w ((w.setCell ⟨lb, 3, none⟩ (.int .i64 (left - 1))).alloc (.cells vs 24)) lb p rb s r had left O vs := by
  obtain ⟨h1, h2⟩ := laid_left h (left - 1)
  have hsz : (w.setCell ⟨lb, 3, none⟩ (.int .i64 (left - 1))).heap.size = w.heap.size := nblk_setCell _ _ _
  have hb : Below (w.setCell ⟨lb, 3, none⟩ (.int .i64 (left - 1))).heap.size (w.setCell ⟨lb, 3, none⟩ (.int .i64 (left - 1))) ((w.setCell ⟨lb, 3, none⟩ (.int .i64 (left - 1))).alloc (.cells vs 24)) := (Below.refl _ _).alloc (Nat.le_refl _) _
  refine ⟨h1.under hb, h2.trans (Grows.of_below O hb), by rw [← hsz]; exact blk_alloc_new _ _, fun c => ?_⟩
  obtain ⟨_, _, _, _, _, _, _, _, _, _, _, h8⟩ := h
  exact Nat.lt_irrefl _ (h8 _ c)
theorem LayIn.cells {w2 : World} {k n : Int} {b : ByteArray} {al : Option Addr} {len cap : Nat} (h : LayIn w w2 lb p rb s r had left O (valV k n b al len cap)) : w2.cell? ⟨w.heap.size, 0, none⟩ = some (.int .i64 k) ∧ w2.cell? ⟨w.heap.size, 1, none⟩ = some (.int .i64 n) ∧ w2.cell? ⟨w.heap.size, 2, none⟩ = some (.string b) ∧ w2.cell? ⟨w.heap.size, 3, none⟩ = some (.slice al len cap) := by
  have := h.box
  unfold valV at this
  simp [World.cell?, this]
set_option maxRecDepth 20000 in
theorem lay_stop {k n : Int} {b : ByteArray} {al : Option Addr} {len cap : Nat} (w : World) (h : LaidIn w lb p rb s r had left O) (hl : left ≤ 0) (hl2 : -1000000 ≤ left) :
    Calls Try.prog 8 #[.pointer (some ⟨lb, 0, none⟩), .agg #[.int .i64 k, .int .i64 n, .string b, .slice al len cap]] w fun e w' => e = .returned (.int .u64 1) ∧ LaidIn w' lb p rb s r had (left - 1) O ∧ Grows O O w w' := by
  have HI := hidden (lay_in h (valV k n b al len cap))
  obtain ⟨c0, c1, c3, cf⟩ := h.cells
  have hlb : lb < w.heap.size := by obtain ⟨_, _, _, _, h1, _⟩ := h; exact lt_of_some h1
  clear h
  go_enter Try.func8, Try.ntmps8
  go_upto_region 2 with fail
  unfold valV at HI
  generalize (w.setCell ⟨lb, 3, none⟩ (.int .i64 (left - 1))).alloc (.cells #[.int .i64 k, .int .i64 n, .string b, .slice al len cap] 24) = w2 at *
  clear c0 c1 c3 cf
  obtain ⟨d0, d1, d2, d3⟩ := LayIn.cells HI.out
  obtain ⟨e0, e1, e3, ef⟩ := HI.out.laid.cells
  have hneg : left - 1 < 0 := by omega
  go_wp2_with fail
  all_goals go_ret
  all_goals exact ⟨rfl, HI.out.laid, HI.out.grows⟩
set_option maxRecDepth 20000 in
theorem lay_num {k n : Int} {b : ByteArray} {al : Option Addr} {len cap : Nat} (w : World) (h : LaidIn w lb p rb s r had left O) (hl : 0 < left) (hl2 : left ≤ 1000000) (hk : k = 0) (n0 : -9223372036854775808 ≤ n) (n1 : n ≤ 9223372036854775807) :
    Calls Try.prog 8 #[.pointer (some ⟨lb, 0, none⟩), .agg #[.int .i64 k, .int .i64 n, .string b, .slice al len cap]] w fun e w' => e = .returned (.int .u64 (intW n)) ∧ LaidIn w' lb p rb s r had (left - 1) O ∧ Grows O O w w' := by
  subst hk
  have HI := hidden (lay_in h (valV 0 n b al len cap))
  obtain ⟨c0, c1, c3, cf⟩ := h.cells
  have hlb : lb < w.heap.size := by obtain ⟨_, _, _, _, h1, _⟩ := h; exact lt_of_some h1
  clear h
  go_enter Try.func8, Try.ntmps8
  go_upto_region 2 with fail
  unfold valV at HI
  generalize (w.setCell ⟨lb, 3, none⟩ (.int .i64 (left - 1))).alloc (.cells #[.int .i64 0, .int .i64 n, .string b, .slice al len cap] 24) = w2 at *
  clear c0 c1 c3 cf
  obtain ⟨d0, d1, d2, d3⟩ := LayIn.cells HI.out
  obtain ⟨e0, e1, e3, ef⟩ := HI.out.laid.cells
  have hpos : ¬ left - 1 < 0 := by omega
  go_wp2_with (go_at_call 13; refine (rint_any _ _ n0 n1).mono ?_; rintro e w' ⟨rfl, hw'⟩; rw [hw']; clear hw' w')
  all_goals go_ret
  all_goals exact ⟨rfl, HI.out.laid, HI.out.grows⟩
set_option maxRecDepth 20000 in
theorem lay_raw {k n : Int} {b : ByteArray} {al : Option Addr} {len cap : Nat} (w : World) (h : LaidIn w lb p rb s r had left O) (hl : 0 < left) (hl2 : left ≤ 1000000) (hk : k ≠ 0 ∧ k ≠ 1 ∧ k ≠ 2 ∧ k ≠ 3) (n0 : -9223372036854775808 ≤ n) (n1 : n ≤ 9223372036854775807) :
    Calls Try.prog 8 #[.pointer (some ⟨lb, 0, none⟩), .agg #[.int .i64 k, .int .i64 n, .string b, .slice al len cap]] w fun e w' => ∃ x, e = .returned (.int .u64 x) ∧ R64 x ∧ LaidIn w' lb p rb s r had (left - 1) O ∧ Grows O O w w' := by
  have HI := hidden (lay_in h (valV k n b al len cap))
  obtain ⟨c0, c1, c3, cf⟩ := h.cells
  have hlb : lb < w.heap.size := by obtain ⟨_, _, _, _, h1, _⟩ := h; exact lt_of_some h1
  clear h
  go_enter Try.func8, Try.ntmps8
  go_upto_region 2 with fail
  unfold valV at HI
  generalize (w.setCell ⟨lb, 3, none⟩ (.int .i64 (left - 1))).alloc (.cells #[.int .i64 k, .int .i64 n, .string b, .slice al len cap] 24) = w2 at *
  clear c0 c1 c3 cf
  obtain ⟨d0, d1, d2, d3⟩ := LayIn.cells HI.out
  obtain ⟨e0, e1, e3, ef⟩ := HI.out.laid.cells
  have hpos : ¬ left - 1 < 0 := by omega
  have k0 : (k == 0) = false := beq_eq_false_iff_ne.2 hk.1
  have k1 : (k == 1) = false := beq_eq_false_iff_ne.2 hk.2.1
  have k2 : (k == 2) = false := beq_eq_false_iff_ne.2 hk.2.2.1
  have k3 : (k == 3) = false := beq_eq_false_iff_ne.2 hk.2.2.2
  clear hk
  go_wp2_with fail
  all_goals go_ret
  all_goals exact ⟨_, rfl, wrapU_rng _, HI.out.laid, HI.out.grows⟩
set_option maxRecDepth 20000 in
theorem lay_had {k n : Int} {b : ByteArray} {al : Option Addr} {len cap : Nat} (w : World) (h : LaidIn w lb p rb s r had left O) (hl : 0 < left) (hl2 : left ≤ 1000000) (hk : k = 3) (hh : had.length ≤ 100000) (n0 : -9223372036854775808 ≤ n) (n1 : n ≤ 9223372036854775807) :
    Calls Try.prog 8 #[.pointer (some ⟨lb, 0, none⟩), .agg #[.int .i64 k, .int .i64 n, .string b, .slice al len cap]] w fun e w' => ∃ x, e = .returned (.int .u64 x) ∧ R64 x ∧ LaidIn w' lb p rb s r had (left - 1) O ∧ Grows O O w w' := by
  subst hk
  have HI := hidden (lay_in h (valV 3 n b al len cap))
  obtain ⟨c0, c1, c3, cf⟩ := h.cells
  have hlb : lb < w.heap.size := by obtain ⟨_, _, _, _, h1, _⟩ := h; exact lt_of_some h1
  clear h
  go_enter Try.func8, Try.ntmps8
  go_upto_region 2 with fail
  unfold valV at HI
  generalize (w.setCell ⟨lb, 3, none⟩ (.int .i64 (left - 1))).alloc (.cells #[.int .i64 3, .int .i64 n, .string b, .slice al len cap] 24) = w2 at *
  clear c0 c1 c3 cf
  obtain ⟨d0, d1, d2, d3⟩ := LayIn.cells HI.out
  obtain ⟨e0, e1, e3, ef⟩ := HI.out.laid.cells
  have hpos : ¬ left - 1 < 0 := by omega
  have HL2 := HI.out.laid
  obtain ⟨a, cap', V, hv, h1, h2, h3, h4, _⟩ := HL2
  have e2 : w2.cell? ⟨lb, 2, none⟩ = some hv := by simp [World.cell?, h1]
  obtain ⟨ao, c, rfl, _, _⟩ := own_sl h3
  by_cases hz : had.length = 0
  · have hz2 : ¬ (0 : Int) < ((had.length : Nat) : Int) := by omega
    clear h1 h2 h3 h4 hz
    go_wp2_with fail
    all_goals go_ret
    all_goals exact ⟨1, rfl, by unfold R64; omega, HI.out.laid, HI.out.grows⟩
  · have hz2 : (0 : Int) < ((had.length : Nat) : Int) := by omega
    obtain ⟨g, c', e, _, _⟩ := h3.form (by omega)
    simp only [Value.slice.injEq] at e
    obtain ⟨rfl, _, rfl⟩ := e
    have HC : Hid (∀ j, j < had.length → w2.cell? ⟨g, j, none⟩ = some (.int .u64 (had.getD j 0)) ∧ R64 (had.getD j 0)) := fun j hj => by
      refine ⟨?_, ?_⟩
      · rw [h3.cellAt j (by omega), List.getElem?_map, List.getElem?_eq_getElem hj, List.getD_eq_getElem?_getD, List.getElem?_eq_getElem hj]; rfl
      · refine h4 _ ?_
        rw [List.getD_eq_getElem?_getD, List.getElem?_eq_getElem hj]; exact List.getElem_mem _
    obtain ⟨L, hL⟩ : ∃ L, had.length = L := ⟨_, rfl⟩
    rw [hL] at e2 hz2 hz hh HC
    obtain ⟨u0, u1⟩ := wrapU_rng n
    obtain ⟨U, hU⟩ : ∃ U, IntKind.u64.wrap n = U := ⟨_, rfl⟩
    rw [hU] at u0 u1
    have m0 : 0 ≤ U % (L : Int) := Int.emod_nonneg _ (by omega)
    have m1 : U % (L : Int) < (L : Int) := Int.emod_lt_of_pos _ (by omega)
    obtain ⟨z, hzz⟩ : ∃ z : Nat, U % (L : Int) = (z : Int) := ⟨(U % (L : Int)).toNat, by omega⟩
    obtain ⟨kz, rz⟩ := HC.out z (by omega)
    have HRZ := hidden rz
    rw [hzz] at m0 m1
    clear h1 h2 h3 h4 rz
    go_wp2_with fail
    have eL : IntKind.u64.wrap (L : Int) = L := IntWalk.u64_in _ ⟨by omega, by omega⟩
    have ez : IntKind.i64.wrap (z : Int) = z := wrapId _ (by omega) (by omega)
    have ezt : U.tmod (L : Int) = z := by rw [Int.tmod_eq_emod_of_nonneg u0]; exact hzz
    go_quiet (fail)
    go_wp2_with fail
    all_goals go_ret
    all_goals exact ⟨_, rfl, HRZ.out, HI.out.laid.under (below_drews _ _), HI.out.grows.trans (Grows.of_below O (below_drews _ _))⟩
theorem BlockAs.from {w3 : World} {t : Int} {F : List Int} {e : Ending} (g : Grows O O w w3) (h : BlockAs w3 lb p rb s r had left O t F e w') : BlockAs w lb p rb s r had left O t F e w' := by
  rcases h with ⟨h1, h2, O', h3, h4⟩ | ⟨h1, h2, s', O', h3, h4⟩
  · exact Or.inl ⟨h1, h2, O', h3, g.trans h4⟩
  · exact Or.inr ⟨h1, h2, s', O', h3, g.trans h4⟩
theorem blockAs_val {t : Int} {F : List Int} {e : Ending} (h : BlockAs w lb p rb s r had left O t F e w') : ∃ x, e = .returned (.int .u64 x) := by
  rcases h with ⟨_, h2, _⟩ | ⟨_, h2, _⟩
  · exact ⟨_, h2⟩
  · exact ⟨_, h2⟩
/-- A text's first 100 bytes. -/
def txt6 (b : ByteArray) : List UInt8 := (bytesS b).take 100
theorem fields_rng (l : List UInt8) : ∀ i, i < (fieldsT l).length → R64 ((fieldsT l).getD i 0) := fun i hi => by
  rw [List.getD_eq_getElem?_getD, List.getElem?_eq_getElem hi]
  exact fieldsT_rng l _ (List.getElem_mem hi)
theorem blockT {c g : Nat} (l : List UInt8) (m : Nat) (w : World) (h : LaidIn w lb p rb s r had left O) (hm : m = (fieldsT l).length) (ho : Own w g m (fun i => (fieldsT l).getD i 0)) (hg : ¬ O g) (hl : l.length ≤ 100) (hhd : had.length ≤ 100000) :
    Calls Try.prog 10 #[.pointer (some ⟨lb, 0, none⟩), .int .i64 202, .slice (some ⟨g, 0, none⟩) m c] w fun e w' => BlockAs w lb p rb s r had left O 202 (fieldsT l) e w' := by
  subst hm
  refine block_any 202 w h ⟨fun i hi => ⟨⟨g, 0, none⟩, rfl, ho.lt, hg, ?_⟩, fields_rng l⟩ (by rw [fieldsT_len]; omega) hhd
  have e : (Addr.mk g 0 none).add i = ⟨g, i, none⟩ := by
    unfold Addr.add
    split
    · rename_i h; rw [h]
    · simp
  rw [e]
  exact ho.cell hi
set_option maxRecDepth 20000 in
theorem lay_txt {k n : Int} {b : ByteArray} {al : Option Addr} {len cap : Nat} (w : World) (h : LaidIn w lb p rb s r had left O) (hl : 0 < left) (hl2 : left ≤ 1000000) (hk : k = 1) (hb : b.size ≤ maxLen) (hhd : had.length ≤ 100000) :
    Calls Try.prog 8 #[.pointer (some ⟨lb, 0, none⟩), .agg #[.int .i64 k, .int .i64 n, .string b, .slice al len cap]] w fun e w' => BlockAs w lb p rb s r had (left - 1) O 202 (fieldsT (txt6 b)) e w' := by
  subst hk
  have HI := hidden (lay_in h (valV 1 n b al len cap))
  obtain ⟨c0, c1, c3, cf⟩ := h.cells
  have hlb : lb < w.heap.size := by obtain ⟨_, _, _, _, h1, _⟩ := h; exact lt_of_some h1
  clear h
  go_enter Try.func8, Try.ntmps8
  go_upto_region 2 with fail
  unfold valV at HI
  generalize (w.setCell ⟨lb, 3, none⟩ (.int .i64 (left - 1))).alloc (.cells #[.int .i64 1, .int .i64 n, .string b, .slice al len cap] 24) = w2 at *
  clear c0 c1 c3 cf
  obtain ⟨d0, d1, d2, d3⟩ := LayIn.cells HI.out
  obtain ⟨e0, e1, e3, ef⟩ := HI.out.laid.cells
  have hpos : ¬ left - 1 < 0 := by omega
  have HLT : Hid (∀ q, O q → q < w2.heap.size) := by
    obtain ⟨_, _, _, _, _, _, _, _, _, _, _, h8⟩ := HI.out.laid
    exact h8
  have hmx : b.size ≤ 9223372036854775807 := by unfold maxLen at hb; omega
  clear hb
  have HBK : Hid (∀ (t : ByteArray), t.size ≤ 100 → bytesS t = txt6 b → ∀ (g c : Nat) (w3 : World), Own w3 g (t.size / 8 + 1) (fun i => (fieldsT (bytesS t)).getD i 0) → w2.heap.size ≤ g → Below w2.heap.size w2 w3 → Calls Try.prog 10 #[.pointer (some ⟨lb, 0, none⟩), .int .i64 202, .slice (some ⟨g, 0, none⟩) (t.size / 8 + 1) c] w3 fun e w' => BlockAs w lb p rb s r had (left - 1) O 202 (fieldsT (txt6 b)) e w') := fun t ht et g c w3 ho hg hb3 => by
    have hlen : t.size / 8 + 1 = (fieldsT (txt6 b)).length := by rw [fieldsT_len, ← et, bytesS_len]
    refine (blockT (txt6 b) _ w3 (HI.out.laid.under hb3) hlen (by rw [← et]; exact ho) (fun c => by have := HLT.out g c; omega) (by rw [← et, bytesS_len]; exact ht) hhd).mono ?_
    intro e w' h
    exact h.from (HI.out.grows.trans (Grows.of_below O hb3))
  by_cases hc : b.size ≤ 100
  · have hc2 : ¬ (100 : Int) < (b.size : Int) := by omega
    have HT : Hid (bytesS b = txt6 b) := by show _ = _; unfold txt6; rw [List.take_of_length_le (by rw [bytesS_len]; exact hc)]
    go_wp2_with (first
      | (go_at_call 16; refine (rfields_any b _ (by omega)).mono ?_; rintro e w3 ⟨g, c, rfl, ho3, hg3, hb3⟩; have O3 := hidden ho3; have G3 := hidden hg3; have B3 := hidden hb3; clear ho3 hg3 hb3)
      | (go_at_call 10; refine (HBK.out b hc HT.out g c _ O3.out G3.out B3.out).mono ?_; intro e w4 h4; have H4 := hidden h4; obtain ⟨x, rfl⟩ := blockAs_val h4; clear h4))
    all_goals go_ret
    all_goals exact H4.out
  · have hc2 : (100 : Int) < (b.size : Int) := by omega
    obtain ⟨t, ht⟩ : ∃ t, b.extract 0 100 = t := ⟨_, rfl⟩
    have HT : Hid (bytesS t = txt6 b) := by show _ = _; rw [← ht]; unfold txt6 bytesS; rw [ByteArray.data_extract]; simp
    have hts : t.size ≤ 100 := by rw [← ht, ByteArray.size_extract]; omega
    go_wp2_with (first
      | (go_at_call 16; refine (rfields_any t _ (by omega)).mono ?_; rintro e w3 ⟨g, c, rfl, ho3, hg3, hb3⟩; have O3 := hidden ho3; have G3 := hidden hg3; have B3 := hidden hb3; clear ho3 hg3 hb3)
      | (go_at_call 10; refine (HBK.out t hts HT.out g c _ O3.out G3.out B3.out).mono ?_; intro e w4 h4; have H4 := hidden h4; obtain ⟨x, rfl⟩ := blockAs_val h4; clear h4))
    all_goals go_ret
    all_goals exact H4.out
end Go.Proofs.Ytcbgjkedmboifab
