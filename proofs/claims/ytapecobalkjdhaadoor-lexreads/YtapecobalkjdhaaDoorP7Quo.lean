/-
  Layer 7, the program's Text: a token's text. Conditions: a text of 100000 bytes at most; the table of powers of ten reads as its initialiser lays it.
-/
import Derived.Test.YtapecobalkjdhaaDoorP7Wr
import Derived.Test.YtapecobalkjdhaaDoorP7All
import Derived.Deep.AppendSrc
import Derived.Deep.Upon
import Derived.Lib.AppendIntMem
namespace Go.Proofs.YtapecobalkjdhaaDoor
open Go.ChangeShapes Go.WideShapes Go.ChangeAt Go.RowKit Go.Deep
set_option linter.unusedVariables false
set_option maxHeartbeats 1000000

theorem setCells_row {b : Nat} {t : TypeId} : ∀ (vs : List Value) (o : Nat) (w : World) (cur : Array Value), w.heap[b]? = some (.cells cur t (0, 0)) → o + vs.length ≤ cur.size → ∃ cur', (w.setCells b o vs).heap[b]? = some (.cells cur' t (0, 0)) ∧ cur'.size = cur.size ∧ cur'.toList.take (o + vs.length) = cur.toList.take o ++ vs
  | [], o, w, cur, h, _ => ⟨cur, h, rfl, by simp⟩
  | v :: vs, o, w, cur, h, hl => by
    have h1 : (w.setCell ⟨b, o, none⟩ v).heap[b]? = some (.cells (cur.setIfInBounds o v) t (0, 0)) := by simp [World.setCell, Array.getElem?_modify, h]
    simp only [List.length_cons] at hl
    obtain ⟨cur', e1, e2, e3⟩ := setCells_row vs (o + 1) _ _ h1 (by simp; omega)
    refine ⟨cur', e1, by simpa using e2, ?_⟩
    rw [show o + (v :: vs).length = o + 1 + vs.length by simp; omega, e3, Array.toList_setIfInBounds, List.take_add_one, List.take_set_of_le (Nat.le_refl _), List.getElem?_set_self (by rw [Array.length_toList]; omega)]
    simp
theorem only_setCells {S : Nat → Prop} {b : Nat} {w : World} (hb : w.heap.size ≤ b ∨ S b) : ∀ (vs : List Value) (o : Nat) (w' : World), Only S w w' → Only S w (w'.setCells b o vs)
  | [], o, w', h => h
  | v :: vs, o, w', h => only_setCells hb vs (o + 1) _ (h.setCell (a := ⟨b, o, none⟩) hb v)
theorem run_append_str {w : World} {B g cap : Nat} {l : List UInt8} (ty : TypeId) (h : BY w B (.slice (some ⟨g, 0, none⟩) l.length cap) l) (hB : B ≤ w.heap.size) (s : ByteArray) (hl : l.length + s.size < 1000000) :
    ∃ g' cap' w', Sem.run Tryd.prog (Builtin.append_ #[59, 9] ty #[.slice (some ⟨g, 0, none⟩) l.length cap, .string s]) w = .ok (.slice (some ⟨g', 0, none⟩) (l.length + s.size) cap') w' ∧ BY w' B (.slice (some ⟨g', 0, none⟩) (l.length + s.size) cap') (l ++ s.data.toList) ∧ w.grownBy w' (some g) := by
  obtain ⟨i0, hi, hz0, hz1, hz2⟩ := info_parts infoU8
  have hlen : (l ++ s.data.toList).length = l.length + s.size := by rw [List.length_append]; rfl
  have hmap : byteCells s = s.data.toList.map u8v := rfl
  have hsrc := Src.ofString (P := Tryd.prog) w Tryd.underlying9 s
  obtain ⟨h1, h2⟩ := h
  rcases h2 with ⟨e, _⟩ | ⟨g0, cap0, cur, e, hg0, hg, hn, hm, hs, ht⟩
  · cases e
  simp only [Value.slice.injEq, Option.some.injEq, Addr.mk.injEq, and_true, true_and] at e
  obtain ⟨rfl, rfl⟩ := e
  rw [Nat.mul_one] at ht hs
  by_cases hroom : l.length + s.size ≤ cap
  · have hnl : (byteCells s).length = s.size := byteCells_length s
    have hc : ∀ j, j < (byteCells s).length → (w.cell? ⟨g, 0 + l.length * i0.size + j, none⟩).isSome = true := by
      intro j hj
      rw [hz1, hnl] at *
      simp [World.cell?, hg]
      omega
    have hf : ∀ j, j < (byteCells s).length → w.frozen? ⟨g, 0 + l.length * i0.size + j, none⟩ = false := by
      intro j hj
      simp [World.frozen?, hg]
    have hrun := run_append_room_src (P := Tryd.prog) w 59 9 ty 5 i0 Tryd.underlying59 hi g 0 l.length cap (.string s) s.size (byteCells s) (by rw [hz1]; exact hsrc) hroom hc hf
    obtain ⟨cur', k1, k2, k3⟩ := setCells_row (byteCells s) (0 + l.length * i0.size) w cur hg (by rw [hz1, hnl]; omega)
    refine ⟨g, cap, _, hrun, ⟨by rw [List.length_map, hlen, Nat.mul_one], Or.inr ⟨g, cap, cur', by rw [hlen], hg0, k1, by rw [hlen]; exact hroom, hm, by rw [k2, hs, Nat.mul_one], ?_⟩⟩, ?_⟩
    · rw [hz1, hnl] at k3
      rw [hlen, Nat.mul_one, show l.length + s.size = 0 + l.length * 1 + s.size by omega, k3, show 0 + l.length * 1 = l.length by omega, ht, List.map_append]
      rfl
    · have ho := only_setCells (S := fun k => k = g) (b := g) (Or.inr rfl) (byteCells s) (0 + l.length * i0.size) w (Only.refl _ w)
      exact ⟨ho.os, ho.tape, ho.output, ho.size, fun k hk hne => ho.block k hk (fun c => hne (by rw [c]))⟩
  · have holds : ∀ j u, (l.map u8v)[j]? = some u → w.drew.cell? ((Addr.mk g 0 none).add j) = some u := by
      intro j u hu
      have hj : j < l.length := by have := (List.getElem?_eq_some_iff.1 hu).1; simpa using this
      have e : (Addr.mk g 0 none).add j = ⟨g, j, none⟩ := by
        unfold Addr.add
        split
        · rename_i h; rw [h]
        · simp
      have h9 : (cur.toList.take l.length)[j]? = some u := by rw [ht]; exact hu
      rw [List.getElem?_take, if_pos hj] at h9
      have h8 : cur[j]? = some u := by simpa using h9
      have hg2 : w.drew.heap[g]? = some (.cells cur 5 (0, 0)) := hg
      rw [e]
      simp [World.cell?, hg2, h8]
    have hold : (Builtin.firstCells i0.size l.length (.slice (some ⟨g, 0, none⟩) l.length cap)).run Tryd.prog w.drew = .ok (l.map u8v).toArray w.drew := run_firstCells_some w.drew i0.size l.length ⟨g, 0, none⟩ l.length cap (l.map u8v) (by rw [hz1]; simp) holds
    have hge := grownCap_ge w (l.length + s.size) cap 5
    have hle := grownCap_le_maxLen w (l.length + s.size) cap 5 (by unfold maxLen; omega)
    have hrun := run_append_grow_src (P := Tryd.prog) w 59 9 ty 5 i0 (.int .u8 0) Tryd.underlying59 hi hz0 (some ⟨g, 0, none⟩) l.length cap (l.map u8v) hold (.string s) s.size (byteCells s) (by rw [hz1]; exact hsrc) (by omega) (by omega) (by have := nextslicecap_le (need := l.length + s.size) (old := cap) (by omega); rw [hz2]; omega)
    refine ⟨_, _, _, hrun, ⟨by rw [List.length_map, hlen, Nat.mul_one], Or.inr ⟨w.heap.size, _, _, by rw [hlen], hB, blk_alloc_new _ _, by rw [hlen]; exact hge, hle, ?_, ?_⟩⟩, ?_⟩
    · simp only [Array.size_append, List.size_toArray, List.length_append, List.length_map, byteCells_length, size_zeroCells]
      show l.length + s.size + (grownCap w (l.length + s.size) cap 5 - (l.length + s.size)) * 1 = _
      omega
    · rw [hlen, Nat.mul_one]
      simp only [Array.toList_append]
      rw [List.take_left' (by rw [List.length_append, List.length_map, byteCells_length]), List.map_append]
      rfl
    · exact ⟨rfl, rfl, rfl, by simp, fun k hk _ => blk_alloc_lt w.drew _ k hk⟩
theorem append_str {w : World} {ops : Array Oper} {rest : List Oper} {o : Oper} {a : Act} {Q : Exit → Act → World → Prop} (hgd : o.guard = none) (s x : Operand)
    (ho : o.op = .call { callee := .builtin .append, args := #[s, x], argTypes := #[59, 9] }) (B g cap : Nat) (l : List UInt8) (hs : a.eval s = .slice (some ⟨g, 0, none⟩) l.length cap) (hown : BY w B (.slice (some ⟨g, 0, none⟩) l.length cap) l)
    (z : ByteArray) (hx : a.eval x = .string z) (hn : l.length + z.size < 1000000) (hB : B ≤ w.heap.size)
    (h : ∀ g' cap' w', BY w' B (.slice (some ⟨g', 0, none⟩) (l.length + z.size) cap') (l ++ z.data.toList) → w.grownBy w' (some g) → wpList Tryd.prog ops Q rest (a.put o.dst (.slice (some ⟨g', 0, none⟩) (l.length + z.size) cap')) w') : wpList Tryd.prog ops Q (o :: rest) a w := by
  refine wpList_plain hgd fun K hK => ?_
  obtain ⟨g', cap', w', hr, h2, h3⟩ := run_append_str o.type hown hB z hn
  unfold Oper.wp execOp
  simp only [ho, resolve, invoke, builtin, Sem.run_bind, Sem.run_pure, Result.andThen_ok, List.map_toArray, List.map_cons, List.map_nil, hs, hx, hr]
  exact hK _ _ (h g' cap' w' h2 h3)
theorem own_keepB {w w' : World} {B size n : Nat} {e : TypeId} {v : Value} {xs : List Value} (h : w.ownsRow B e size v n xs) (k : Below w.heap.size w w') : w'.ownsRow B e size v n xs := by
  obtain ⟨h1, h2⟩ := h
  refine ⟨h1, h2.imp id ?_⟩
  rintro ⟨g, cap, cur, e1, e2, e3, e4⟩
  exact ⟨g, cap, cur, e1, e2, (k.block g (lt_of_some e3)).trans e3, e4⟩
theorem esc_len (c : UInt8) : (escB c).length ≤ 4 := by
  unfold escB
  split
  · decide
  · split
    · decide
    · split
      · decide
      · split
        · decide
        · split <;> simp
theorem escT_len (x : List UInt8) : (escT x).length ≤ 4 * x.length := by
  unfold escT
  induction x with
  | nil => simp
  | cons c x ih =>
    rw [List.flatMap_cons, List.length_append, List.length_cons]
    have := esc_len c
    omega
theorem escT_snoc (x : List UInt8) (c : UInt8) : escT (x ++ [c]) = escT x ++ escB c := by
  unfold escT
  rw [List.flatMap_append]
  simp
/-- How a text stands while it is written. -/
def InQ (s : ByteArray) (w : World) (v iv : Value) (wr : World) : Prop := ∃ k g cap : Nat, k ≤ s.size ∧ iv = .int .i64 (k : Int) ∧ v = .slice (some ⟨g, 0, none⟩) (34 :: escT (s.data.toList.take k)).length cap ∧ BY wr w.heap.size v (34 :: escT (s.data.toList.take k)) ∧ Below w.heap.size w wr
set_option maxRecDepth 20000 in
theorem quoted_any (s : ByteArray) (w : World) (hs : s.size ≤ 100000) : Calls Tryd.prog 20 #[.string s] w fun e w' => e = .returned (.string ⟨(34 :: escT s.data.toList ++ [34]).toArray⟩) ∧ Below w.heap.size w w' := by
  go_enter Tryd.func20, Tryd.ntmps20
  go_wp2_with fail
  go_loopw [3, 8] (fun v iv wr => InQ s w v iv wr) (fun v iv wr => (s.size - intOf iv).toNat)
  case atStart =>
    refine ⟨0, w.heap.size, 1, by omega, rfl, rfl, ⟨rfl, Or.inr ⟨w.heap.size, 1, #[.int .u8 34], rfl, Nat.le_refl _, blk_alloc_new _ _, by simp [escT], by decide, rfl, rfl⟩⟩, (Below.refl _ _).alloc (Nat.le_refl _) _⟩
  case round =>
    obtain ⟨k, g, cap, k1, rfl, hv, k4, k5⟩ := hrel
    subst hv
    have HB := hidden k5
    have hsz := k5.size
    have hge := (own_ge k4 g rfl)
    obtain ⟨l, hl⟩ : ∃ l, 34 :: escT (s.data.toList.take k) = l := ⟨_, rfl⟩
    have hll : l.length ≤ 1 + 4 * k := by
      rw [← hl, List.length_cons]
      have := escT_len (s.data.toList.take k)
      rw [List.length_take] at this
      omega
    rw [hl] at k4
    rw [hl]
    have HL := hidden hl
    have HY := hidden k4
    clear k4 k5 hl
    by_cases hlt : k < s.size
    · have z1 : (k : Int) < (s.size : Int) := by omega
      have HT : Hid (l ++ escB s[k] = 34 :: escT (s.data.toList.take (k + 1))) := by
        show _ = _
        rw [← HL.out, List.take_succ_eq_append_getElem (by simpa using hlt), escT_snoc]
        rfl
      have hel := esc_len s[k]
      obtain ⟨z, hz⟩ : ∃ z : ByteArray, ⟨(escB s[k]).toArray⟩ = z := ⟨_, rfl⟩
      have hzs : z.size ≤ 4 := by rw [← hz]; exact hel
      have hzd : Hid (z.data.toList = escB s[k]) := by show _ = _; rw [← hz]
      have HW := hidden (fun w => written_any s[k] w)
      rw [hz] at HW
      clear HL hel hz
      go_wp2_with (first
        | (go_at_call 32; refine (HW.out _).mono ?_; rintro e w5 ⟨rfl, hb⟩; have Y5 := hidden (own_keepB HY.out hb); have B5 := hidden (HB.out.trans (hb.mono HB.out.size)); have hsz5 := B5.out.size; clear hb)
        | (at_builtin; refine append_str rfl (.tmp 11) (.tmp 15) rfl w.heap.size g cap l rfl Y5.out z rfl (by omega) (by omega) ?_; intro g6 c6 w6 hr6 gr6; have Y6 := hidden hr6; have B6 := hidden (Below.grown B5.out gr6 hsz5 (fun q hq => by have : g = q := (by simpa using hq); omega)); clear hr6 gr6))
      go_roundw
      case rel =>
        refine ⟨k + 1, g6, c6, by omega, by go_num, ?_, ?_, B6.out⟩
        · rw [← HT.out, List.length_append, ← hzd.out]; rfl
        · have := Y6.out
          rw [hzd.out] at this
          rw [← HT.out]
          exact this
      case measure => simp [intOf]; omega
    · have z1 : ¬ (k : Int) < (s.size : Int) := by omega
      have HT : Hid (l ++ [34] = 34 :: (escT s.data.toList ++ [34])) := by
        show _ = _
        rw [← HL.out, List.take_of_length_le (by simp; omega)]
        rfl
      clear HL
      go_wp2_with (at_builtin; refine append_u8 rfl (.tmp 18) (.tmp 19) rfl w.heap.size (.slice (some ⟨g, 0, none⟩) l.length cap) l rfl (World.ownsRow.alloc HY.out _) wr.heap.size 1 34 rfl (byte_new _ _ _) (by omega) (by rw [nblk_alloc]; omega) ?_; intro g6 c6 w6 hr6 gr6; have Y6 := hr6.string; have B6 := hidden (HB.out.trans (below_more gr6 hsz (fun q hq => own_ge HY.out q hq))); clear hr6 gr6)
      go_ret
      exact ⟨by rw [← HT.out]; rfl, B6.out⟩
theorem tab_below {w w' : World} (h : Lib.TabIs Tryd.prog w "internal/strconv.uint64pow10" .u64 Lib.pow10Tab) (b : Below w.heap.size w w') : Lib.TabIs Tryd.prog w' "internal/strconv.uint64pow10" .u64 Lib.pow10Tab := Lib.tabBelow_of_tabIs h w' b
theorem tab_alloc {w : World} (h : Lib.TabIs Tryd.prog w "internal/strconv.uint64pow10" .u64 Lib.pow10Tab) (o : Obj) : Lib.TabIs Tryd.prog (w.alloc o) "internal/strconv.uint64pow10" .u64 Lib.pow10Tab := tab_below h ((Below.refl _ _).alloc (Nat.le_refl _) o)
/-- What a token's text is. -/
theorem textP_any (k p n : Int) (s : ByteArray) (w : World) (hs : s.size ≤ 100000) (h0 : -9223372036854775808 ≤ n) (h1 : n ≤ 9223372036854775807) (htab : Lib.TabIs Tryd.prog w "internal/strconv.uint64pow10" .u64 Lib.pow10Tab) :
    Calls Tryd.prog 12 #[.agg #[.int .i64 k, .int .i64 p, .int .i64 n, .string s]] w fun e w' => e = .returned (.string ⟨(textT Lib.itoa ⟨k, s.data.toList, n⟩).toArray⟩) ∧ Below w.heap.size w w' := by
  unfold textT
  simp only
  by_cases c0 : k = 0
  · subst c0
    go_enter Tryd.func12, Tryd.ntmps12
    go_wp2_with fail
    go_ret
    exact ⟨rfl, (Below.refl _ _).alloc (Nat.le_refl _) _⟩
  by_cases c1 : k = 1
  · subst c1
    have HT := hidden htab
    clear htab c0
    go_enter Tryd.func12, Tryd.ntmps12
    go_wp2_with (go_at_call 19; refine (Tryd.strconv_FormatInt_10 n h0 h1 _ (tab_alloc HT.out _)).mono ?_; rintro e w1 ⟨rfl, q, os, rfl⟩)
    go_ret
    exact ⟨rfl, ((Below.refl _ _).alloc (Nat.le_refl _) _).trans ((Lib.below_grow _ _ (Nat.le_refl _) q os).mono (by rw [nblk_alloc]; omega))⟩
  rw [if_neg c1, if_neg c0]
  have g0 : (k == 0) = false := beq_eq_false_iff_ne.2 c0
  have g1 : (k == 1) = false := beq_eq_false_iff_ne.2 c1
  by_cases c2 : k = 2
  · subst c2
    have HQ := hidden (fun w => quoted_any s w hs)
    clear g0 g1 c0 c1 htab
    go_enter Tryd.func12, Tryd.ntmps12
    go_wp2_with (go_at_call 20; refine (HQ.out _).mono ?_; rintro e w1 ⟨rfl, hb⟩; have B1 := hidden (((Below.refl _ w).alloc (Nat.le_refl _) (.cells #[.int .i64 2, .int .i64 p, .int .i64 n, .string s] 31)).trans (hb.mono (by rw [nblk_alloc]; omega))); clear hb)
    go_ret
    exact ⟨rfl, B1.out⟩
  · rw [if_neg c2]
    have g2 : (k == 2) = false := beq_eq_false_iff_ne.2 c2
    clear c0 c1 c2 htab
    go_enter Tryd.func12, Tryd.ntmps12
    go_wp2_with fail
    go_ret
    exact ⟨rfl, (Below.refl _ _).alloc (Nat.le_refl _) _⟩
end Go.Proofs.YtapecobalkjdhaaDoor
