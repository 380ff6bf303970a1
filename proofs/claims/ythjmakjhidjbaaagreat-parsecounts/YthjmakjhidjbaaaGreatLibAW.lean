/-
  Several small texts in one; each tells at its head what it proves, and on what condition.
-/
import Derived.Test.YthjmakjhidjbaaaGreatLibAV
import Derived.Tactics
import Derived.Tactics2
import Derived.Defers
import Derived.Recover
import Derived.Laws.Pointers
import Derived.Test.YthjmakjhidjbaaaGreatLibAR
import Derived.Test.YthjmakjhidjbaaaGreatP8V
import Derived.Test.YthjmakjhidjbaaaGreatLibAS
import Derived.Test.YthjmakjhidjbaaaGreatLibAD
import Derived.Deep.RegionHeld3
import Derived.Deep.LoopGhost
import Derived.Test.YthjmakjhidjbaaaGreatLibAB
import Derived.Test.YthjmakjhidjbaaaGreatLibAC

/-
 Layer 7, the program's reader: all tokens. Condition: the reader lies in memory.
-/
namespace Go.Proofs.YthjmakjhidjbaaaGreat
open Go.ChangeShapes Go.WideShapes Go.ChangeAt Go.RowKit Go.Deep
set_option linter.unusedVariables false
set_option maxHeartbeats 1000000

def flatT (L : List TV) : List Value := L.flatMap TV.cells
theorem flatT_len : ∀ L : List TV, (flatT L).length = L.length * 4
 | [] => rfl
 | t :: L => by
  show (t.cells ++ flatT L).length = _
  rw [List.length_append, flatT_len L, List.length_cons]
  show 4 + _ = _
  omega
theorem flatT_app (A B : List TV) : flatT (A ++ B) = flatT A ++ flatT B := List.flatMap_append
/-- Tokens in a row of the call's own, or none. -/
def TR (w : World) (B : Nat) (v : Value) (L : List TV) : Prop := w.ownsRow B 40 4 v L.length (flatT L)
/-- Tokens, each with its place. -/
def tvs (n : Nat) (ts : List (Tk × Nat)) : List TV := ts.map fun p => ⟨p.1.kind, ((n - p.2 : Nat) : Int), p.1.N, p.1.S⟩
def endV (n : Nat) : TV := ⟨0, n, 0, []⟩
theorem TR.nil (w : World) (B : Nat) : TR w B (.slice none 0 0) [] := ⟨rfl, Or.inl ⟨rfl, rfl⟩⟩
theorem TR.slice {w : World} {B : Nat} {v : Value} {L : List TV} (h : TR w B v L) : ∃ ao c, v = .slice ao L.length c := by
 rcases h.2 with ⟨rfl, e⟩ | ⟨g, cap, cur, rfl, _⟩
 ·rw [e]; exact ⟨none, 0, rfl⟩
 ·exact ⟨_, cap, rfl⟩
theorem infoT : (Tryz.prog.info? 40).map (fun i => (i.zero, i.size, i.bytes)) = some (some (.agg #[.int .i64 0, .int .i64 0, .int .i64 0, .string ⟨#[]⟩]), 4, 40) := by kernel_rfl
theorem append_tok {w : World} {ops : Array Oper} {rest : List Oper} {o : Oper} {a : Act} {Q : Exit → Act → World → Prop} (hgd : o.guard = none) (s x : Operand)
  (ho : o.op = .call { callee := .builtin .append, args := #[s, x], argTypes := #[35, 35] }) (B : Nat) (v : Value) (L : List TV) (hs : a.eval s = v) (hown : TR w B v L)
  (gx c : Nat) (t : TV) (fr : Nat × Nat) (hx : a.eval x = .slice (some ⟨gx, 0, none⟩) 1 c) (hu : w.heap[gx]? = some (.cells #[.int .i64 t.kind, .int .i64 t.pl, .int .i64 t.N, .string ⟨t.S.toArray⟩] 40 fr)) (hn : L.length < 1000000) (hB : B ≤ w.heap.size)
  (h : ∀ g cap w', TR w' B (.slice (some ⟨g, 0, none⟩) (L.length + 1) cap) (L ++ [t]) → w.grownBy w' v.ownBlock → wpList Tryz.prog ops Q rest (a.put o.dst (.slice (some ⟨g, 0, none⟩) (L.length + 1) cap)) w') : wpList Tryz.prog ops Q (o :: rest) a w := by
 obtain ⟨i0, hi, hz0, hz1, hz2⟩ := info_parts infoT
 refine wpList_append_lies w hgd s x 35 ho B 40 i0 _ 4 40 Tryz.underlying35 hi hz0 hz1 hz2 rfl (by decide) v L.length (flatT L) hs hown ⟨gx, 0, none⟩ 1 c t.cells hx rfl ?_ ?_ (by omega) (by unfold maxLen; omega) (by omega) hB _ rfl ?_
 ·intro j y hy
  exact World.news_of_block hu j y hy
 ·intro y hy
  simp [TV.cells] at hy
  rcases hy with rfl | rfl | rfl | rfl <;> rfl
 ·intro g cap w' q1 q2 _ _
  refine h g cap w' ?_ q2
  unfold TR
  rw [flatT_app, List.length_append]
  have : flatT [t] = t.cells := by simp [flatT]
  rw [this]
  exact q1
/-- What was read, ahead of what is still to be read. -/
def preL (acc : List (Tk × Nat)) (R : Except (Int × Nat) (List (Tk × Nat))) : Except (Int × Nat) (List (Tk × Nat)) := match R with | .ok ts => .ok (acc ++ ts) | .error e => .error e
theorem preL_nil (R : Except (Int × Nat) (List (Tk × Nat))) : preL [] R = R := by cases R <;> rfl
theorem preL_tok {acc : List (Tk × Nat)} {p : Tk × Nat} (R : Except (Int × Nat) (List (Tk × Nat))) : preL acc (match R with | .error e => .error e | .ok ts => .ok (p :: ts)) = preL (acc ++ [p]) R := by
 cases R with
 | error e => rfl
 | ok ts => simp [preL]
theorem tvs_more {n k : Nat} (hk : k ≤ n) (acc : List (Tk × Nat)) (t : Tk) : tvs n (acc ++ [(t, n - k)]) = tvs n acc ++ [⟨t.kind, k, t.N, t.S⟩] := by
 unfold tvs
 rw [List.map_append]
 simp only [List.map_cons, List.map_nil]
 rw [show n - (n - k) = k by omega]
theorem tvs_len (n : Nat) (ts : List (Tk × Nat)) : (tvs n ts).length = ts.length := List.length_map _
/-- What is so behind all. -/
def AllAs (R : Except (Int × Nat) (List (Tk × Nat))) (b : Nat) (s : ByteArray) (w : World) (e : Ending) (w' : World) : Prop :=
 match R with
 | .ok ts => ∃ v, e = .returned v ∧ TR w' w.heap.size v (tvs s.size ts ++ [endV s.size]) ∧ OnlyB b w w'
 | .error (e', k) => e = .panicked [faultP e' ((s.size - k : Nat) : Int)] ∧ OnlyB b w w'
/-- How it stands while tokens are read. -/
def InA (R : Except (Int × Nat) (List (Tk × Nat))) (b : Nat) (s : ByteArray) (w : World) (gk : Nat) (v : Value) (wr : World) : Prop :=
 ∃ (k f : Nat) (acc : List (Tk × Nat)), k ≤ s.size ∧ acc.length ≤ k ∧ gk = s.size + 1 - k ∧ preL acc (lexC docW (suf s k)) = R ∧ (∀ hj : k < s.size, blankB s[k] = false ∧ atB s k begC = false) ∧ TR wr w.heap.size v (tvs s.size acc) ∧ RD wr b s k f ∧ OnlyB b w wr
set_option maxRecDepth 20000 in
theorem all_as {w : World} {b : Nat} {s : ByteArray} {f : Nat} (h : RD w b s 0 f) (hs : s.size ≤ 900000) : Calls Tryz.prog 25 #[.pointer (some ⟨b, 0, none⟩)] w fun e w' => AllAs (lexC docW (suf s 0)) b s w e w' := by
 obtain ⟨R, hR⟩ : ∃ R, lexC docW (suf s 0) = R := ⟨_, rfl⟩
 rw [hR]
 have HR0 := hidden hR
 have H := hidden h
 have hs1 : s.size ≤ 1000000 := by omega
 have hbw := h.lt
 clear hR h
 go_enter Tryz.func25, Tryz.ntmps25
 go_wp2_with fail
 refine (pass_any H.out (by omega) hs1).mono ?_
 rintro e w5 (⟨j, f5, rfl, j1, j2, j3, j4, j5, j6⟩ | ⟨k, k1, rfl, k2, k3⟩)
 case inr =>
  refine And.intro rfl ?_
  rw [← HR0.out, k2]
  exact ⟨by rw [show s.size - (s.size - k) = k by omega], k3⟩
 have R5 := hidden j5
 have O5 := hidden j6
 have N5 := hidden j4
 have L5 : Hid (lexC docW (suf s j) = R) := by show _ = _; rw [← j3]; exact HR0.out
 clear j3 j4 j5 j6 HR0 H
 go_wp2_with fail
 go_loopg [3] (s.size + 1 - j) (fun gk v wr => InA R b s w gk v wr)
 case atStart => exact ⟨j, f5, [], j2, by simp, rfl, by rw [preL_nil]; exact L5.out, N5.out, TR.nil _ _, R5.out, O5.out⟩
 case round =>
  clear R5 O5 N5 L5
  obtain ⟨k, f6, acc, k1, k2, k3, k4, k5, k6, k7, k8⟩ := hrel
  obtain ⟨ao, cp, rfl⟩ := k6.slice
  obtain ⟨c0, c1, c2, hf⟩ := k7.cells
  have HL := hidden k4
  have HN := hidden k5
  have HT := hidden k6
  have HR := hidden k7
  have HO := hidden k8
  have HG := hidden k3
  clear k3 k4 k5 k6 k7 k8
  by_cases hlt : k < s.size
  ·have zz : (k : Int) < (s.size : Int) := by omega
   have e0 := suf_cons s hlt
   obtain ⟨b1, b2⟩ := HN.out hlt
   have b3 := at_opens k1 b2
   have hl2 := HL.out
   rw [e0] at b3
   have hl3 : lexC docW (suf s k) = (match tokAt docW (suf s k) with | .error e => .error (e, (suf s k).length) | .ok (t, r) => (match lexC docW r with | .error e => .error e | .ok ts => .ok ((t, (suf s k).length) :: ts))) := by
    have := lexC_tok docSigns b1 b3
    rw [← e0] at this
    exact this
   rw [hl3] at hl2
   have HK := hidden (fun (w0 : World) (h0 : RD w0 b s k f6) => token_as h0 hlt hs)
   have hlen : (tvs s.size acc).length < 1000000 := by rw [tvs_len]; omega
   cases ht : tokAt docW (suf s k) with
   | error e' =>
    rw [ht] at hl2 HK
    have HE : Hid (R = .error (e', s.size - k)) := by show _ = _; rw [← hl2, ← suf_len]; rfl
    clear hl2 hl3 b1 b2 b3 e0 ht HL HN
    go_wp2_with fail
    go_quiet (fail)
    have HR1 := hidden (HR.out.drewN nq)
    have HO1 := hidden (HO.out.drewN nq)
    clear c0 c1 c2 hf HR HO HT
    generalize wr.drewN nq = w1 at *
    go_wp2_with (go_at_call 36; refine (HK.out _ HR1.out).mono ?_; rintro e w7 ⟨rfl, ho⟩; have O7 := hidden (HO1.out.trans ho); clear ho)
    refine And.intro rfl ?_
    rw [HE.out]
    exact ⟨by rw [show s.size - (s.size - k) = k by omega], O7.out⟩
   | ok tr =>
    obtain ⟨t, r⟩ := tr
    rw [ht] at hl2 HK
    obtain ⟨r1, r2⟩ := suf_at (tok_suf ht) (by omega)
    have r3 := tok_len docSigns ht
    rw [suf_len] at r3
    have HL2 : Hid (preL (acc ++ [(t, s.size - k)]) (lexC docW (suf s (s.size - r.length))) = R) := by
     show _ = _
     rw [← hl2, ← suf_len, ← r1]
     exact (preL_tok _).symm
    have HV := hidden (tvs_more k1 acc t)
    clear hl2 hl3 b1 b2 b3 e0 ht HL HN r1
    go_wp2_with fail
    go_quiet (fail)
    have HR1 := hidden (HR.out.drewN nq)
    have HO1 := hidden (HO.out.drewN nq)
    have HT1 : Hid (TR (wr.drewN nq) w.heap.size (Value.slice ao (tvs s.size acc).length cp) (tvs s.size acc)) := HT.out
    clear c0 c1 c2 hf HR HO HT
    generalize wr.drewN nq = w1 at *
    go_wp2_with (first
     | (go_at_call 36; refine (HK.out _ HR1.out).mono ?_; rintro e w7 ⟨rfl, hr, ho⟩; have R7 := hidden hr; have T7 := hidden (own_only HT1.out ho hbw); have O7 := hidden (HO1.out.trans ho); have hsz := O7.out.size; clear hr ho)
     | (at_builtin; refine append_tok rfl (.tmp 18) (.tmp 21) rfl w.heap.size (.slice ao (tvs s.size acc).length cp) (tvs s.size acc) rfl (World.ownsRow.alloc T7.out _) w7.heap.size 1 ⟨t.kind, k, t.N, t.S⟩ (0, 0) rfl (blk_alloc_new _ _) hlen (by rw [nblk_alloc]; omega) ?_; intro g6 c6 w8 hr6 gr6; have T8 := hidden hr6; have R8 := hidden (rd_grown (R7.out.alloc _) gr6 (fun q hq => Nat.lt_of_lt_of_le hbw (own_ge T7.out q hq))); have O8 := hidden (only_grown (O7.out.alloc _) gr6 (own_ge T7.out)); clear hr6 gr6))
    refine (pass_any R8.out (by omega) hs1).mono ?_
    rintro e w9 (⟨j', f9, rfl, m1, m2, m3, m4, m5, m6⟩ | ⟨q, q1, rfl, q2, q3⟩)
    case inr =>
     refine And.intro rfl ?_
     rw [← HL2.out, q2]
     exact ⟨by rw [show s.size - (s.size - q) = q by omega], O8.out.trans q3⟩
    have R9 := hidden m5
    have O9 := hidden (O8.out.trans m6)
    have N9 := hidden m4
    have T9 := hidden (own_only T8.out m6 hbw)
    have L9 : Hid (preL (acc ++ [(t, s.size - k)]) (lexC docW (suf s j')) = R) := by show _ = _; rw [← m3]; exact HL2.out
    clear m3 m4 m5 m6
    go_wp2_with fail
    go_roundg (s.size + 1 - j')
    case rel =>
     refine ⟨j', f9, acc ++ [(t, s.size - k)], m2, by simp; omega, rfl, L9.out, N9.out, ?_, R9.out, O9.out⟩
     rw [HV.out]
     have e9 : (tvs s.size acc).length + 1 = (tvs s.size acc ++ [(⟨t.kind, k, t.N, t.S⟩ : TV)]).length := by simp
     unfold TR
     rw [← e9]
     have := T9.out
     rw [← e9] at this
     exact this
    case measure => rw [HG.out]; omega
  ·have zz : ¬ (k : Int) < (s.size : Int) := by omega
   have hke : k = s.size := by omega
   have HE : Hid (R = .ok acc) := by
    show _ = _
    rw [← HL.out, suf_end hlt]
    show Except.ok (acc ++ []) = _
    rw [List.append_nil]
   have hlen : (tvs s.size acc).length < 1000000 := by rw [tvs_len]; omega
   have HKE := hidden hke
   clear HL HN hke
   go_wp2_with fail
   go_quiet (fail)
   have HR1 := hidden (HR.out.drewN nq)
   have HO1 := hidden (HO.out.drewN nq)
   have HT1 : Hid (TR (wr.drewN nq) w.heap.size (Value.slice ao (tvs s.size acc).length cp) (tvs s.size acc)) := HT.out
   obtain ⟨d0, d1, d2, df⟩ := HR1.out.cells
   clear c0 c1 c2 hf HR HO HT
   generalize wr.drewN nq = w1 at *
   have hsz := HO1.out.size
   go_wp2_with (at_builtin; refine append_tok rfl (.tmp 23) (.tmp 29) rfl w.heap.size (.slice ao (tvs s.size acc).length cp) (tvs s.size acc) rfl (World.ownsRow.alloc HT1.out _) w1.heap.size 1 ⟨0, k, 0, []⟩ (0, 0) rfl (blk_alloc_new _ _) hlen (by rw [nblk_alloc]; omega) ?_; intro g6 c6 w8 hr6 gr6; have T8 := hidden hr6; have O8 := hidden (only_grown (HO1.out.alloc _) gr6 (own_ge HT1.out)); clear hr6 gr6)
   go_ret
   rw [HE.out]
   refine ⟨_, rfl, ?_, O8.out⟩
   have := T8.out
   unfold TR at this ⊢
   rw [List.length_append] at this ⊢
   have he : endV s.size = ⟨0, (k : Int), 0, []⟩ := by unfold endV; rw [HKE.out]
   rw [he]
   exact this
end Go.Proofs.YthjmakjhidjbaaaGreat

/-
 A region in which a deferred call recovers, walked operation by operation. No program is named.
-/
namespace Go.Proofs.YthjmakjhidjbaaaGreat
open Go.ChangeShapes Go.WideShapes Go.ChangeAt Go.RowKit Go.Deep
set_option linter.unusedVariables false
set_option maxHeartbeats 1000000

/-- The operations of a region that recovers, one behind the other. -/
def wpListS (P : Program) (ops : Array Oper) (Q : Exit → Act → List Frame → World → Prop) : List Oper → Act → List Frame → World → Prop
 | [], a, cs, w => Q .normal a cs w
 | o :: rest, a, cs, w =>
   if Region.wanted o (yielded ops a.tmps) then
    match (execOp a.eval o).run P w with
    | .ok .recover w' =>
     match recoverD cs with
     | some (v, cs') => wpListS P ops Q rest (a.put o.dst v) cs' w'
     | none => wpListS P ops Q rest (a.put o.dst .nilIface) cs w'
    | r => o.upon P a (fun a' w' => wpListS P ops Q rest a' cs w') (fun e a' w' => Q e a' cs w') r
   else wpListS P ops Q rest (a.put o.dst undef) cs w
theorem listS_ops {P : Program} {ops : Array Oper} {Q : Exit → Act → List Frame → World → Prop} : ∀ (L : List Oper) (i : Nat), ops.toList.drop i = L → ∀ (a : Act) (cs : List Frame) (w : World), wpListS P ops Q L a cs w → wpOpsS P ops Q (List.range' i L.length) a cs w
 | [], i, _, a, cs, w, h => h
 | o :: L, i, hL, a, cs, w, h => by
  have ho : ops[i]? = some o := by
   have : ops.toList[i]? = some o := by
    have e : (ops.toList.drop i)[0]? = some o := by rw [hL]; rfl
    rw [List.getElem?_drop] at e
    exact e
   simpa using this
  have hL2 : ops.toList.drop (i + 1) = L := by rw [← List.drop_drop, hL]; rfl
  have ih := listS_ops (P := P) (Q := Q) L (i + 1) hL2
  show wpOpsS P ops Q (i :: List.range' (i + 1) L.length) a cs w
  rw [wpListS] at h
  rw [wpOpsS, ho]
  simp only
  by_cases hw : Region.wanted o (yielded ops a.tmps) = true
  ·rw [if_pos hw] at h ⊢
   split at h
   ·rename_i w' hr
    rw [hr]
    simp only
    split at h
    ·rename_i v cs' hc
     rw [hc]
     exact ih _ _ _ h
    ·rename_i hc
     rw [hc]
     exact ih _ _ _ h
   ·rename_i r hnot
    have e : ∀ r : Result Next, o.upon P a (fun a' w' => wpListS P ops Q L a' cs w') (fun e a' w' => Q e a' cs w') r → o.upon P a (fun a' w' => wpOpsS P ops Q (List.range' (i + 1) L.length) a' cs w') (fun e a' w' => Q e a' cs w') r := by
     intro r hr
     unfold Oper.upon at hr ⊢
     split at hr <;> first | exact ih _ _ _ hr | skip
     ·refine Calls.mono hr (fun e w'' he => ?_)
      cases e with
      | returned v => exact ih _ _ _ he
      | panicked ch => exact he
      | outgrown => exact he
     ·refine Rows.mono hr (fun v w'' he => ih _ _ _ he)
     ·exact hr
     ·exact hr
    generalize (execOp a.eval o).run P w = r' at h hnot ⊢
    split
    ·rename_i w' ; exact absurd rfl (hnot w')
    ·exact e _ h
  ·rw [if_neg hw] at h ⊢
   exact ih _ _ _ h
theorem wpS_region_list {P : Program} {id : Nat} {ops : Array Oper} {Q : Exit → Act → List Frame → World → Prop} {a : Act} {cs : List Frame} {w : World} (h : wpListS P ops Q ops.toList a cs w) : (Code.region id ops false).wpS P Q a cs w := by
 apply wpS_region
 have := listS_ops (P := P) (Q := Q) ops.toList 0 rfl a cs w h
 rw [List.range_eq_range']
 exact this
/-- The same, not to be laid open by chance. -/
structure WL (P : Program) (ops : Array Oper) (Q : Exit → Act → List Frame → World → Prop) (L : List Oper) (a : Act) (cs : List Frame) (w : World) : Prop where
 out : wpListS P ops Q L a cs w
theorem wl_nil {P : Program} {ops : Array Oper} {Q : Exit → Act → List Frame → World → Prop} {a : Act} {cs : List Frame} {w : World} (h : Q .normal a cs w) : WL P ops Q [] a cs w := ⟨h⟩
theorem wpS_region_lit {P : Program} {id : Nat} {l : List Oper} {Q : Exit → Act → List Frame → World → Prop} {a : Act} {cs : List Frame} {w : World} (h : WL P l.toArray Q l a cs w) : (Code.region id l.toArray false).wpS P Q a cs w := wpS_region_list (by simpa using h.out)
section
variable {P : Program} {ops : Array Oper} {Q : Exit → Act → List Frame → World → Prop} {rest : List Oper} {a : Act} {cs cs' : List Frame} {w w' : World} {o : Oper} {v : Value}
theorem opsS_val (hg : o.guard = none) (hr : (execOp a.eval o).run P w = .ok (.value v) w') (h : WL P ops Q rest (a.put o.dst v) cs w') : WL P ops Q (o :: rest) a cs w := by
 have hw : Region.wanted o (yielded ops a.tmps) = true := by simp [Region.wanted, hg]
 refine ⟨?_⟩
 rw [wpListS]
 simp only [hw, if_true, hr]
 exact h.out
theorem opsS_skip (hg : o.guard = none) (hr : (execOp a.eval o).run P w = .ok .skip w') (h : WL P ops Q rest (a.put o.dst undef) cs w') : WL P ops Q (o :: rest) a cs w := by
 have hw : Region.wanted o (yielded ops a.tmps) = true := by simp [Region.wanted, hg]
 refine ⟨?_⟩
 rw [wpListS]
 simp only [hw, if_true, hr]
 exact h.out
theorem opsS_rec (hg : o.guard = none) (hr : (execOp a.eval o).run P w = .ok .recover w) (hc : recoverD cs = some (v, cs')) (h : WL P ops Q rest (a.put o.dst v) cs' w) : WL P ops Q (o :: rest) a cs w := by
 have hw : Region.wanted o (yielded ops a.tmps) = true := by simp [Region.wanted, hg]
 refine ⟨?_⟩
 rw [wpListS]
 simp only [hw, if_true, hr, hc]
 exact h.out
theorem opsS_idle (hg : o.guard = none) (hr : (execOp a.eval o).run P w = .ok .recover w) (hc : recoverD cs = none) (h : WL P ops Q rest (a.put o.dst .nilIface) cs w) : WL P ops Q (o :: rest) a cs w := by
 have hw : Region.wanted o (yielded ops a.tmps) = true := by simp [Region.wanted, hg]
 refine ⟨?_⟩
 rw [wpListS]
 simp only [hw, if_true, hr, hc]
 exact h.out
theorem opsS_move {x : Operand} (hop : o.op = .move x) (hg : o.guard = none) (hv : a.eval x = v) (h : WL P ops Q rest (a.put o.dst v) cs w) : WL P ops Q (o :: rest) a cs w := by
 refine opsS_val (v := v) (w' := w) hg ?_ h
 unfold execOp
 rw [hop]
 simp only [hv]
 rfl
theorem opsS_assign {x : Operand} (hop : o.op = .assign x) (hg : o.guard = none) (hv : a.eval x = v) (h : WL P ops Q rest (a.put o.dst v) cs w) : WL P ops Q (o :: rest) a cs w := by
 refine opsS_val (v := v) (w' := w) hg ?_ h
 unfold execOp
 rw [hop]
 simp only [hv]
 rfl
theorem opsS_extract {x : Operand} {ix : Nat} {vs : Array Value} (hop : o.op = .extract x ix) (hg : o.guard = none) (hv : a.eval x = .tuple vs) (hi : vs[ix]? = some v) (h : WL P ops Q rest (a.put o.dst v) cs w) : WL P ops Q (o :: rest) a cs w := by
 refine opsS_val (v := v) (w' := w) hg ?_ h
 unfold execOp
 rw [hop]
 simp [hv, Instr.extract, hi]
theorem opsS_assert {x : Operand} {u : Value} {t1 t2 : TypeId} {ok : Bool} (hop : o.op = .typeAssert x t1 t2 ok) (hg : o.guard = none) (hv : a.eval x = u) (hr : (Instr.typeAssert u t1 t2 ok).run P w = .ok v w) (h : WL P ops Q rest (a.put o.dst v) cs w) : WL P ops Q (o :: rest) a cs w := by
 refine opsS_val (v := v) (w' := w) hg ?_ h
 unfold execOp
 rw [hop]
 simp [hv, hr]
end
end Go.Proofs.YthjmakjhidjbaaaGreat

/-
 Layer 8, the program's tree: the tree of some tokens, or the place of the first one that can't stand where it does. Condition: the tokens lie in memory.
-/
namespace Go.Proofs.YthjmakjhidjbaaaGreat
open Go.ChangeShapes Go.WideShapes Go.ChangeAt Go.RowKit Go.Deep
set_option linter.unusedVariables false
set_option linter.unusedSimpArgs false
set_option maxHeartbeats 4000000
set_option maxRecDepth 20000

theorem assert_fault8 (v : Value) (t : TypeId) (w : World) : (Instr.typeAssert (.iface 61 v) t 61 true).run Tryz.prog w = .ok (.tuple #[v, .bool true]) w := by
 simp [Instr.typeAssert, run_underlying Tryz.underlying61, go_sem, Result.andThen]
theorem assert_nil8 (t : TypeId) (w : World) : (Instr.typeAssert .nilIface t 61 true).run Tryz.prog w = .ok (.tuple #[.agg #[.int .i64 0], .bool false]) w := by
 simp [Instr.typeAssert, run_underlying Tryz.underlying61, go_sem, Result.andThen]
theorem catch8_idle (p q r : Addr) (w : World) :
  CallsD Tryz.prog 27 #[.pointer (some p), .pointer (some q), .pointer (some r)] .returning w fun e u' w' => e = .returned (.tuple #[]) ∧ u' = .returning ∧ Below w.heap.size w w' := by
 refine callsD_of_wpS Tryz.func27 rfl fun c₀ cs hu => ?_
 have ha : (#[.pointer (some p), .pointer (some q), .pointer (some r)] ++ Array.replicate (Tryz.f27.ntmps - (#[.pointer (some p), .pointer (some q), .pointer (some r)] : Array Value).size) undef : Array Value) = #[.pointer (some p), .pointer (some q), .pointer (some r), undef, undef, undef, undef, undef, undef, undef, undef, undef, undef, undef] := by rw [Tryz.ntmps27]; rfl
 rw [ha]
 apply wpS_seq
 apply wpS_region_lit
 refine opsS_idle rfl (by simp [execOp, go_sem]) (by simp [recoverD, hu]) ?_
 simp only [Act.put, List.setIfInBounds_toArray, List.set_cons_succ, List.set_cons_zero]
 refine opsS_assert (v := .tuple #[.agg #[.int .i64 0], .bool false]) rfl rfl (u := .nilIface) (by simp [Act.eval]) (assert_nil8 _ _) ?_
 simp only [Act.put, List.setIfInBounds_toArray, List.set_cons_succ, List.set_cons_zero]
 refine opsS_move (v := .tuple #[.agg #[.int .i64 0], .bool false]) rfl rfl (by simp [Act.eval]) ?_
 simp only [Act.put, List.setIfInBounds_toArray, List.set_cons_succ, List.set_cons_zero]
 refine opsS_extract (v := .agg #[.int .i64 0]) (vs := #[.agg #[.int .i64 0], .bool false]) rfl rfl (by simp [Act.eval]) rfl ?_
 simp only [Act.put, List.setIfInBounds_toArray, List.set_cons_succ, List.set_cons_zero]
 refine opsS_extract (v := .bool false) (vs := #[.agg #[.int .i64 0], .bool false]) rfl rfl (by simp [Act.eval]) rfl ?_
 simp only [Act.put, List.setIfInBounds_toArray, List.set_cons_succ, List.set_cons_zero]
 refine opsS_val rfl (v := .pointer (some ⟨w.heap.size, 0, none⟩)) (w' := w.alloc (.cells #[.int .i64 0] 61)) (by simp [execOp, go_sem]) ?_
 simp only [Act.put, List.setIfInBounds_toArray, List.set_cons_succ, List.set_cons_zero]
 refine opsS_skip rfl (w' := (w.alloc (.cells #[.int .i64 0] 61)).setCell ⟨w.heap.size, 0, none⟩ (.int .i64 0)) (by simp [execOp, go_sem, Act.eval]) ?_
 simp only [Act.put, List.setIfInBounds_toArray, List.set_cons_succ, List.set_cons_zero]
 refine opsS_assign (v := .bool false) rfl rfl (by simp [Act.eval]) ?_
 simp only [Act.put, List.setIfInBounds_toArray, List.set_cons_succ, List.set_cons_zero]
 refine wl_nil ?_
 show Code.wpS _ _ _ _ _ _
 apply wpS_seq
 apply wpS_region_lit
 refine opsS_move (v := .bool false) rfl rfl (by simp [Act.eval]) ?_
 simp only [Act.put, List.setIfInBounds_toArray, List.set_cons_succ, List.set_cons_zero]
 refine wl_nil ?_
 show Code.wpS _ _ _ _ _ _
 refine wpS_cond (t := false) rfl ?_
 simp only [Bool.false_eq_true, if_false]
 refine wpS_of_wp (wp_skip ?_)
 have hb : Below w.heap.size w ((w.alloc (.cells #[.int .i64 0] 61)).setCell ⟨w.heap.size, 0, none⟩ (.int .i64 0)) := ((Below.refl _ _).alloc (Nat.le_refl _) _).setCell (Nat.le_refl _) _
 generalize (w.alloc (.cells #[.int .i64 0] 61)).setCell ⟨w.heap.size, 0, none⟩ (.int .i64 0) = w2 at *
 cases c₀
 simp_all [bodyPostS, results, Tryz.results27]
/-- Three results, in blocks of their own. -/
structure Out8 (w : World) (p : Nat) (a b d : Int) (x : ByteArray) (v : Value) (k : Int) (t : Bool) : Prop where
 n : B5 w p a b d x v
 k : w.heap[p + 1]? = some (.cells #[.int .i64 k] 3 (0, 0))
 t : w.heap[p + 2]? = some (.cells #[.bool t] 4 (0, 0))
section
variable {w w' : World} {p : Nat} {a b d : Int} {x : ByteArray} {v : Value} {k : Int} {t : Bool}
theorem Out8.cells (h : Out8 w p a b d x v k t) : w.cell? ⟨p + 1, 0, none⟩ = some (.int .i64 k) ∧ w.cell? ⟨p + 2, 0, none⟩ = some (.bool t) ∧ w.frozen? ⟨p + 1, 0, none⟩ = false ∧ w.frozen? ⟨p + 2, 0, none⟩ = false := by
 obtain ⟨h1, h2, h3⟩ := h
 simp [World.cell?, World.frozen?, h2, h3]
theorem Out8.below (h : Out8 w p a b d x v k t) (hb : Below w.heap.size w w') : Out8 w' p a b d x v k t := ⟨(hb.block _ (lt_of_some h.n)).trans h.n, (hb.block _ (lt_of_some h.k)).trans h.k, (hb.block _ (lt_of_some h.t)).trans h.t⟩
theorem Out8.drew (h : Out8 w p a b d x v k t) : Out8 w.drew p a b d x v k t := ⟨h.n, h.k, h.t⟩
theorem Out8.onlyS {S : Nat → Prop} (h : Out8 w p a b d x v k t) (hb : Only S w w') (h0 : ¬ S p) (h1 : ¬ S (p + 1)) (h2 : ¬ S (p + 2)) : Out8 w' p a b d x v k t := ⟨(hb.block _ (lt_of_some h.n) h0).trans h.n, (hb.block _ (lt_of_some h.k) h1).trans h.k, (hb.block _ (lt_of_some h.t) h2).trans h.t⟩
theorem Out8.set (h : Out8 w p a b d x v k t) (a' b' d' : Int) (x' : ByteArray) (v' : Value) (k' : Int) (t' : Bool) : Out8 (((fill5 w p a' b' d' x' v').setCell ⟨p + 1, 0, none⟩ (.int .i64 k')).setCell ⟨p + 2, 0, none⟩ (.bool t')) p a' b' d' x' v' k' t' := by
 have h1 : (fill5 w p a' b' d' x' v').heap[p + 1]? = some (.cells #[.int .i64 k] 3 (0, 0)) := (fill5_blk w (by omega) _ _ _ _ _).trans h.k
 have h2 : (fill5 w p a' b' d' x' v').heap[p + 2]? = some (.cells #[.bool t] 4 (0, 0)) := (fill5_blk w (by omega) _ _ _ _ _).trans h.t
 have h0 := h.n.fill a' b' d' x' v'
 refine ⟨(h0.other (by show p + 1 ≠ p; omega) _).other (by show p + 2 ≠ p; omega) _, ?_, ?_⟩
 ·simp [World.setCell, Array.getElem?_modify, h1]
 ·simp [World.setCell, Array.getElem?_modify, h2]
theorem only_set8 {S : Nat → Prop} (h : Only S w w') (h1 : w.heap.size ≤ p ∨ (S p ∧ S (p + 1) ∧ S (p + 2))) (a' b' d' : Int) (x' : ByteArray) (v' : Value) (k' : Value) (t' : Value) : Only S w (((fill5 w' p a' b' d' x' v').setCell ⟨p + 1, 0, none⟩ k').setCell ⟨p + 2, 0, none⟩ t') := by
 have c0 : ∀ (w9 : World) (o : Nat) (u : Value), Only S w w9 → Only S w (w9.setCell ⟨p, o, none⟩ u) := fun w9 o u hh => Only.setCell (a := ⟨p, o, none⟩) hh (h1.imp id (fun c => c.1)) u
 have h5 : Only S w (fill5 w' p a' b' d' x' v') := by
  unfold fill5
  exact c0 _ _ _ (c0 _ _ _ (c0 _ _ _ (c0 _ _ _ (c0 _ _ _ h))))
 have h6 := Only.setCell (a := ⟨p + 1, 0, none⟩) h5 (h1.imp (fun c => Nat.le_succ_of_le c) (fun c => c.2.1)) k'
 exact Only.setCell (a := ⟨p + 2, 0, none⟩) h6 (h1.imp (fun c => Nat.le_succ_of_le (Nat.le_succ_of_le c)) (fun c => c.2.2)) t'
end
theorem fillq_cell {w : World} {g p : Nat} {u : Value} (h : ¬ g = p) (hc : w.cell? ⟨g, 0, none⟩ = some u) (a b d : Int) (x : ByteArray) (v : Value) : (fill5 w p a b d x v).cell? ⟨g, 0, none⟩ = some u := by
 rw [World.cell?_of_block (a := ⟨g, 0, none⟩) (fill5_blk w h a b d x v)]
 exact hc
theorem cell_drew (w : World) (a : Addr) : w.drew.cell? a = w.cell? a := rfl
theorem catch8_panicking (p : Nat) (a b d : Int) (x : ByteArray) (v : Value) (k0 : Int) (t0 : Bool) (k : Int) (older : List PanicEntry) (w : World) (ho : Out8 w p a b d x v k0 t0) :
  CallsD Tryz.prog 27 #[.pointer (some ⟨p, 0, none⟩), .pointer (some ⟨p + 1, 0, none⟩), .pointer (some ⟨p + 2, 0, none⟩)] (.panicking (faultQ k :: older)) w fun r u' w' => r = .returned (.tuple #[]) ∧ u' = .panicking ({ faultQ k with recovered := true } :: older) ∧ Out8 w' p 0 0 0 ⟨#[]⟩ (.slice none 0 0) k false ∧ Only (fun b => b = p ∨ b = p + 1 ∨ b = p + 2) w w' := by
 refine callsD_of_wpS Tryz.func27 rfl fun c₀ cs hu => ?_
 have ha : (#[.pointer (some ⟨p, 0, none⟩), .pointer (some ⟨p + 1, 0, none⟩), .pointer (some ⟨p + 2, 0, none⟩)] ++ Array.replicate (Tryz.f27.ntmps - (#[.pointer (some ⟨p, 0, none⟩), .pointer (some ⟨p + 1, 0, none⟩), .pointer (some ⟨p + 2, 0, none⟩)] : Array Value).size) undef : Array Value) = #[.pointer (some ⟨p, 0, none⟩), .pointer (some ⟨p + 1, 0, none⟩), .pointer (some ⟨p + 2, 0, none⟩), undef, undef, undef, undef, undef, undef, undef, undef, undef, undef, undef] := by rw [Tryz.ntmps27]; rfl
 rw [ha]
 clear ha
 unfold faultQ at hu
 apply wpS_seq
 apply wpS_region_lit
 refine opsS_rec rfl (by simp [execOp, go_sem]) (v := .iface 61 (.agg #[.int .i64 k])) (cs' := { c₀ with mode := .panicking ({ faultQ k with recovered := true } :: older) } :: cs) (by simp [recoverD, hu, faultQ]) ?_
 simp only [Act.put, List.setIfInBounds_toArray, List.set_cons_succ, List.set_cons_zero]
 refine opsS_assert (v := .tuple #[.agg #[.int .i64 k], .bool true]) rfl rfl (u := .iface 61 (.agg #[.int .i64 k])) (by simp [Act.eval]) (assert_fault8 _ _ _) ?_
 simp only [Act.put, List.setIfInBounds_toArray, List.set_cons_succ, List.set_cons_zero]
 refine opsS_move (v := .tuple #[.agg #[.int .i64 k], .bool true]) rfl rfl (by simp [Act.eval]) ?_
 simp only [Act.put, List.setIfInBounds_toArray, List.set_cons_succ, List.set_cons_zero]
 refine opsS_extract (v := .agg #[.int .i64 k]) (vs := #[.agg #[.int .i64 k], .bool true]) rfl rfl (by simp [Act.eval]) rfl ?_
 simp only [Act.put, List.setIfInBounds_toArray, List.set_cons_succ, List.set_cons_zero]
 refine opsS_extract (v := .bool true) (vs := #[.agg #[.int .i64 k], .bool true]) rfl rfl (by simp [Act.eval]) rfl ?_
 simp only [Act.put, List.setIfInBounds_toArray, List.set_cons_succ, List.set_cons_zero]
 refine opsS_val rfl (v := .pointer (some ⟨w.heap.size, 0, none⟩)) (w' := w.alloc (.cells #[.int .i64 0] 61)) (by simp [execOp, go_sem]) ?_
 simp only [Act.put, List.setIfInBounds_toArray, List.set_cons_succ, List.set_cons_zero]
 refine opsS_skip rfl (w' := (w.alloc (.cells #[.int .i64 0] 61)).setCell ⟨w.heap.size, 0, none⟩ (.int .i64 k)) (by simp [execOp, go_sem, Act.eval]) ?_
 simp only [Act.put, List.setIfInBounds_toArray, List.set_cons_succ, List.set_cons_zero]
 refine opsS_assign (v := .bool true) rfl rfl (by simp [Act.eval]) ?_
 simp only [Act.put, List.setIfInBounds_toArray, List.set_cons_succ, List.set_cons_zero]
 refine wl_nil ?_
 show Code.wpS _ _ _ _ _ _
 have hb : Below w.heap.size w ((w.alloc (.cells #[.int .i64 0] 61)).setCell ⟨w.heap.size, 0, none⟩ (.int .i64 k)) := ((Below.refl _ _).alloc (Nat.le_refl _) _).setCell (Nat.le_refl _) _
 have hff : ((w.alloc (.cells #[.int .i64 0] 61)).setCell ⟨w.heap.size, 0, none⟩ (.int .i64 k)).heap[w.heap.size]? = some (.cells #[.int .i64 k] 61 (0, 0)) := by
  have h0 : (w.alloc (.cells #[.int .i64 0] 61)).heap[w.heap.size]? = some (.cells #[.int .i64 0] 61 (0, 0)) := blk_alloc_new _ _
  generalize w.alloc (.cells #[.int .i64 0] 61) = w3 at *
  simp [World.setCell, Array.getElem?_modify, h0]
 generalize (w.alloc (.cells #[.int .i64 0] 61)).setCell ⟨w.heap.size, 0, none⟩ (.int .i64 k) = w2 at *
 have ho2 := ho.below hb
 obtain ⟨c2, c3, c5, c6⟩ := ho2.cells
 obtain ⟨n0, n1, n2, n3, n4, nf⟩ := ho2.n.cells
 have f0 : w2.cell? ⟨w.heap.size, 0, none⟩ = some (.int .i64 k) := by simp [World.cell?, hff]
 have m0 : ¬ w.heap.size = p := by have := lt_of_some ho.n; omega
 have m1 : ¬ w.heap.size = p + 1 := by have := lt_of_some ho.k; omega
 have m2 : ¬ w.heap.size = p + 2 := by have := lt_of_some ho.t; omega
 have HB := hidden hb
 have HO := hidden ho2
 clear hb ho2 ho hff
 apply wpS_seq
 apply wpS_region_lit
 refine opsS_move (v := .bool true) rfl rfl (by simp [Act.eval]) ?_
 simp only [Act.put, List.setIfInBounds_toArray, List.set_cons_succ, List.set_cons_zero]
 refine wl_nil ?_
 show Code.wpS _ _ _ _ _ _
 refine wpS_cond (t := true) rfl ?_
 simp only [if_true]
 refine wpS_of_wp ?_
 have g3 : (fill5 w2 p 0 0 0 ⟨#[]⟩ (.slice none 0 0)).drew.cell? ⟨w.heap.size, 0, none⟩ = some (.int .i64 k) := (cell_drew _ _).trans (fillq_cell (w := w2) (g := w.heap.size) (p := p) m0 f0 0 0 0 ⟨#[]⟩ (.slice none 0 0))
 have g4 : ((fill5 w2 p 0 0 0 ⟨#[]⟩ (.slice none 0 0)).setCell ⟨p + 1, 0, none⟩ (.int .i64 k)).drew.cell? ⟨w.heap.size, 0, none⟩ = some (.int .i64 k) := by
  exact (cell_drew _ _).trans ((World.cell?_of_block (a := ⟨w.heap.size, 0, none⟩) (blk_setCell_other _ _ _ _ (by show _ ≠ p + 1; exact m1))).trans ((cell_drew _ _).symm.trans g3))
 unfold fill5 at g3 g4
 refine region_till (S := (fun w' => w'.cell? ⟨w.heap.size, 0, none⟩ = some (.int .i64 k))) (kz := 5) (by kernel_rfl) f0 (fun hHeld => ?_)
 refine AnyTill.tk (i := 0) (v := ?_) hHeld ?_ ?_
 rotate_left
 ·(intro w hSw; (try dsimp only at hSw); go_simp; (try with_reducible rfl))
 (try simp only [Act.put, q4, q5, q6, q1, q2, q3])
 refine AnyTill.tk (i := 1) (v := ?_) hHeld ?_ ?_
 rotate_left
 ·(intro w hSw; (try dsimp only at hSw); go_simp; (try with_reducible rfl))
 (try simp only [Act.put, q4, q5, q6, q1, q2, q3])
 refine AnyTill.tk (i := 2) (v := ?_) hHeld ?_ ?_
 rotate_left
 ·(intro w hSw; (try dsimp only at hSw); go_simp; (try with_reducible rfl))
 (try simp only [Act.put, q4, q5, q6, q1, q2, q3])
 refine AnyTill.one (i := 3) (by kernel_rfl) rfl (fun K hK => ?_)
 (try simp only [q1, q2, q3])
 go_simp
 refine hK.out _ _ (fun _ => g3) ?_
 clear hK K
 (try simp only [Act.put, q4, q5, q6, q1, q2, q3])
 refine AnyTill.one (i := 4) (by kernel_rfl) rfl (fun K hK => ?_)
 (try simp only [q1, q2, q3])
 go_simp
 refine hK.out _ _ (fun _ => g4) ?_
 clear hK K
 (try simp only [Act.put, q4, q5, q6, q1, q2, q3])
 refine AnyTill.one (i := 5) (by kernel_rfl) rfl (fun K hK => ?_)
 (try simp only [q1, q2, q3])
 go_simp
 refine hK.out _ _ (fun h => absurd rfl h) ?_
 clear hK K
 (try simp only [Act.put, q4, q5, q6, q1, q2, q3])
 refine AnyTill.done (by kernel_rfl) ?_ _
 (try simp only [Act.put, q4, q5, q6, q1, q2, q3])
 exact ⟨rfl, _, rfl, _, results_none rfl _ _ _, rfl, rfl, (HO.out.set 0 0 0 ⟨#[]⟩ (.slice none 0 0) k false).drew, (only_set8 (Only.of_below HB.out) (Or.inr ⟨Or.inl rfl, Or.inr (Or.inl rfl), Or.inr (Or.inr rfl)⟩) 0 0 0 ⟨#[]⟩ (.slice none 0 0) (.int .i64 k) (.bool false)).drew⟩
theorem tree_results {w : World} {p : Nat} {a b d : Int} {x : ByteArray} {v : Value} {k : Int} {t : Bool} (h : Out8 w p a b d x v k t) (tmps : Array Value) (h2 : tmps.getD 2 undef = .pointer (some ⟨p, 0, none⟩)) (h3 : tmps.getD 3 undef = .pointer (some ⟨p + 1, 0, none⟩)) (h4 : tmps.getD 4 undef = .pointer (some ⟨p + 2, 0, none⟩)) : (results Tryz.f20 tmps).run Tryz.prog w = .ok (.tuple #[.agg #[.int .i64 a, .int .i64 b, .int .i64 d, .string x, v], .int .i64 k, .bool t]) w := by
 obtain ⟨c2, c3, _⟩ := h.cells
 have g2 : tmps[2]?.getD undef = .pointer (some ⟨p, 0, none⟩) := by simpa using h2
 have g3 : tmps[3]?.getD undef = .pointer (some ⟨p + 1, 0, none⟩) := by simpa using h3
 have g4 : tmps[4]?.getD undef = .pointer (some ⟨p + 2, 0, none⟩) := by simpa using h4
 obtain ⟨n0, n1, n2, n3, n4, nf⟩ := h.n.cells
 simp [results, Tryz.results20, g2, g3, g4, asAddr, go_sem, c2, c3, n0, n1, n2, n3, n4]
/-- What tree tells. -/
def TreeAs (M : List TV) (r : Res) (w : World) (e : Ending) (w' : World) : Prop :=
 Below w.heap.size w w' ∧
 match r with
 | .ok (x, j) => ∃ (ao : Option Addr) (cp : Nat), e = .returned (.tuple #[.agg #[.int .i64 211, .int .i64 0, .int .i64 0, .string ⟨#[]⟩, .slice ao x.L.length cp], .int .i64 0, .bool true]) ∧ RL (plM M) (fun g => w.heap.size ≤ g) w' x.L ao
 | .error m => e = .returned (.tuple #[.agg #[.int .i64 0, .int .i64 0, .int .i64 0, .string ⟨#[]⟩, .slice none 0 0], .int .i64 (plM M m), .bool false])
/-- The world in which the parser begins. -/
def treeW (w : World) (v : Value) : World := (((w.alloc (.cells #[.int .i64 0, .int .i64 0, .int .i64 0, .string ⟨#[]⟩, .slice none 0 0] 25)).alloc (.cells #[.int .i64 0] 3)).alloc (.cells #[.bool false] 4)).alloc (.cells #[v] 65)
theorem treeW_size (w : World) (v : Value) : (treeW w v).heap.size = w.heap.size + 4 := by unfold treeW; rw [nblk_alloc, nblk_alloc, nblk_alloc, nblk_alloc]
theorem treeW_below (w : World) (v : Value) : Below w.heap.size w (treeW w v) := by
 unfold treeW
 exact ((((Below.refl _ _).alloc (Nat.le_refl _) _).alloc (by rw [nblk_alloc]; omega) _).alloc (by rw [nblk_alloc, nblk_alloc]; omega) _).alloc (by rw [nblk_alloc, nblk_alloc, nblk_alloc]; omega) _
theorem treeW_out (w : World) (v : Value) : Out8 (treeW w v) w.heap.size 0 0 0 ⟨#[]⟩ (.slice none 0 0) 0 false := by
 unfold treeW
 refine ⟨((((B5.new w 0 0 0 ⟨#[]⟩ (.slice none 0 0)).alloc _).alloc _).alloc _), ?_, ?_⟩
 ·rw [blk_alloc_lt _ _ _ (by rw [nblk_alloc, nblk_alloc, nblk_alloc]; omega), blk_alloc_lt _ _ _ (by rw [nblk_alloc, nblk_alloc]; omega), ← nblk_alloc w (.cells #[.int .i64 0, .int .i64 0, .int .i64 0, .string ⟨#[]⟩, .slice none 0 0] 25)]
  exact blk_alloc_new _ _
 ·have e3 : w.heap.size + 2 = ((w.alloc (.cells #[.int .i64 0, .int .i64 0, .int .i64 0, .string ⟨#[]⟩, .slice none 0 0] 25)).alloc (.cells #[.int .i64 0] 3)).heap.size := by rw [nblk_alloc, nblk_alloc]
  rw [blk_alloc_lt _ _ _ (by rw [nblk_alloc, nblk_alloc, nblk_alloc]; omega), e3]
  exact blk_alloc_new _ _
theorem treeW_pr (w : World) (v : Value) : (treeW w v).heap[w.heap.size + 3]? = some (.cells #[v] 65 (0, 0)) := by
 unfold treeW
 have e3 : w.heap.size + 3 = (((w.alloc (.cells #[.int .i64 0, .int .i64 0, .int .i64 0, .string ⟨#[]⟩, .slice none 0 0] 25)).alloc (.cells #[.int .i64 0] 3)).alloc (.cells #[.bool false] 4)).heap.size := by rw [nblk_alloc, nblk_alloc, nblk_alloc]
 rw [e3]
 exact blk_alloc_new _ _
theorem items_all {c : PC} (hN : ∀ j, j < c.ts.length → -4611686018427387904 ≤ (tk c.ts j).N ∧ (tk c.ts j).N ≤ 4611686018427387904) (j : Nat) (hj : j ≤ c.ts.length) : Rule c 40 .item j :=
 rule_all hN (fun i hi hP ih w h => m_bind h hi hP ih (reads_eq _ hi)) _ .item j hj (Nat.lt_succ_self _)
set_option maxRecDepth 20000 in
theorem tree_as {w : World} {g lc : Nat} {M : List TV} {ts : List Tk} (tm : TM M ts) (ht : TS w (some ⟨g, 0, none⟩) M) (hg : g < w.heap.size) (hc : M.length ≤ lc) (hs : M.length ≤ 1000000) (shape : ∀ i, i < ts.length → ((tk ts i).kind = 1 → (tk ts i).S = []) ∧ ((tk ts i).kind ≠ 1 → (tk ts i).N = 0)) (hN : ∀ j, j < ts.length → -4611686018427387904 ≤ (tk ts j).N ∧ (tk ts j).N ≤ 4611686018427387904) :
  Calls Tryz.prog 20 #[.slice (some ⟨g, 0, none⟩) M.length lc] w fun e w' => TreeAs M (reads ts .items 0) w e w' := by
 obtain ⟨c, hcb, hcg, hcl, hcM, hct⟩ : ∃ c : PC, c.b = w.heap.size + 3 ∧ c.g = g ∧ c.lc = lc ∧ c.M = M ∧ c.ts = ts := ⟨⟨w.heap.size + 3, g, lc, M, ts, tm, by omega, hc, hs, shape⟩, rfl, rfl, rfl, rfl, rfl⟩
 have P4 : Hid (PS c (treeW w (.slice (some ⟨g, 0, none⟩) M.length lc)) 0) := by
  refine ⟨?_, ?_⟩
  ·rw [hcb, hcg, hcl, hcM, Nat.zero_mul, Nat.sub_zero, Nat.sub_zero]
   exact treeW_pr w _
  ·rw [hcg, hcM]
   exact ht.keep2 (fun g' e hl => by
    simp only [Option.some.injEq, Addr.mk.injEq] at e
    rw [← e.1]
    exact (treeW_below w _).block _ hg)
 have HI := hidden (m_prog P4.out (fun j hj => items_all (by rw [hct]; exact hN) j hj) rfl)
 rw [hcb, hct] at HI
 have hpl : c.pl = plM M := by funext i; unfold PC.pl; rw [hcM]
 have HPL := hidden hpl
 have HCB := hidden hcb
 obtain ⟨L, hL⟩ : ∃ L, M.length = L := ⟨_, rfl⟩
 rw [hL] at HI P4 ⊢
 have O4 := hidden (treeW_out w (.slice (some ⟨g, 0, none⟩) L lc))
 have B4 := hidden (treeW_below w (.slice (some ⟨g, 0, none⟩) L lc))
 have S4 := hidden (treeW_size w (.slice (some ⟨g, 0, none⟩) L lc))
 have hmf : ∀ (fn : Fn) (first cap : Array Value) (w : World), (Instr.makeFunc fn first cap).run Tryz.prog w = .ok (.func fn first cap) w := fun _ _ _ _ => rfl
 clear hN shape ht tm hc hs hcb hcg hcl hcM hct hpl hL P4
 unfold treeW at HI O4 B4 S4
 cases hR : reads ts .items 0 with
 | ok xj =>
  obtain ⟨x, j⟩ := xj
  rw [hR] at HI
  clear hR
  go_enter_defers Tryz.func20, Tryz.ntmps20
  go_wp2_with fail
  generalize (((w.alloc (.cells #[.int .i64 0, .int .i64 0, .int .i64 0, .string ⟨#[]⟩, .slice none 0 0] 25)).alloc (.cells #[.int .i64 0] 3)).alloc (.cells #[.bool false] 4)).alloc (.cells #[.slice (some ⟨g, 0, none⟩) L lc] 65) = w4 at *
  refine (show Calls Tryz.prog 28 #[.pointer (some ⟨w.heap.size + 1 + 1 + 1, 0, none⟩)] w4 _ from HI.out).mono ?_
  rintro e w5 ⟨ao, cp, rfl, hl, hp, ho⟩
  rw [HPL.out] at hl
  have hs4 := S4.out
  have hcb := HCB.out
  have O5 := hidden (O4.out.onlyS ho (by intro (c : _ = _); omega) (by intro (c : _ = _); omega) (by intro (c : _ = _); omega))
  obtain ⟨c2, c3, c5, c6⟩ := O5.out.cells
  obtain ⟨n0, n1, n2, n3, n4, nf⟩ := O5.out.n.cells
  have c3' : w5.cell? ⟨w.heap.size + 1 + 1, 0, none⟩ = some (.bool false) := c3
  have c6' : w5.frozen? ⟨w.heap.size + 1 + 1, 0, none⟩ = false := c6
  have T5 := hidden hl
  have L5 := hidden ho
  obtain ⟨l, hl2⟩ : ∃ l, x.L.length = l := ⟨_, rfl⟩
  rw [hl2]
  have HL2 := hidden hl2
  clear hl hp ho c3 c6 hl2 hcb hs4
  go_wp2_with fail
  have O6 := O5.out.set 211 0 0 ⟨#[]⟩ (.slice ao l cp) 0 true
  have K6 := only_set8 (p := w.heap.size) (Only.refl (fun b => b = w.heap.size ∨ b = w.heap.size + 1 ∨ b = w.heap.size + 2) w5) (Or.inr ⟨Or.inl rfl, Or.inr (Or.inl rfl), Or.inr (Or.inr rfl)⟩) 211 0 0 ⟨#[]⟩ (.slice ao l cp) (.int .i64 0) (.bool true)
  have B5 : Below w.heap.size w w5 := B4.out.trans (L5.out.below (by have := S4.out; omega) (fun k hk c => by have c' : k = _ := c; have := HCB.out; omega))
  obtain ⟨w6, hw6⟩ : ∃ W, (((fill5 w5 w.heap.size 211 0 0 ⟨#[]⟩ (.slice ao l cp)).setCell ⟨w.heap.size + 1, 0, none⟩ (.int .i64 0)).setCell ⟨w.heap.size + 2, 0, none⟩ (.bool true)) = W := ⟨_, rfl⟩
  rw [hw6] at O6 K6
  unfold fill5 at hw6
  rw [show w.heap.size + 1 + 1 = w.heap.size + 2 from rfl, hw6]
  clear hw6
  have T6 := T5.out.keep (w' := w6) (fun q hq hlt => K6.block q hlt (fun c => by have := S4.out; rcases c with c | c | c <;> omega))
  have B6 : Below w.heap.size w w6 := B5.trans (K6.below B5.size (fun k hk c => by rcases c with c | c | c <;> omega))
  refine leaves_cons (f := 27) (args := #[.pointer (some ⟨w.heap.size, 0, none⟩), .pointer (some ⟨w.heap.size + 1, 0, none⟩), .pointer (some ⟨w.heap.size + 2, 0, none⟩)]) (by simp) (by simp [go_sem]) ?_
  refine (catch8_idle _ _ _ _).mono ?_
  rintro e u' w7 ⟨rfl, rfl, hb⟩
  refine ⟨_, tree_results (O6.below hb) _ rfl rfl rfl, B6.trans (hb.mono B6.size), ao, cp, ?_, ?_⟩
  ·rw [HL2.out]
  ·exact (T6.keep (fun q hq hlt => hb.block q hlt)).mono (fun q hq _ => by have := S4.out; omega)
 | error m =>
  rw [hR] at HI
  clear hR
  go_enter_defers Tryz.func20, Tryz.ntmps20
  go_wp2_with fail
  generalize (((w.alloc (.cells #[.int .i64 0, .int .i64 0, .int .i64 0, .string ⟨#[]⟩, .slice none 0 0] 25)).alloc (.cells #[.int .i64 0] 3)).alloc (.cells #[.bool false] 4)).alloc (.cells #[.slice (some ⟨g, 0, none⟩) L lc] 65) = w4 at *
  refine (show Calls Tryz.prog 28 #[.pointer (some ⟨w.heap.size + 1 + 1 + 1, 0, none⟩)] w4 _ from HI.out).mono ?_
  rintro e w5 ⟨rfl, ho⟩
  rw [HPL.out]
  have hs4 := S4.out
  have hcb := HCB.out
  have O5 := O4.out.onlyS ho (by intro (c : _ = _); omega) (by intro (c : _ = _); omega) (by intro (c : _ = _); omega)
  have B5 : Below w.heap.size w w5 := B4.out.trans (ho.below (by omega) (fun k hk c => by have c' : k = _ := c; omega))
  show bodyPostD _ _ _ _ _ _
  refine leaves_cons (f := 27) (args := #[.pointer (some ⟨w.heap.size, 0, none⟩), .pointer (some ⟨w.heap.size + 1, 0, none⟩), .pointer (some ⟨w.heap.size + 1 + 1, 0, none⟩)]) (by simp) (by simp [go_sem]) ?_
  refine (catch8_panicking w.heap.size 0 0 0 ⟨#[]⟩ (.slice none 0 0) 0 false (plM M m) [] w5 O5).mono ?_
  rintro e u' w7 ⟨rfl, rfl, hout, hon⟩
  exact ⟨_, tree_results hout _ rfl rfl rfl, B5.trans (hon.below B5.size (fun k hk c => by rcases c with c | c | c <;> omega)), rfl⟩
end Go.Proofs.YthjmakjhidjbaaaGreat

/-
 Layer 8: trees in memory that are the same: Same tells so. Condition: they lie in memory.
-/
namespace Go.Proofs.YthjmakjhidjbaaaGreat
open Go.ChangeShapes Go.WideShapes Go.ChangeAt Go.RowKit Go.Deep
set_option linter.unusedVariables false
set_option linter.unusedSimpArgs false
set_option maxHeartbeats 4000000
set_option maxRecDepth 20000

/-- The same, their places, as asked, aside. -/
inductive SameT (pl : Bool) (f f' : Nat → Int) : Tr → Tr → Prop
 | mk {x y : Tr} (hk : x.kind = y.kind) (hn : x.N = y.N) (hs : x.S = y.S) (hp : pl = true → f x.pl = f' y.pl) (hl : x.L.length = y.L.length) (hz : x.L.length ≤ 1000000) (hc : ∀ (k : Nat) (a b : Tr), x.L[k]? = some a → y.L[k]? = some b → SameT pl f f' a b) : SameT pl f f' x y
theorem same8 {pl : Bool} {f f' : Nat → Int} {P P' : Nat → Prop} {x y : Tr} (h : SameT pl f f' x y) : ∀ (w : World) (ao ao' : Option Addr) (c c' : Nat) (pa pb : Int), (pl = true → pa = pb) → RL f P w x.L ao → RL f' P' w y.L ao' →
  Calls Tryz.prog 12 #[.agg #[.int .i64 x.kind, .int .i64 pa, .int .i64 x.N, .string ⟨x.S.toArray⟩, .slice ao x.L.length c], .agg #[.int .i64 y.kind, .int .i64 pb, .int .i64 y.N, .string ⟨y.S.toArray⟩, .slice ao' y.L.length c'], .bool pl] w fun e w' => e = .returned (.bool true) ∧ Below w.heap.size w w' := by
 induction h with
 | @mk x y hk hn hs hp hl hz hc ih =>
  intro w ao ao' c c' pa pb hpl hx hy
  rw [← hk, ← hn, ← hs, ← hl]
  have HP : Hid (pl = true → ∀ (k : Nat) (a b : Tr), x.L[k]? = some a → y.L[k]? = some b → f a.pl = f' b.pl) := fun e k a b ha hb => by
   cases hc k a b ha hb with
   | mk _ _ _ hp _ _ _ => exact hp e
  have IH := hidden ih
  have X := hidden hx
  have Y := hidden hy
  have HL := hidden hl
  clear ih hx hy hc hp hk hn hs hl
  obtain ⟨m, hm⟩ : ∃ m, x.L.length = m := ⟨_, rfl⟩
  rw [hm]
  rw [hm] at hz
  have HM := hidden hm
  clear hm
  cases pl with
  | false =>
   go_enter Tryz.func12, Tryz.ntmps12
   go_wp2_with fail
   have A0 := hidden ((B5.new w x.kind pa x.N ⟨x.S.toArray⟩ (.slice ao m c)).alloc (.cells #[.int .i64 x.kind, .int .i64 pb, .int .i64 x.N, .string ⟨x.S.toArray⟩, .slice ao' m c'] 25))
   have C0 := hidden (B5.newAt (w := w.alloc (.cells #[.int .i64 x.kind, .int .i64 pa, .int .i64 x.N, .string ⟨x.S.toArray⟩, .slice ao m c] 25)) (q := w.heap.size + 1) x.kind pb x.N ⟨x.S.toArray⟩ (.slice ao' m c') (by simp))
   have X0 := hidden ((X.out.alloc (.cells #[.int .i64 x.kind, .int .i64 pa, .int .i64 x.N, .string ⟨x.S.toArray⟩, .slice ao m c] 25)).alloc (.cells #[.int .i64 x.kind, .int .i64 pb, .int .i64 x.N, .string ⟨x.S.toArray⟩, .slice ao' m c'] 25))
   have Y0 := hidden ((Y.out.alloc (.cells #[.int .i64 x.kind, .int .i64 pa, .int .i64 x.N, .string ⟨x.S.toArray⟩, .slice ao m c] 25)).alloc (.cells #[.int .i64 x.kind, .int .i64 pb, .int .i64 x.N, .string ⟨x.S.toArray⟩, .slice ao' m c'] 25))
   have D0 : Hid (Below w.heap.size w ((w.alloc (.cells #[.int .i64 x.kind, .int .i64 pa, .int .i64 x.N, .string ⟨x.S.toArray⟩, .slice ao m c] 25)).alloc (.cells #[.int .i64 x.kind, .int .i64 pb, .int .i64 x.N, .string ⟨x.S.toArray⟩, .slice ao' m c'] 25))) := ((Below.refl _ _).alloc (Nat.le_refl _) _).alloc (by simp) _
   clear X Y
   generalize (w.alloc (.cells #[.int .i64 x.kind, .int .i64 pa, .int .i64 x.N, .string ⟨x.S.toArray⟩, .slice ao m c] 25)).alloc (.cells #[.int .i64 x.kind, .int .i64 pb, .int .i64 x.N, .string ⟨x.S.toArray⟩, .slice ao' m c'] 25) = w0 at *
   go_loopw [7] (fun iv wr => ∃ k : Nat, k ≤ m ∧ iv = .int .i64 (k : Int) ∧ Below w0.heap.size w0 wr) (fun iv wr => (m - intOf iv).toNat)
   case atStart => exact ⟨0, by omega, rfl, Below.refl _ _⟩
   case round =>
    obtain ⟨k, k1, rfl, hbl⟩ := hrel
    have X1 := X0.out.beneath hbl (Nat.le_refl _)
    have Y1 := Y0.out.beneath hbl (Nat.le_refl _)
    have A1 := hidden (A0.out.below hbl (Nat.le_refl _))
    have C1 := hidden (C0.out.below hbl (Nat.le_refl _))
    have BL := hidden hbl
    have hd := D0.out.size
    have he := hbl.size
    clear hbl
    obtain ⟨a0, a1, a2, a3, a4, af⟩ := A1.out.cells
    obtain ⟨c0, c1, c2, c3, c4, cf⟩ := C1.out.cells
    by_cases hlt : k < m
    ·have z1 : (k : Int) < (m : Int) := by omega
     have zi : (0 : Int) ≤ (k : Int) ∧ (k : Int) < (m : Int) := ⟨by omega, z1⟩
     obtain ⟨s, hs⟩ : ∃ s, x.L[k]? = some s := ⟨_, List.getElem?_eq_getElem (by rw [HM.out]; exact hlt)⟩
     obtain ⟨t, ht⟩ : ∃ t, y.L[k]? = some t := ⟨_, List.getElem?_eq_getElem (by rw [← HL.out, HM.out]; exact hlt)⟩
     obtain ⟨aos, cps, hh, hr⟩ := X1
     obtain ⟨aos', cps', hh', hr'⟩ := Y1
     have R1 := hidden (hr k s hs)
     have R1' := hidden (hr' k t ht)
     obtain ⟨g, rfl, _, s0, s1, s2, s3, s4⟩ := hh k s hs
     obtain ⟨g', rfl, _, t0, t1, t2, t3, t4⟩ := hh' k t ht
     have HI := hidden (fun w r r' => IH.out k s t hs ht w (aos k) (aos' k) (cps k) (cps' k) (f s.pl) (f' t.pl) (fun c => by cases c) r r')
     clear hh hr hh' hr' hs ht a0 a1 a2 a3 c0 c1 c2 c3 af cf
     go_wp2_with fail
     go_region_held3 (fun w' => w'.cell? ⟨w.heap.size, 4, none⟩ = some (.slice (some ⟨g, 0, none⟩) m c) ∧ w'.cell? ⟨w.heap.size + 1, 4, none⟩ = some (.slice (some ⟨g', 0, none⟩) m c') ∧ w'.cell? ⟨g, k * 5, none⟩ = some (.int .i64 s.kind) ∧ w'.cell? ⟨g, k * 5 + 1, none⟩ = some (.int .i64 (f s.pl)) ∧ w'.cell? ⟨g, k * 5 + 2, none⟩ = some (.int .i64 s.N) ∧ w'.cell? ⟨g, k * 5 + 3, none⟩ = some (.string ⟨s.S.toArray⟩) ∧ w'.cell? ⟨g, k * 5 + 4, none⟩ = some (.slice (aos k) s.L.length (cps k)) ∧ w'.cell? ⟨g', k * 5, none⟩ = some (.int .i64 t.kind) ∧ w'.cell? ⟨g', k * 5 + 1, none⟩ = some (.int .i64 (f' t.pl)) ∧ w'.cell? ⟨g', k * 5 + 2, none⟩ = some (.int .i64 t.N) ∧ w'.cell? ⟨g', k * 5 + 3, none⟩ = some (.string ⟨t.S.toArray⟩) ∧ w'.cell? ⟨g', k * 5 + 4, none⟩ = some (.slice (aos' k) t.L.length (cps' k))) (go_keep) (first | (go_at_call 12; refine (HI.out _ (R1.out.beneath (drew_below wr) (Nat.le_refl _)) (R1'.out.beneath (drew_below wr) (Nat.le_refl _))).mono ?_; rintro e w6 ⟨rfl, hb6⟩; have B6 := hidden hb6; have n0 := cell_on hb6 a4; have n1 := cell_on hb6 c4; have n2 := cell_on hb6 s0; have n3 := cell_on hb6 s1; have n4 := cell_on hb6 s2; have n5 := cell_on hb6 s3; have n6 := cell_on hb6 s4; have n7 := cell_on hb6 t0; have n8 := cell_on hb6 t1; have n9 := cell_on hb6 t2; have n10 := cell_on hb6 t3; have n11 := cell_on hb6 t4; clear hb6))
     clear n0 n1 n2 n3 n4 n5 n6 n7 n8 n9 n10 n11 a4 c4 s0 s1 s2 s3 s4 t0 t1 t2 t3 t4
     go_wp2_with fail
     go_roundw
     case rel => exact ⟨k + 1, by omega, by go_num, BL.out.trans (((drew_below wr).trans B6.out).mono he)⟩
     case measure => simp [intOf]; omega
    ·have z1 : ¬ (k : Int) < (m : Int) := by omega
     clear X1 Y1
     go_wp2_with fail
     go_ret
     exact ⟨rfl, D0.out.trans (BL.out.mono hd)⟩
  | true =>
   have hpp := hpl rfl
   have HQ := hidden (HP.out rfl)
   subst hpp
   clear HP
   go_enter Tryz.func12, Tryz.ntmps12
   go_wp2_with fail
   have A0 := hidden ((B5.new w x.kind pa x.N ⟨x.S.toArray⟩ (.slice ao m c)).alloc (.cells #[.int .i64 x.kind, .int .i64 pa, .int .i64 x.N, .string ⟨x.S.toArray⟩, .slice ao' m c'] 25))
   have C0 := hidden (B5.newAt (w := w.alloc (.cells #[.int .i64 x.kind, .int .i64 pa, .int .i64 x.N, .string ⟨x.S.toArray⟩, .slice ao m c] 25)) (q := w.heap.size + 1) x.kind pa x.N ⟨x.S.toArray⟩ (.slice ao' m c') (by simp))
   have X0 := hidden ((X.out.alloc (.cells #[.int .i64 x.kind, .int .i64 pa, .int .i64 x.N, .string ⟨x.S.toArray⟩, .slice ao m c] 25)).alloc (.cells #[.int .i64 x.kind, .int .i64 pa, .int .i64 x.N, .string ⟨x.S.toArray⟩, .slice ao' m c'] 25))
   have Y0 := hidden ((Y.out.alloc (.cells #[.int .i64 x.kind, .int .i64 pa, .int .i64 x.N, .string ⟨x.S.toArray⟩, .slice ao m c] 25)).alloc (.cells #[.int .i64 x.kind, .int .i64 pa, .int .i64 x.N, .string ⟨x.S.toArray⟩, .slice ao' m c'] 25))
   have D0 : Hid (Below w.heap.size w ((w.alloc (.cells #[.int .i64 x.kind, .int .i64 pa, .int .i64 x.N, .string ⟨x.S.toArray⟩, .slice ao m c] 25)).alloc (.cells #[.int .i64 x.kind, .int .i64 pa, .int .i64 x.N, .string ⟨x.S.toArray⟩, .slice ao' m c'] 25))) := ((Below.refl _ _).alloc (Nat.le_refl _) _).alloc (by simp) _
   clear X Y
   generalize (w.alloc (.cells #[.int .i64 x.kind, .int .i64 pa, .int .i64 x.N, .string ⟨x.S.toArray⟩, .slice ao m c] 25)).alloc (.cells #[.int .i64 x.kind, .int .i64 pa, .int .i64 x.N, .string ⟨x.S.toArray⟩, .slice ao' m c'] 25) = w0 at *
   go_loopw [7] (fun iv wr => ∃ k : Nat, k ≤ m ∧ iv = .int .i64 (k : Int) ∧ Below w0.heap.size w0 wr) (fun iv wr => (m - intOf iv).toNat)
   case atStart => exact ⟨0, by omega, rfl, Below.refl _ _⟩
   case round =>
    obtain ⟨k, k1, rfl, hbl⟩ := hrel
    have X1 := X0.out.beneath hbl (Nat.le_refl _)
    have Y1 := Y0.out.beneath hbl (Nat.le_refl _)
    have A1 := hidden (A0.out.below hbl (Nat.le_refl _))
    have C1 := hidden (C0.out.below hbl (Nat.le_refl _))
    have BL := hidden hbl
    have hd := D0.out.size
    have he := hbl.size
    clear hbl
    obtain ⟨a0, a1, a2, a3, a4, af⟩ := A1.out.cells
    obtain ⟨c0, c1, c2, c3, c4, cf⟩ := C1.out.cells
    by_cases hlt : k < m
    ·have z1 : (k : Int) < (m : Int) := by omega
     have zi : (0 : Int) ≤ (k : Int) ∧ (k : Int) < (m : Int) := ⟨by omega, z1⟩
     obtain ⟨s, hs⟩ : ∃ s, x.L[k]? = some s := ⟨_, List.getElem?_eq_getElem (by rw [HM.out]; exact hlt)⟩
     obtain ⟨t, ht⟩ : ∃ t, y.L[k]? = some t := ⟨_, List.getElem?_eq_getElem (by rw [← HL.out, HM.out]; exact hlt)⟩
     obtain ⟨aos, cps, hh, hr⟩ := X1
     obtain ⟨aos', cps', hh', hr'⟩ := Y1
     have R1 := hidden (hr k s hs)
     have R1' := hidden (hr' k t ht)
     obtain ⟨g, rfl, _, s0, s1, s2, s3, s4⟩ := hh k s hs
     obtain ⟨g', rfl, _, t0, t1, t2, t3, t4⟩ := hh' k t ht
     have HI := hidden (fun w r r' => IH.out k s t hs ht w (aos k) (aos' k) (cps k) (cps' k) (f s.pl) (f' t.pl) (fun _ => HQ.out k s t hs ht) r r')
     clear hh hr hh' hr' hs ht a0 a1 a2 a3 c0 c1 c2 c3 af cf
     go_wp2_with fail
     go_region_held3 (fun w' => w'.cell? ⟨w.heap.size, 4, none⟩ = some (.slice (some ⟨g, 0, none⟩) m c) ∧ w'.cell? ⟨w.heap.size + 1, 4, none⟩ = some (.slice (some ⟨g', 0, none⟩) m c') ∧ w'.cell? ⟨g, k * 5, none⟩ = some (.int .i64 s.kind) ∧ w'.cell? ⟨g, k * 5 + 1, none⟩ = some (.int .i64 (f s.pl)) ∧ w'.cell? ⟨g, k * 5 + 2, none⟩ = some (.int .i64 s.N) ∧ w'.cell? ⟨g, k * 5 + 3, none⟩ = some (.string ⟨s.S.toArray⟩) ∧ w'.cell? ⟨g, k * 5 + 4, none⟩ = some (.slice (aos k) s.L.length (cps k)) ∧ w'.cell? ⟨g', k * 5, none⟩ = some (.int .i64 t.kind) ∧ w'.cell? ⟨g', k * 5 + 1, none⟩ = some (.int .i64 (f' t.pl)) ∧ w'.cell? ⟨g', k * 5 + 2, none⟩ = some (.int .i64 t.N) ∧ w'.cell? ⟨g', k * 5 + 3, none⟩ = some (.string ⟨t.S.toArray⟩) ∧ w'.cell? ⟨g', k * 5 + 4, none⟩ = some (.slice (aos' k) t.L.length (cps' k))) (go_keep) (first | (go_at_call 12; refine (HI.out _ (R1.out.beneath (drew_below wr) (Nat.le_refl _)) (R1'.out.beneath (drew_below wr) (Nat.le_refl _))).mono ?_; rintro e w6 ⟨rfl, hb6⟩; have B6 := hidden hb6; have n0 := cell_on hb6 a4; have n1 := cell_on hb6 c4; have n2 := cell_on hb6 s0; have n3 := cell_on hb6 s1; have n4 := cell_on hb6 s2; have n5 := cell_on hb6 s3; have n6 := cell_on hb6 s4; have n7 := cell_on hb6 t0; have n8 := cell_on hb6 t1; have n9 := cell_on hb6 t2; have n10 := cell_on hb6 t3; have n11 := cell_on hb6 t4; clear hb6))
     clear n0 n1 n2 n3 n4 n5 n6 n7 n8 n9 n10 n11 a4 c4 s0 s1 s2 s3 s4 t0 t1 t2 t3 t4
     go_wp2_with fail
     go_roundw
     case rel => exact ⟨k + 1, by omega, by go_num, BL.out.trans (((drew_below wr).trans B6.out).mono he)⟩
     case measure => simp [intOf]; omega
    ·have z1 : ¬ (k : Int) < (m : Int) := by omega
     clear X1 Y1
     go_wp2_with fail
     go_ret
     exact ⟨rfl, D0.out.trans (BL.out.mono hd)⟩
end Go.Proofs.YthjmakjhidjbaaaGreat

/-
 Layer 8: trees that are the same, places aside, or altogether: so that Same tells it. No condition but how many nodes there are.
-/
namespace Go.Proofs.YthjmakjhidjbaaaGreat
set_option linter.unusedVariables false
set_option maxHeartbeats 1000000

theorem cntL_mem : ∀ {L : List Tr} {a : Tr}, a ∈ L → a.cnt ≤ cntL L
 | [], a, h => by cases h
 | x :: L, a, h => by
  simp only [cntL]
  rcases List.mem_cons.1 h with rfl | h
  ·omega
  ·have := cntL_mem h; omega
theorem cnt_pos (x : Tr) : 0 < x.cnt := by cases x; simp only [Tr.cnt]; omega
theorem cntL_len : ∀ L : List Tr, L.length ≤ cntL L
 | [] => Nat.le_refl _
 | x :: L => by
  have := cntL_len L
  have := cnt_pos x
  simp only [cntL, List.length_cons]
  omega
theorem cnt_L (x : Tr) : cntL x.L + 1 = x.cnt := by cases x; rfl
theorem same_of_eqv (f f' : Nat → Int) : ∀ (n : Nat) (x y : Tr), x.cnt ≤ n → n ≤ 1000000 → x.eqv y → SameT false f f' x y
 | 0, x, y, h, _, _ => by have := cnt_pos x; omega
 | n + 1, x, y, h, hn, he => by
  have hL := he.L
  have hlen : x.L.length = y.L.length := by have := congrArg List.length hL; simpa using this
  have h1 := cnt_L x
  have h2 := cntL_len x.L
  refine .mk he.kind he.N he.S (fun c => by cases c) hlen (by omega) (fun k a b ha hb => ?_)
  have hm := cntL_mem (List.mem_of_getElem? ha)
  refine same_of_eqv f f' n a b (by omega) (by omega) ?_
  have e : (x.L.map Tr.np)[k]? = (y.L.map Tr.np)[k]? := by rw [hL]
  rw [List.getElem?_map, List.getElem?_map, ha, hb] at e
  have e2 : a.np = b.np := by simpa using e
  exact e2
theorem same_self (f : Nat → Int) : ∀ (n : Nat) (x : Tr), x.cnt ≤ n → n ≤ 1000000 → SameT true f f x x
 | 0, x, h, _ => by have := cnt_pos x; omega
 | n + 1, x, h, hn => by
  have h1 := cnt_L x
  have h2 := cntL_len x.L
  refine .mk rfl rfl rfl (fun _ => rfl) rfl (by omega) (fun k a b ha hb => ?_)
  rw [ha] at hb
  cases hb
  have hm := cntL_mem (List.mem_of_getElem? ha)
  exact same_self f n a (by omega) (by omega)
end Go.Proofs.YthjmakjhidjbaaaGreat

/-
 Layer 8: Count of the document, of a tree in memory. Condition: it lies there.
-/
namespace Go.Proofs.YthjmakjhidjbaaaGreat
open Go.ChangeShapes Go.WideShapes Go.ChangeAt Go.RowKit Go.Deep
set_option linter.unusedVariables false
set_option linter.unusedSimpArgs false
set_option maxHeartbeats 4000000
set_option maxRecDepth 20000

/-- How many nodes, or one more than asked. -/
def cntM (x : Tr) (m : Int) : Int := if m < 0 then 0 else if (x.cnt : Int) ≤ m then x.cnt else m + 1
/-- How it stands while they are counted: the first k parts. -/
def cntTo (L : List Tr) (k : Nat) : Nat := 1 + cntL (L.take k)
theorem cntTo_succ {L : List Tr} {k : Nat} {a : Tr} (h : L[k]? = some a) : cntTo L (k + 1) = cntTo L k + a.cnt := by
 unfold cntTo
 rw [List.take_add_one, h]
 simp only [Option.toList_some]
 rw [cntL_snoc]
 omega
theorem cntTo_all (x : Tr) : cntTo x.L x.L.length = x.cnt := by
 unfold cntTo
 rw [List.take_length, ← cnt_L]
 omega
theorem cntTo_le (x : Tr) (k : Nat) : cntTo x.L k ≤ x.cnt := by
 have : ∀ (L : List Tr) (k : Nat), cntL (L.take k) ≤ cntL L := by
  intro L
  induction L with
  | nil => intro k; simp
  | cons a L ih =>
   intro k
   cases k with
   | zero => simp [cntL]
   | succ k => simp only [List.take_succ_cons, cntL]; have := ih k; omega
 unfold cntTo
 have h1 := this x.L k
 have h2 := cnt_L x
 omega
theorem count8 {f : Nat → Int} {P : Nat → Prop} : ∀ (n : Nat) (x : Tr), x.cnt ≤ n → n ≤ 1000000 → ∀ (w : World) (ao : Option Addr) (c : Nat) (p m : Int), -1000000 ≤ m → m ≤ 1000000 → RL f P w x.L ao →
  Calls Tryz.prog 13 #[.agg #[.int .i64 x.kind, .int .i64 p, .int .i64 x.N, .string ⟨x.S.toArray⟩, .slice ao x.L.length c], .int .i64 m] w fun e w' => e = .returned (.int .i64 (cntM x m)) ∧ Below w.heap.size w w' := by
 intro n
 induction n with
 | zero => intro x h; have := cnt_pos x; omega
 | succ n ih =>
  intro x hx hn w ao c p m hm0 hm1 hrl
  have IH := hidden ih
  have X := hidden hrl
  have hcl := cntL_len x.L
  have hcc := cnt_L x
  clear ih hrl
  by_cases hneg : m < 0
  ·have hR : cntM x m = 0 := by unfold cntM; rw [if_pos hneg]
   rw [hR]
   go_enter Tryz.func13, Tryz.ntmps13
   go_wp2_with fail
   go_ret
   exact ⟨rfl, (Below.refl _ _).alloc (Nat.le_refl _) _⟩
  ·obtain ⟨R, hR⟩ : ∃ R, cntM x m = R := ⟨_, rfl⟩
   rw [hR]
   have HR := hidden hR
   clear hR
   obtain ⟨l, hl⟩ : ∃ l, x.L.length = l := ⟨_, rfl⟩
   rw [hl]
   rw [hl] at hcl
   have HLl := hidden hl
   clear hl
   go_enter Tryz.func13, Tryz.ntmps13
   go_wp2_with fail
   have A0 := hidden (B5.new w x.kind p x.N ⟨x.S.toArray⟩ (.slice ao l c))
   have X0 := hidden (X.out.alloc (.cells #[.int .i64 x.kind, .int .i64 p, .int .i64 x.N, .string ⟨x.S.toArray⟩, .slice ao l c] 25))
   have D0 := hidden ((Below.refl w.heap.size w).alloc (Nat.le_refl _) (.cells #[.int .i64 x.kind, .int .i64 p, .int .i64 x.N, .string ⟨x.S.toArray⟩, .slice ao l c] 25))
   clear X
   generalize w.alloc (.cells #[.int .i64 x.kind, .int .i64 p, .int .i64 x.N, .string ⟨x.S.toArray⟩, .slice ao l c] 25) = w0 at *
   go_loopw [5, 6] (fun mv iv wr => ∃ k : Nat, k ≤ l ∧ iv = .int .i64 (k : Int) ∧ mv = .int .i64 (if (cntTo x.L k : Int) ≤ m then (cntTo x.L k : Int) else m + 1) ∧ Below w0.heap.size w0 wr) (fun mv iv wr => (l - intOf iv).toNat)
   case atStart => exact ⟨0, by omega, rfl, by rw [show cntTo x.L 0 = 1 from rfl]; split <;> congr 1; omega, Below.refl _ _⟩
   case round =>
    obtain ⟨k, k1, rfl, rfl, hbl⟩ := hrel
    have X1 := X0.out.beneath hbl (Nat.le_refl _)
    have A1 := hidden (A0.out.below hbl (Nat.le_refl _))
    have BL := hidden hbl
    have hd := D0.out.size
    have he := hbl.size
    have hto := cntTo_le x k
    clear hbl
    obtain ⟨a0, a1, a2, a3, a4, af⟩ := A1.out.cells
    by_cases hq : (cntTo x.L k : Int) ≤ m
    ·rw [if_pos hq]
     by_cases hlt : k < l
     ·have z1 : (k : Int) < (l : Int) := by omega
      have zi : (0 : Int) ≤ (k : Int) ∧ (k : Int) < (l : Int) := ⟨by omega, z1⟩
      obtain ⟨s, hs⟩ : ∃ s, x.L[k]? = some s := ⟨_, List.getElem?_eq_getElem (by rw [HLl.out]; exact hlt)⟩
      have hsc := cntL_mem (List.mem_of_getElem? hs)
      have hsu := cntTo_succ hs
      obtain ⟨aos, cps, hh, hr⟩ := X1
      have R1 := hidden (hr k s hs)
      obtain ⟨g, rfl, _, s0, s1, s2, s3, s4⟩ := hh k s hs
      have HI := hidden (fun w r => IH.out s (by omega) (by omega) w (aos k) (cps k) (f s.pl) (m - (cntTo x.L k : Int)) (by omega) (by omega) r)
      have HC : Hid ((cntTo x.L k : Int) + cntM s (m - (cntTo x.L k : Int)) = if (cntTo x.L (k + 1) : Int) ≤ m then (cntTo x.L (k + 1) : Int) else m + 1) := by
       show _ = _
       unfold cntM
       rw [if_neg (by omega), hsu]
       split <;> split <;> omega
      have hcb : (0 : Int) ≤ cntM s (m - (cntTo x.L k : Int)) ∧ cntM s (m - (cntTo x.L k : Int)) ≤ 2000000 := by
       unfold cntM
       split
       ·omega
       ·split <;> omega
      clear hh hr hs a0 a1 a2 a3 af hsu
      generalize cntM s (m - (cntTo x.L k : Int)) = ct at *
      generalize (cntTo x.L k) = ck at *
      go_wp2_with (go_at_call 13; refine (HI.out _ R1.out).mono ?_; rintro e w6 ⟨rfl, hb6⟩; have B6 := hidden hb6; clear hb6)
      go_roundw
      case rel => exact ⟨k + 1, by omega, by go_num, by rw [HC.out], BL.out.trans (B6.out.mono he)⟩
      case measure => simp [intOf]; omega
     ·have z1 : ¬ (k : Int) < (l : Int) := by omega
      have hkl : k = l := by omega
      have HO : Hid (R = (cntTo x.L k : Int)) := by
       show _ = _
       have e2 : cntTo x.L k = x.cnt := by rw [hkl, ← HLl.out]; exact cntTo_all x
       rw [e2] at hq ⊢
       rw [← HR.out]
       unfold cntM
       rw [if_neg (by omega), if_pos hq]
      clear X1
      generalize (cntTo x.L k) = ck at *
      go_wp2_with fail
      go_ret
      exact ⟨by rw [HO.out]; rfl, D0.out.trans (BL.out.mono hd)⟩
    ·rw [if_neg hq]
     have HO : Hid (R = m + 1) := by
      show _ = _
      rw [← HR.out]
      unfold cntM
      rw [if_neg (by omega), if_neg (by omega)]
     clear X1 hq
     by_cases hlt : (k : Int) < (l : Int)
     ·go_wp2_with fail
      go_ret
      exact ⟨by rw [HO.out]; rfl, D0.out.trans (BL.out.mono hd)⟩
     ·go_wp2_with fail
      go_ret
      exact ⟨by rw [HO.out]; rfl, D0.out.trans (BL.out.mono hd)⟩
end Go.Proofs.YthjmakjhidjbaaaGreat
