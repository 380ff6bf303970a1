/-
  Layer 7, the program's reader: all tokens. Condition: the reader lies in memory.
-/
import Derived.Test.YtapecobalkjdhaaDoorP7Tok
import Derived.Test.YtapecobalkjdhaaDoorP7Pass2
namespace Go.Proofs.YtapecobalkjdhaaDoor
open Go.ChangeShapes Go.WideShapes Go.ChangeAt Go.RowKit Go.Deep
set_option linter.unusedVariables false
set_option maxHeartbeats 1000000

/-- A token with its place. -/
structure TV where
  kind : Int
  pl : Int
  N : Int
  S : List UInt8
def TV.cells (t : TV) : List Value := [.int .i64 t.kind, .int .i64 t.pl, .int .i64 t.N, .string ⟨t.S.toArray⟩]
def flatT (L : List TV) : List Value := L.flatMap TV.cells
theorem flatT_len : ∀ L : List TV, (flatT L).length = L.length * 4
  | [] => rfl
  | t :: L => by
    show (t.cells ++ flatT L).length = _
    rw [List.length_append, flatT_len L, List.length_cons]
    show 4 + _ = _
    omega
theorem flatT_app (A B : List TV) : flatT (A ++ B) = flatT A ++ flatT B := List.flatMap_append
/-- Tokens in a row of the call's own, or none. -/
def TR (w : World) (B : Nat) (v : Value) (L : List TV) : Prop := w.ownsRow B 31 4 v L.length (flatT L)
/-- Tokens, each with its place. -/
def tvs (n : Nat) (ts : List (Tk × Nat)) : List TV := ts.map fun p => ⟨p.1.kind, ((n - p.2 : Nat) : Int), p.1.N, p.1.S⟩
def endV (n : Nat) : TV := ⟨0, n, 0, []⟩
theorem TR.nil (w : World) (B : Nat) : TR w B (.slice none 0 0) [] := ⟨rfl, Or.inl ⟨rfl, rfl⟩⟩
theorem TR.slice {w : World} {B : Nat} {v : Value} {L : List TV} (h : TR w B v L) : ∃ ao c, v = .slice ao L.length c := by
  rcases h.2 with ⟨rfl, e⟩ | ⟨g, cap, cur, rfl, _⟩
  · rw [e]; exact ⟨none, 0, rfl⟩
  · exact ⟨_, cap, rfl⟩
theorem infoT : (Tryd.prog.info? 31).map (fun i => (i.zero, i.size, i.bytes)) = some (some (.agg #[.int .i64 0, .int .i64 0, .int .i64 0, .string ⟨#[]⟩]), 4, 40) := by kernel_rfl
theorem append_tok {w : World} {ops : Array Oper} {rest : List Oper} {o : Oper} {a : Act} {Q : Exit → Act → World → Prop} (hgd : o.guard = none) (s x : Operand)
    (ho : o.op = .call { callee := .builtin .append, args := #[s, x], argTypes := #[23, 23] }) (B : Nat) (v : Value) (L : List TV) (hs : a.eval s = v) (hown : TR w B v L)
    (gx c : Nat) (t : TV) (fr : Nat × Nat) (hx : a.eval x = .slice (some ⟨gx, 0, none⟩) 1 c) (hu : w.heap[gx]? = some (.cells #[.int .i64 t.kind, .int .i64 t.pl, .int .i64 t.N, .string ⟨t.S.toArray⟩] 31 fr)) (hn : L.length < 1000000) (hB : B ≤ w.heap.size)
    (h : ∀ g cap w', TR w' B (.slice (some ⟨g, 0, none⟩) (L.length + 1) cap) (L ++ [t]) → w.grownBy w' v.ownBlock → wpList Tryd.prog ops Q rest (a.put o.dst (.slice (some ⟨g, 0, none⟩) (L.length + 1) cap)) w') : wpList Tryd.prog ops Q (o :: rest) a w := by
  obtain ⟨i0, hi, hz0, hz1, hz2⟩ := info_parts infoT
  refine wpList_append_lies w hgd s x 23 ho B 31 i0 _ 4 40 Tryd.underlying23 hi hz0 hz1 hz2 rfl (by decide) v L.length (flatT L) hs hown ⟨gx, 0, none⟩ 1 c t.cells hx rfl ?_ ?_ (by omega) (by unfold maxLen; omega) (by omega) hB _ rfl ?_
  · intro j y hy
    exact World.news_of_block hu j y hy
  · intro y hy
    simp [TV.cells] at hy
    rcases hy with rfl | rfl | rfl | rfl <;> rfl
  · intro g cap w' q1 q2 _ _
    refine h g cap w' ?_ q2
    unfold TR
    rw [flatT_app, List.length_append]
    have : flatT [t] = t.cells := by simp [flatT]
    rw [this]
    exact q1
/-- What was read, ahead of what is still to be read. -/
def preL (acc : List (Tk × Nat)) (R : Except (Int × Nat) (List (Tk × Nat))) : Except (Int × Nat) (List (Tk × Nat)) := match R with | .ok ts => .ok (acc ++ ts) | .error e => .error e
theorem preL_nil (R : Except (Int × Nat) (List (Tk × Nat))) : preL [] R = R := by cases R <;> rfl
theorem preL_tok {acc : List (Tk × Nat)} {p : Tk × Nat} (R : Except (Int × Nat) (List (Tk × Nat))) : preL acc (match R with | .error e => .error e | .ok ts => .ok (p :: ts)) = preL (acc ++ [p]) R := by
  cases R with
  | error e => rfl
  | ok ts => simp [preL]
theorem tvs_more {n k : Nat} (hk : k ≤ n) (acc : List (Tk × Nat)) (t : Tk) : tvs n (acc ++ [(t, n - k)]) = tvs n acc ++ [⟨t.kind, k, t.N, t.S⟩] := by
  unfold tvs
  rw [List.map_append]
  simp only [List.map_cons, List.map_nil]
  rw [show n - (n - k) = k by omega]
theorem tvs_len (n : Nat) (ts : List (Tk × Nat)) : (tvs n ts).length = ts.length := List.length_map _
/-- What is so behind all. -/
def AllAs (R : Except (Int × Nat) (List (Tk × Nat))) (b : Nat) (s : ByteArray) (w : World) (e : Ending) (w' : World) : Prop :=
  match R with
  | .ok ts => ∃ v, e = .returned v ∧ TR w' w.heap.size v (tvs s.size ts ++ [endV s.size]) ∧ OnlyB b w w'
  | .error (e', k) => e = .panicked [faultP e' ((s.size - k : Nat) : Int)] ∧ OnlyB b w w'
/-- How it stands while tokens are read. -/
def InA (R : Except (Int × Nat) (List (Tk × Nat))) (b : Nat) (s : ByteArray) (w : World) (gk : Nat) (v : Value) (wr : World) : Prop :=
  ∃ (k f : Nat) (acc : List (Tk × Nat)), k ≤ s.size ∧ acc.length ≤ k ∧ gk = s.size + 1 - k ∧ preL acc (lexC docW (suf s k)) = R ∧ (∀ hj : k < s.size, blankB s[k] = false ∧ atB s k begC = false) ∧ TR wr w.heap.size v (tvs s.size acc) ∧ RD wr b s k f ∧ OnlyB b w wr
set_option maxRecDepth 20000 in
theorem all_as {w : World} {b : Nat} {s : ByteArray} {f : Nat} (h : RD w b s 0 f) (hs : s.size ≤ 900000) : Calls Tryd.prog 15 #[.pointer (some ⟨b, 0, none⟩)] w fun e w' => AllAs (lexC docW (suf s 0)) b s w e w' := by
  obtain ⟨R, hR⟩ : ∃ R, lexC docW (suf s 0) = R := ⟨_, rfl⟩
  rw [hR]
  have HR0 := hidden hR
  have H := hidden h
  have hs1 : s.size ≤ 1000000 := by omega
  have hbw := h.lt
  clear hR h
  go_enter Tryd.func15, Tryd.ntmps15
  go_wp2_with fail
  refine (pass_any H.out (by omega) hs1).mono ?_
  rintro e w5 (⟨j, f5, rfl, j1, j2, j3, j4, j5, j6⟩ | ⟨k, k1, rfl, k2, k3⟩)
  case inr =>
    refine And.intro rfl ?_
    rw [← HR0.out, k2]
    exact ⟨by rw [show s.size - (s.size - k) = k by omega], k3⟩
  have R5 := hidden j5
  have O5 := hidden j6
  have N5 := hidden j4
  have L5 : Hid (lexC docW (suf s j) = R) := by show _ = _; rw [← j3]; exact HR0.out
  clear j3 j4 j5 j6 HR0 H
  go_wp2_with fail
  go_loopg [3] (s.size + 1 - j) (fun gk v wr => InA R b s w gk v wr)
  case atStart => exact ⟨j, f5, [], j2, by simp, rfl, by rw [preL_nil]; exact L5.out, N5.out, TR.nil _ _, R5.out, O5.out⟩
  case round =>
    clear R5 O5 N5 L5
    obtain ⟨k, f6, acc, k1, k2, k3, k4, k5, k6, k7, k8⟩ := hrel
    obtain ⟨ao, cp, rfl⟩ := k6.slice
    obtain ⟨c0, c1, c2, hf⟩ := k7.cells
    have HL := hidden k4
    have HN := hidden k5
    have HT := hidden k6
    have HR := hidden k7
    have HO := hidden k8
    have HG := hidden k3
    clear k3 k4 k5 k6 k7 k8
    by_cases hlt : k < s.size
    · have zz : (k : Int) < (s.size : Int) := by omega
      have e0 := suf_cons s hlt
      obtain ⟨b1, b2⟩ := HN.out hlt
      have b3 := at_opens k1 b2
      have hl2 := HL.out
      rw [e0] at b3
      have hl3 : lexC docW (suf s k) = (match tokAt docW (suf s k) with | .error e => .error (e, (suf s k).length) | .ok (t, r) => (match lexC docW r with | .error e => .error e | .ok ts => .ok ((t, (suf s k).length) :: ts))) := by
        have := lexC_tok docSigns b1 b3
        rw [← e0] at this
        exact this
      rw [hl3] at hl2
      have HK := hidden (fun (w0 : World) (h0 : RD w0 b s k f6) => token_as h0 hlt hs)
      have hlen : (tvs s.size acc).length < 1000000 := by rw [tvs_len]; omega
      cases ht : tokAt docW (suf s k) with
      | error e' =>
        rw [ht] at hl2 HK
        have HE : Hid (R = .error (e', s.size - k)) := by show _ = _; rw [← hl2, ← suf_len]; rfl
        clear hl2 hl3 b1 b2 b3 e0 ht HL HN
        go_wp2_with fail
        go_quiet (fail)
        have HR1 := hidden (HR.out.drewN nq)
        have HO1 := hidden (HO.out.drewN nq)
        clear c0 c1 c2 hf HR HO HT
        generalize wr.drewN nq = w1 at *
        go_wp2_with (go_at_call 22; refine (HK.out _ HR1.out).mono ?_; rintro e w7 ⟨rfl, ho⟩; have O7 := hidden (HO1.out.trans ho); clear ho)
        refine And.intro rfl ?_
        rw [HE.out]
        exact ⟨by rw [show s.size - (s.size - k) = k by omega], O7.out⟩
      | ok tr =>
        obtain ⟨t, r⟩ := tr
        rw [ht] at hl2 HK
        obtain ⟨r1, r2⟩ := suf_at (tok_suf ht) (by omega)
        have r3 := tok_len docSigns ht
        rw [suf_len] at r3
        have HL2 : Hid (preL (acc ++ [(t, s.size - k)]) (lexC docW (suf s (s.size - r.length))) = R) := by
          show _ = _
          rw [← hl2, ← suf_len, ← r1]
          exact (preL_tok _).symm
        have HV := hidden (tvs_more k1 acc t)
        clear hl2 hl3 b1 b2 b3 e0 ht HL HN r1
        go_wp2_with fail
        go_quiet (fail)
        have HR1 := hidden (HR.out.drewN nq)
        have HO1 := hidden (HO.out.drewN nq)
        have HT1 : Hid (TR (wr.drewN nq) w.heap.size (Value.slice ao (tvs s.size acc).length cp) (tvs s.size acc)) := HT.out
        clear c0 c1 c2 hf HR HO HT
        generalize wr.drewN nq = w1 at *
        go_wp2_with (first
          | (go_at_call 22; refine (HK.out _ HR1.out).mono ?_; rintro e w7 ⟨rfl, hr, ho⟩; have R7 := hidden hr; have T7 := hidden (own_only HT1.out ho hbw); have O7 := hidden (HO1.out.trans ho); have hsz := O7.out.size; clear hr ho)
          | (at_builtin; refine append_tok rfl (.tmp 18) (.tmp 21) rfl w.heap.size (.slice ao (tvs s.size acc).length cp) (tvs s.size acc) rfl (World.ownsRow.alloc T7.out _) w7.heap.size 1 ⟨t.kind, k, t.N, t.S⟩ (0, 0) rfl (blk_alloc_new _ _) hlen (by rw [nblk_alloc]; omega) ?_; intro g6 c6 w8 hr6 gr6; have T8 := hidden hr6; have R8 := hidden (rd_grown (R7.out.alloc _) gr6 (fun q hq => Nat.lt_of_lt_of_le hbw (own_ge T7.out q hq))); have O8 := hidden (only_grown (O7.out.alloc _) gr6 (own_ge T7.out)); clear hr6 gr6))
        refine (pass_any R8.out (by omega) hs1).mono ?_
        rintro e w9 (⟨j', f9, rfl, m1, m2, m3, m4, m5, m6⟩ | ⟨q, q1, rfl, q2, q3⟩)
        case inr =>
          refine And.intro rfl ?_
          rw [← HL2.out, q2]
          exact ⟨by rw [show s.size - (s.size - q) = q by omega], O8.out.trans q3⟩
        have R9 := hidden m5
        have O9 := hidden (O8.out.trans m6)
        have N9 := hidden m4
        have T9 := hidden (own_only T8.out m6 hbw)
        have L9 : Hid (preL (acc ++ [(t, s.size - k)]) (lexC docW (suf s j')) = R) := by show _ = _; rw [← m3]; exact HL2.out
        clear m3 m4 m5 m6
        go_wp2_with fail
        go_roundg (s.size + 1 - j')
        case rel =>
          refine ⟨j', f9, acc ++ [(t, s.size - k)], m2, by simp; omega, rfl, L9.out, N9.out, ?_, R9.out, O9.out⟩
          rw [HV.out]
          have e9 : (tvs s.size acc).length + 1 = (tvs s.size acc ++ [(⟨t.kind, k, t.N, t.S⟩ : TV)]).length := by simp
          unfold TR
          rw [← e9]
          have := T9.out
          rw [← e9] at this
          exact this
        case measure => rw [HG.out]; omega
    · have zz : ¬ (k : Int) < (s.size : Int) := by omega
      have hke : k = s.size := by omega
      have HE : Hid (R = .ok acc) := by
        show _ = _
        rw [← HL.out, suf_end hlt]
        show Except.ok (acc ++ []) = _
        rw [List.append_nil]
      have hlen : (tvs s.size acc).length < 1000000 := by rw [tvs_len]; omega
      have HKE := hidden hke
      clear HL HN hke
      go_wp2_with fail
      go_quiet (fail)
      have HR1 := hidden (HR.out.drewN nq)
      have HO1 := hidden (HO.out.drewN nq)
      have HT1 : Hid (TR (wr.drewN nq) w.heap.size (Value.slice ao (tvs s.size acc).length cp) (tvs s.size acc)) := HT.out
      obtain ⟨d0, d1, d2, df⟩ := HR1.out.cells
      clear c0 c1 c2 hf HR HO HT
      generalize wr.drewN nq = w1 at *
      have hsz := HO1.out.size
      go_wp2_with (at_builtin; refine append_tok rfl (.tmp 23) (.tmp 29) rfl w.heap.size (.slice ao (tvs s.size acc).length cp) (tvs s.size acc) rfl (World.ownsRow.alloc HT1.out _) w1.heap.size 1 ⟨0, k, 0, []⟩ (0, 0) rfl (blk_alloc_new _ _) hlen (by rw [nblk_alloc]; omega) ?_; intro g6 c6 w8 hr6 gr6; have T8 := hidden hr6; have O8 := hidden (only_grown (HO1.out.alloc _) gr6 (own_ge HT1.out)); clear hr6 gr6)
      go_ret
      rw [HE.out]
      refine ⟨_, rfl, ?_, O8.out⟩
      have := T8.out
      unfold TR at this ⊢
      rw [List.length_append] at this ⊢
      have he : endV s.size = ⟨0, (k : Int), 0, []⟩ := by unfold endV; rw [HKE.out]
      rw [he]
      exact this
end Go.Proofs.YtapecobalkjdhaaDoor
