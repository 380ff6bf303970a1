/-
  Layer 7, the program's reader: texts. Condition: the reader lies in memory.
-/
import Derived.Test.YtapecobalkjdhaaDoorP7Esc
import Derived.Test.YtapecobalkjdhaaDoorP7Read
import Derived.Test.YtapecobalkjdhaaDoorR7Text
import Derived.Laws.OwnMore
namespace Go.Proofs.YtapecobalkjdhaaDoor
open Go.ChangeShapes Go.WideShapes Go.ChangeAt Go.RowKit Go.Deep
set_option linter.unusedVariables false
set_option maxHeartbeats 1000000

/-- Bytes in a row of the call's own, or none. -/
def BY (w : World) (B : Nat) (v : Value) (l : List UInt8) : Prop := w.ownsRow B 5 1 v l.length (l.map u8v)
section
variable {w w' : World} {B b : Nat} {v : Value} {l : List UInt8}
theorem own_only {e : TypeId} {size n : Nat} {xs : List Value} (h : w.ownsRow B e size v n xs) (k : OnlyB b w w') (hb : b < B) : w'.ownsRow B e size v n xs := by
  obtain ⟨h1, h2⟩ := h
  refine ⟨h1, h2.imp id ?_⟩
  rintro ⟨g, cap, cur, e1, e2, e3, e4⟩
  exact ⟨g, cap, cur, e1, e2, (k.block g (lt_of_some e3) (by intro (c : g = b); omega)).trans e3, e4⟩
theorem BY.only (h : BY w B v l) (k : OnlyB b w w') (hb : b < B) : BY w' B v l := own_only h k hb
theorem BY.nil (w : World) (B : Nat) : BY w B (.slice none 0 0) [] := ⟨rfl, Or.inl ⟨rfl, rfl⟩⟩
theorem BY.slice (h : BY w B v l) : ∃ ao c, v = .slice ao l.length c := by
  rcases h.2 with ⟨rfl, e⟩ | ⟨g, cap, cur, rfl, _⟩
  · rw [e]; exact ⟨none, 0, rfl⟩
  · exact ⟨_, cap, rfl⟩
theorem BY.string (h : BY w B v l) : Sem.run Tryd.prog (convert 59 9 v) w = .ok (.string ⟨l.toArray⟩) w := by
  rcases h.2 with ⟨rfl, e⟩ | ⟨g, cap, cur, rfl, _⟩
  · have : l = [] := List.length_eq_zero_iff.1 e
    subst this
    rfl
  · refine run_string l (fun i hi => ?_)
    have := World.ownsRow.cellAt h i (by omega)
    rw [this]
    simp [hi]
theorem only_grown {w1 w2 : World} {row : Option Nat} (h : OnlyB b w w1) (g : w1.grownBy w2 row) (hr : ∀ q, row = some q → w.heap.size ≤ q) : OnlyB b w w2 :=
  ⟨g.os.trans h.os, g.tape.trans h.tape, g.output.trans h.output, Nat.le_trans h.size g.size, fun k hk hs => (g.block k (Nat.lt_of_lt_of_le hk h.size) (fun e => by have := hr k e.symm; omega)).trans (h.block k hk hs)⟩
theorem rd_grown {w1 w2 : World} {row : Option Nat} {s : ByteArray} {i f : Nat} (h : RD w1 b s i f) (g : w1.grownBy w2 row) (hr : ∀ q, row = some q → b < q) : RD w2 b s i f :=
  (g.block b h.lt (fun e => by have := hr b e.symm; omega)).trans h
theorem own_ge {e : TypeId} {size n : Nat} {xs : List Value} (h : w.ownsRow B e size v n xs) : ∀ q, v.ownBlock = some q → B ≤ q := fun q hq => (h.lt q hq).1
end
theorem append_u8 {w : World} {ops : Array Oper} {rest : List Oper} {o : Oper} {a : Act} {Q : Exit → Act → World → Prop} (hgd : o.guard = none) (s x : Operand)
    (ho : o.op = .call { callee := .builtin .append, args := #[s, x], argTypes := #[59, 59] }) (B : Nat) (v : Value) (l : List UInt8) (hs : a.eval s = v) (hown : BY w B v l)
    (gx c : Nat) (b : UInt8) (hx : a.eval x = .slice (some ⟨gx, 0, none⟩) 1 c) (hu : w.cell? ⟨gx, 0, none⟩ = some (u8v b)) (hn : l.length < 1000000) (hB : B ≤ w.heap.size)
    (h : ∀ g cap w', BY w' B (.slice (some ⟨g, 0, none⟩) (l.length + 1) cap) (l ++ [b]) → w.grownBy w' v.ownBlock → wpList Tryd.prog ops Q rest (a.put o.dst (.slice (some ⟨g, 0, none⟩) (l.length + 1) cap)) w') : wpList Tryd.prog ops Q (o :: rest) a w := by
  obtain ⟨i0, hi, hz0, hz1, hz2⟩ := info_parts infoU8
  refine wpList_append_lies w hgd s x 59 ho B 5 i0 _ 1 1 Tryd.underlying59 hi hz0 hz1 hz2 rfl (by decide) v l.length (l.map u8v) hs hown ⟨gx, 0, none⟩ 1 c [u8v b] hx rfl ?_ ?_ (by omega) (by unfold maxLen; omega) (by omega) hB _ rfl ?_
  · intro j y hy
    match j, hy with
    | 0, hy => simp at hy; subst hy; exact hu
  · intro y hy
    simp at hy
    subst hy
    rfl
  · intro g cap w' q1 q2 _ _
    refine h g cap w' ?_ q2
    unfold BY
    rw [List.map_append, List.length_append]
    exact q1
/-- What is so behind a text. -/
def TextAs (T : Option (List UInt8 × List UInt8)) (b : Nat) (s : ByteArray) (f : Nat) (w : World) (e : Ending) (w' : World) : Prop :=
  match T with
  | some (x, r) => e = .returned (.string ⟨x.toArray⟩) ∧ RD w' b s (s.size - r.length) f ∧ OnlyB b w w'
  | none => e = .panicked [faultP 20 f] ∧ OnlyB b w w'
/-- How a text stands while it is read. -/
def InT (T : Option (List UInt8 × List UInt8)) (b : Nat) (s : ByteArray) (f : Nat) (w : World) (gk : Nat) (v : Value) (wr : World) : Prop :=
  ∃ (k : Nat) (acc : List UInt8), k ≤ s.size ∧ acc.length ≤ k ∧ gk = s.size + 1 - k ∧ pre acc (txtB (suf s k)) = T ∧ BY wr w.heap.size v acc ∧ RD wr b s k f ∧ OnlyB b w wr
set_option maxRecDepth 20000 in
theorem textP_as {w : World} {b : Nat} {s : ByteArray} {i f : Nat} (h : RD w b s i f) (hi : i < s.size) (hs : s.size ≤ 900000) : Calls Tryd.prog 42 #[.pointer (some ⟨b, 0, none⟩)] w fun e w' => TextAs (txtB (suf s (i + 1))) b s f w e w' := by
  obtain ⟨T, hT⟩ : ∃ T, txtB (suf s (i + 1)) = T := ⟨_, rfl⟩
  rw [hT]
  have HT := hidden hT
  have H := hidden h
  have hs1 : s.size ≤ 1000000 := by omega
  have hbw := h.lt
  clear hT h
  go_enter Tryd.func42, Tryd.ntmps42
  go_wp2_with (go_at_call 53; refine (next_yes H.out hi hs1).mono ?_; rintro e w5 ⟨rfl, hr, ho⟩; have R5 := hidden hr; have O5 := hidden ho; clear hr ho)
  go_loopg [3] (s.size + 1 - (i + 1)) (fun gk v wr => InT T b s f w gk v wr)
  case atStart => exact ⟨i + 1, [], by omega, by simp, rfl, by rw [pre_nil]; exact HT.out, BY.nil _ _, R5.out, O5.out⟩
  case round =>
    clear HT R5 O5 H
    obtain ⟨k, acc, k1, k2, k3, k4, k5, k6, k7⟩ := hrel
    obtain ⟨ao, cp, rfl⟩ := k5.slice
    have HP := hidden k4
    have HY := hidden k5
    have HR := hidden k6
    have HO := hidden k7
    have HG := hidden k3
    clear k3 k4 k5 k6 k7
    by_cases hlt : k < s.size
    · have e0 := suf_cons s hlt
      obtain ⟨c, hc⟩ : ∃ c, s[k] = c := ⟨_, rfl⟩
      rw [hc] at e0
      have l1 := suf_len s (k + 1)
      have HN := hidden (fun (w0 : World) (h0 : RD w0 b s k f) => next_yes h0 hlt hs1)
      rw [hc] at HN
      by_cases c1 : c = 34
      · have HO2 : Hid (T = some (acc, suf s (k + 1))) := by
          show _ = _
          rw [← HP.out, e0, c1, txt_mark]
        subst c1
        clear e0 l1 HP hc
        go_wp2_with (go_at_call 53; refine (HN.out _ HR.out).mono ?_; rintro e w6 ⟨rfl, hr, ho⟩; have R6 := hidden hr; have Y6 := (HY.out.only ho hbw).string; have O6 := hidden (HO.out.trans ho); clear hr ho)
        go_ret
        rw [HO2.out]
        exact ⟨rfl, by rw [suf_len, show s.size - (s.size - (k + 1)) = k + 1 by omega]; exact R6.out, O6.out⟩
      · have g1 : ((c.toNat : Int) == 34) = false := u8_ne (n := 34) (by decide) c1
        by_cases c2 : c = 92
        · rw [e0, c2] at HP
          cases hf : formB (suf s (k + 1)) with
          | none =>
            have HF := hidden hf
            have HO2 : Hid (T = none) := by show _ = _; rw [← HP.out, txt_noform acc hf]
            subst c2
            clear e0 l1 hf g1 c1 hc
            go_wp2_with (first
              | (go_at_call 58; refine (escaped_no R6.out (by omega) hs1 HF.out).mono ?_; rintro e w7 ⟨rfl, ho⟩; have O7 := hidden (O6.out.trans ho); clear ho)
              | (go_at_call 53; refine (HN.out _ HR.out).mono ?_; rintro e w6 ⟨rfl, hr, ho⟩; have R6 := hidden hr; have O6 := hidden (HO.out.trans ho); clear hr ho))
            refine And.intro rfl ?_
            rw [HO2.out]
            exact ⟨rfl, O7.out⟩
          | some q =>
            obtain ⟨d, r⟩ := q
            obtain ⟨r1, r2⟩ := suf_at (formB_suf hf) (by omega)
            have r3 := formB_len hf
            rw [l1] at r3
            have HF := hidden hf
            have HP2 : Hid (pre (acc ++ [d]) (txtB (suf s (s.size - r.length))) = T) := by
              show _ = _
              rw [← HP.out, txt_form acc hf, ← r1]
            subst c2
            clear e0 l1 hf g1 c1 hc r1
            go_upto_region 9 with (first
              | (go_at_call 58; refine (escaped_yes R6.out hs1 HF.out).mono ?_; rintro e w7 ⟨rfl, hr, ho⟩; have R7 := hidden hr; have Y7 := hidden (Y6.out.only ho hbw); have O7 := hidden (O6.out.trans ho); clear hr ho)
              | (go_at_call 53; refine (HN.out _ HR.out).mono ?_; rintro e w6 ⟨rfl, hr, ho⟩; have R6 := hidden hr; have Y6 := hidden (HY.out.only ho hbw); have O6 := hidden (HO.out.trans ho); clear hr ho))
            have hsz := O7.out.size
            go_wp2_with (at_builtin; refine append_u8 rfl (.tmp 18) (.tmp 20) rfl w.heap.size (.slice ao acc.length cp) acc rfl (World.ownsRow.alloc Y7.out _) w7.heap.size 1 d rfl (byte_new _ _ _) (by omega) (by rw [nblk_alloc]; omega) ?_; intro g6 c6 w8 hr6 gr6; have Y8 := hidden hr6; have R8 := hidden (rd_grown (R7.out.alloc _) gr6 (fun q hq => Nat.lt_of_lt_of_le hbw (own_ge Y7.out q hq))); have O8 := hidden (only_grown (O7.out.alloc _) gr6 (own_ge Y7.out)); clear hr6 gr6)
            go_roundg (s.size + 1 - (s.size - r.length))
            case rel => exact ⟨s.size - r.length, acc ++ [d], by omega, by simp; omega, rfl, HP2.out, Y8.out, R8.out, O8.out⟩
            case measure => rw [HG.out]; omega
        · have g2 : ((c.toNat : Int) == 92) = false := u8_ne (n := 92) (by decide) c2
          have HP2 : Hid (pre (acc ++ [c]) (txtB (suf s (k + 1))) = T) := by
            show _ = _
            rw [← HP.out, e0, txt_one _ acc c1 c2]
          clear e0 l1 c1 c2 hc
          go_upto_region 9 with (go_at_call 53; refine (HN.out _ HR.out).mono ?_; rintro e w7 ⟨rfl, hr, ho⟩; have R7 := hidden hr; have Y7 := hidden (HY.out.only ho hbw); have O7 := hidden (HO.out.trans ho); clear hr ho)
          have hsz := O7.out.size
          go_wp2_with (at_builtin; refine append_u8 rfl (.tmp 18) (.tmp 20) rfl w.heap.size (.slice ao acc.length cp) acc rfl (World.ownsRow.alloc Y7.out _) w7.heap.size 1 c rfl (byte_new _ _ _) (by omega) (by rw [nblk_alloc]; omega) ?_; intro g6 c6 w8 hr6 gr6; have Y8 := hidden hr6; have R8 := hidden (rd_grown (R7.out.alloc _) gr6 (fun q hq => Nat.lt_of_lt_of_le hbw (own_ge Y7.out q hq))); have O8 := hidden (only_grown (O7.out.alloc _) gr6 (own_ge Y7.out)); clear hr6 gr6)
          go_roundg (s.size + 1 - (k + 1))
          case rel => exact ⟨k + 1, acc ++ [c], by omega, by simp; omega, rfl, HP2.out, Y8.out, R8.out, O8.out⟩
          case measure => rw [HG.out]; omega
    · have hke : k = s.size := by omega
      have HKE := hidden hke
      have HO2 : Hid (T = none) := by
        show _ = _
        rw [← HP.out, suf_end hlt, txtB.eq_def]; rfl
      clear hke
      go_wp2_with (go_at_call 53; refine (next_no HR.out HKE.out hs1).mono ?_; rintro e w6 ⟨rfl, ho⟩; have O6 := hidden (HO.out.trans ho); clear ho)
      refine And.intro rfl ?_
      rw [HO2.out]
      exact ⟨rfl, O6.out⟩
end Go.Proofs.YtapecobalkjdhaaDoor
