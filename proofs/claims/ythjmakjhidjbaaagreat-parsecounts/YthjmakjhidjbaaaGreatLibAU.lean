/-
  Several small texts in one; each tells at its head what it proves, and on what condition.
-/
import Derived.Test.YthjmakjhidjbaaaGreatLibAT
import Derived.Laws.OwnMore
import Derived.Test.YthjmakjhidjbaaaGreatRows
import Derived.ProofKit
import Derived.OpenShut
import Derived.Test.YthjmakjhidjbaaaGreatPlain
import Derived.WalkLawsBesides

/-
 Layer 7, the program's reader: texts. Condition: the reader lies in memory.
-/
namespace Go.Proofs.YthjmakjhidjbaaaGreat
open Go.ChangeShapes Go.WideShapes Go.ChangeAt Go.RowKit Go.Deep
set_option linter.unusedVariables false
set_option maxHeartbeats 1000000
set_option maxRecDepth 20000

/-- Bytes in a row of the call's own, or none. -/
def BY (w : World) (B : Nat) (v : Value) (l : List UInt8) : Prop := w.ownsRow B 5 1 v l.length (l.map u8v)
section
variable {w w' : World} {B b : Nat} {v : Value} {l : List UInt8}
theorem own_only {e : TypeId} {size n : Nat} {xs : List Value} (h : w.ownsRow B e size v n xs) (k : OnlyB b w w') (hb : b < B) : w'.ownsRow B e size v n xs := by
 obtain ⟨h1, h2⟩ := h
 refine ⟨h1, h2.imp id ?_⟩
 rintro ⟨g, cap, cur, e1, e2, e3, e4⟩
 exact ⟨g, cap, cur, e1, e2, (k.block g (lt_of_some e3) (by intro (c : g = b); omega)).trans e3, e4⟩
theorem BY.only (h : BY w B v l) (k : OnlyB b w w') (hb : b < B) : BY w' B v l := own_only h k hb
theorem BY.nil (w : World) (B : Nat) : BY w B (.slice none 0 0) [] := ⟨rfl, Or.inl ⟨rfl, rfl⟩⟩
theorem BY.slice (h : BY w B v l) : ∃ ao c, v = .slice ao l.length c := by
 rcases h.2 with ⟨rfl, e⟩ | ⟨g, cap, cur, rfl, _⟩
 ·rw [e]; exact ⟨none, 0, rfl⟩
 ·exact ⟨_, cap, rfl⟩
theorem BY.string (h : BY w B v l) : Sem.run Tryz.prog (convert 76 9 v) w = .ok (.string ⟨l.toArray⟩) w := by
 rcases h.2 with ⟨rfl, e⟩ | ⟨g, cap, cur, rfl, _⟩
 ·have : l = [] := List.length_eq_zero_iff.1 e
  subst this
  rfl
 ·refine run_string l (fun i hi => ?_)
  have := World.ownsRow.cellAt h i (by omega)
  rw [this]
  simp [hi]
theorem only_grown {w1 w2 : World} {row : Option Nat} (h : OnlyB b w w1) (g : w1.grownBy w2 row) (hr : ∀ q, row = some q → w.heap.size ≤ q) : OnlyB b w w2 :=
 ⟨g.os.trans h.os, g.tape.trans h.tape, g.output.trans h.output, Nat.le_trans h.size g.size, fun k hk hs => (g.block k (Nat.lt_of_lt_of_le hk h.size) (fun e => by have := hr k e.symm; omega)).trans (h.block k hk hs)⟩
theorem rd_grown {w1 w2 : World} {row : Option Nat} {s : ByteArray} {i f : Nat} (h : RD w1 b s i f) (g : w1.grownBy w2 row) (hr : ∀ q, row = some q → b < q) : RD w2 b s i f :=
 (g.block b h.lt (fun e => by have := hr b e.symm; omega)).trans h
theorem own_ge {e : TypeId} {size n : Nat} {xs : List Value} (h : w.ownsRow B e size v n xs) : ∀ q, v.ownBlock = some q → B ≤ q := fun q hq => (h.lt q hq).1
end
theorem append_u8 {w : World} {ops : Array Oper} {rest : List Oper} {o : Oper} {a : Act} {Q : Exit → Act → World → Prop} (hgd : o.guard = none) (s x : Operand)
  (ho : o.op = .call { callee := .builtin .append, args := #[s, x], argTypes := #[76, 76] }) (B : Nat) (v : Value) (l : List UInt8) (hs : a.eval s = v) (hown : BY w B v l)
  (gx c : Nat) (b : UInt8) (hx : a.eval x = .slice (some ⟨gx, 0, none⟩) 1 c) (hu : w.cell? ⟨gx, 0, none⟩ = some (u8v b)) (hn : l.length < 1000000) (hB : B ≤ w.heap.size)
  (h : ∀ g cap w', BY w' B (.slice (some ⟨g, 0, none⟩) (l.length + 1) cap) (l ++ [b]) → w.grownBy w' v.ownBlock → wpList Tryz.prog ops Q rest (a.put o.dst (.slice (some ⟨g, 0, none⟩) (l.length + 1) cap)) w') : wpList Tryz.prog ops Q (o :: rest) a w := by
 obtain ⟨i0, hi, hz0, hz1, hz2⟩ := info_parts infoU8
 refine wpList_append_lies w hgd s x 76 ho B 5 i0 _ 1 1 Tryz.underlying76 hi hz0 hz1 hz2 rfl (by decide) v l.length (l.map u8v) hs hown ⟨gx, 0, none⟩ 1 c [u8v b] hx rfl ?_ ?_ (by omega) (by unfold maxLen; omega) (by omega) hB _ rfl ?_
 ·intro j y hy
  match j, hy with
  | 0, hy => simp at hy; subst hy; exact hu
 ·intro y hy
  simp at hy
  subst hy
  rfl
 ·intro g cap w' q1 q2 _ _
  refine h g cap w' ?_ q2
  unfold BY
  rw [List.map_append, List.length_append]
  exact q1
/-- What is so behind a text. -/
def TextAs (T : Option (List UInt8 × List UInt8)) (b : Nat) (s : ByteArray) (f : Nat) (w : World) (e : Ending) (w' : World) : Prop :=
 match T with
 | some (x, r) => e = .returned (.string ⟨x.toArray⟩) ∧ RD w' b s (s.size - r.length) f ∧ OnlyB b w w'
 | none => e = .panicked [faultP 20 f] ∧ OnlyB b w w'
/-- How a text stands while it is read. -/
def InT (T : Option (List UInt8 × List UInt8)) (b : Nat) (s : ByteArray) (f : Nat) (w : World) (gk : Nat) (v : Value) (wr : World) : Prop :=
 ∃ (k : Nat) (acc : List UInt8), k ≤ s.size ∧ acc.length ≤ k ∧ gk = s.size + 1 - k ∧ pre acc (txtB (suf s k)) = T ∧ BY wr w.heap.size v acc ∧ RD wr b s k f ∧ OnlyB b w wr
set_option maxRecDepth 20000 in
theorem textP_as {w : World} {b : Nat} {s : ByteArray} {i f : Nat} (h : RD w b s i f) (hi : i < s.size) (hs : s.size ≤ 900000) : Calls Tryz.prog 65 #[.pointer (some ⟨b, 0, none⟩)] w fun e w' => TextAs (txtB (suf s (i + 1))) b s f w e w' := by
 obtain ⟨T, hT⟩ : ∃ T, txtB (suf s (i + 1)) = T := ⟨_, rfl⟩
 rw [hT]
 have HT := hidden hT
 have H := hidden h
 have hs1 : s.size ≤ 1000000 := by omega
 have hbw := h.lt
 clear hT h
 go_enter Tryz.func65, Tryz.ntmps65
 go_wp2_with (go_at_call 85; refine (next_yes H.out hi hs1).mono ?_; rintro e w5 ⟨rfl, hr, ho⟩; have R5 := hidden hr; have O5 := hidden ho; clear hr ho)
 go_loopg [3] (s.size + 1 - (i + 1)) (fun gk v wr => InT T b s f w gk v wr)
 case atStart => exact ⟨i + 1, [], by omega, by simp, rfl, by rw [pre_nil]; exact HT.out, BY.nil _ _, R5.out, O5.out⟩
 case round =>
  clear HT R5 O5 H
  obtain ⟨k, acc, k1, k2, k3, k4, k5, k6, k7⟩ := hrel
  obtain ⟨ao, cp, rfl⟩ := k5.slice
  have HP := hidden k4
  have HY := hidden k5
  have HR := hidden k6
  have HO := hidden k7
  have HG := hidden k3
  clear k3 k4 k5 k6 k7
  by_cases hlt : k < s.size
  ·have e0 := suf_cons s hlt
   obtain ⟨c, hc⟩ : ∃ c, s[k] = c := ⟨_, rfl⟩
   rw [hc] at e0
   have l1 := suf_len s (k + 1)
   have HN := hidden (fun (w0 : World) (h0 : RD w0 b s k f) => next_yes h0 hlt hs1)
   rw [hc] at HN
   by_cases c1 : c = 34
   ·have HO2 : Hid (T = some (acc, suf s (k + 1))) := by
     show _ = _
     rw [← HP.out, e0, c1, txt_mark]
    subst c1
    clear e0 l1 HP hc
    go_wp2_with (go_at_call 85; refine (HN.out _ HR.out).mono ?_; rintro e w6 ⟨rfl, hr, ho⟩; have R6 := hidden hr; have Y6 := (HY.out.only ho hbw).string; have O6 := hidden (HO.out.trans ho); clear hr ho)
    go_ret
    rw [HO2.out]
    exact ⟨rfl, by rw [suf_len, show s.size - (s.size - (k + 1)) = k + 1 by omega]; exact R6.out, O6.out⟩
   ·have g1 : ((c.toNat : Int) == 34) = false := u8_ne (n := 34) (by decide) c1
    by_cases c2 : c = 92
    ·rw [e0, c2] at HP
     cases hf : formB (suf s (k + 1)) with
     | none =>
      have HF := hidden hf
      have HO2 : Hid (T = none) := by show _ = _; rw [← HP.out, txt_noform acc hf]
      subst c2
      clear e0 l1 hf g1 c1 hc
      go_wp2_with (first
       | (go_at_call 91; refine (escaped_no R6.out (by omega) hs1 HF.out).mono ?_; rintro e w7 ⟨rfl, ho⟩; have O7 := hidden (O6.out.trans ho); clear ho)
       | (go_at_call 85; refine (HN.out _ HR.out).mono ?_; rintro e w6 ⟨rfl, hr, ho⟩; have R6 := hidden hr; have O6 := hidden (HO.out.trans ho); clear hr ho))
      refine And.intro rfl ?_
      rw [HO2.out]
      exact ⟨rfl, O7.out⟩
     | some q =>
      obtain ⟨d, r⟩ := q
      obtain ⟨r1, r2⟩ := suf_at (formB_suf hf) (by omega)
      have r3 := formB_len hf
      rw [l1] at r3
      have HF := hidden hf
      have HP2 : Hid (pre (acc ++ [d]) (txtB (suf s (s.size - r.length))) = T) := by
       show _ = _
       rw [← HP.out, txt_form acc hf, ← r1]
      subst c2
      clear e0 l1 hf g1 c1 hc r1
      go_upto_region 9 with (first
       | (go_at_call 91; refine (escaped_yes R6.out hs1 HF.out).mono ?_; rintro e w7 ⟨rfl, hr, ho⟩; have R7 := hidden hr; have Y7 := hidden (Y6.out.only ho hbw); have O7 := hidden (O6.out.trans ho); clear hr ho)
       | (go_at_call 85; refine (HN.out _ HR.out).mono ?_; rintro e w6 ⟨rfl, hr, ho⟩; have R6 := hidden hr; have Y6 := hidden (HY.out.only ho hbw); have O6 := hidden (HO.out.trans ho); clear hr ho))
      have hsz := O7.out.size
      go_wp2_with (at_builtin; refine append_u8 rfl (.tmp 18) (.tmp 20) rfl w.heap.size (.slice ao acc.length cp) acc rfl (World.ownsRow.alloc Y7.out _) w7.heap.size 1 d rfl (byte_new _ _ _) (by omega) (by rw [nblk_alloc]; omega) ?_; intro g6 c6 w8 hr6 gr6; have Y8 := hidden hr6; have R8 := hidden (rd_grown (R7.out.alloc _) gr6 (fun q hq => Nat.lt_of_lt_of_le hbw (own_ge Y7.out q hq))); have O8 := hidden (only_grown (O7.out.alloc _) gr6 (own_ge Y7.out)); clear hr6 gr6)
      go_roundg (s.size + 1 - (s.size - r.length))
      case rel => exact ⟨s.size - r.length, acc ++ [d], by omega, by simp; omega, rfl, HP2.out, Y8.out, R8.out, O8.out⟩
      case measure => rw [HG.out]; omega
    ·have g2 : ((c.toNat : Int) == 92) = false := u8_ne (n := 92) (by decide) c2
     have HP2 : Hid (pre (acc ++ [c]) (txtB (suf s (k + 1))) = T) := by
      show _ = _
      rw [← HP.out, e0, txt_one _ acc c1 c2]
     clear e0 l1 c1 c2 hc
     go_upto_region 9 with (go_at_call 85; refine (HN.out _ HR.out).mono ?_; rintro e w7 ⟨rfl, hr, ho⟩; have R7 := hidden hr; have Y7 := hidden (HY.out.only ho hbw); have O7 := hidden (HO.out.trans ho); clear hr ho)
     have hsz := O7.out.size
     go_wp2_with (at_builtin; refine append_u8 rfl (.tmp 18) (.tmp 20) rfl w.heap.size (.slice ao acc.length cp) acc rfl (World.ownsRow.alloc Y7.out _) w7.heap.size 1 c rfl (byte_new _ _ _) (by omega) (by rw [nblk_alloc]; omega) ?_; intro g6 c6 w8 hr6 gr6; have Y8 := hidden hr6; have R8 := hidden (rd_grown (R7.out.alloc _) gr6 (fun q hq => Nat.lt_of_lt_of_le hbw (own_ge Y7.out q hq))); have O8 := hidden (only_grown (O7.out.alloc _) gr6 (own_ge Y7.out)); clear hr6 gr6)
     go_roundg (s.size + 1 - (k + 1))
     case rel => exact ⟨k + 1, acc ++ [c], by omega, by simp; omega, rfl, HP2.out, Y8.out, R8.out, O8.out⟩
     case measure => rw [HG.out]; omega
  ·have hke : k = s.size := by omega
   have HKE := hidden hke
   have HO2 : Hid (T = none) := by
    show _ = _
    rw [← HP.out, suf_end hlt, txtB.eq_def]; rfl
   clear hke
   go_wp2_with (go_at_call 85; refine (next_no HR.out HKE.out hs1).mono ?_; rintro e w6 ⟨rfl, ho⟩; have O6 := hidden (HO.out.trans ho); clear ho)
   refine And.intro rfl ?_
   rw [HO2.out]
   exact ⟨rfl, O6.out⟩
end Go.Proofs.YthjmakjhidjbaaaGreat

/-
 Layer 7, the program's words and signs. No condition.
-/
namespace Go.Proofs.YthjmakjhidjbaaaGreat
open Go.ChangeShapes Go.WideShapes Go.ChangeAt Go.RowKit Go.Deep
set_option linter.unusedVariables false
set_option linter.unusedSimpArgs false
set_option maxHeartbeats 4000000
set_option maxRecDepth 20000

theorem isWordP_any {b : Bool} (s : ByteArray) (w : World) (e : wordsL.contains s.data.toList = b) : Calls Tryz.prog 87 #[.string s] w fun e w' => e = .returned (.bool b) ∧ w' = w := by
 have HE := hidden e
 clear e
 go_enter Tryz.func87, Tryz.ntmps87
 go_wp2
 all_goals go_ret
 all_goals refine ⟨ret_bool ?_, rfl⟩
 all_goals rw [← HE.out, ← Go.ByteArray.toList_eq]
 all_goals clear HE
 all_goals first
  | (exfalso; rename_i h1 h2; rw [h1] at h2; cases h2; done)
  | simp only [wordsL, List.contains_cons, List.contains_nil, *, Bool.true_or, Bool.or_true, Bool.false_or, Bool.or_false]
theorem isSign_any {b : Bool} (s : ByteArray) (w : World) (e : signsL.contains s.data.toList = b) : Calls Tryz.prog 92 #[.string s] w fun e w' => e = .returned (.bool b) ∧ w' = w := by
 have HE := hidden e
 clear e
 go_enter Tryz.func92, Tryz.ntmps92
 go_wp2
 all_goals go_ret
 all_goals refine ⟨ret_bool ?_, rfl⟩
 all_goals rw [← HE.out, ← Go.ByteArray.toList_eq]
 all_goals clear HE
 all_goals first
  | (exfalso; rename_i h1 h2; rw [h1] at h2; cases h2; done)
  | simp only [signsL, List.contains_cons, List.contains_nil, *, Bool.true_or, Bool.or_true, Bool.false_or, Bool.or_false]
end Go.Proofs.YthjmakjhidjbaaaGreat

/-
 Layer 7, the program's reader: signs. Condition: the reader lies in memory.
-/
namespace Go.Proofs.YthjmakjhidjbaaaGreat
open Go.ChangeShapes Go.WideShapes Go.ChangeAt Go.RowKit Go.Deep
set_option linter.unusedVariables false
set_option maxHeartbeats 1000000

/-- The longest sign of n bytes at most that stands there. -/
def signFrom (l : List UInt8) : Nat → Option (List UInt8)
 | 0 => none
 | n + 1 => if signsL.contains (l.take (n + 1)) then some (l.take (n + 1)) else signFrom l n
theorem find_len (l : List UInt8) (n : Nat) : ∀ L : List (List UInt8), (∀ s, s ∈ L → s.length = n) → L.find? (fun s => s.isPrefixOf l) = if L.contains (l.take n) then some (l.take n) else none
 | [], _ => rfl
 | s :: L, h => by
  have hs := h s (List.mem_cons_self)
  have ih := find_len l n L (fun x hx => h x (List.mem_cons_of_mem _ hx))
  have e : s.isPrefixOf l = (l.take n == s) := by
   rw [Bool.eq_iff_iff, List.isPrefixOf_iff_prefix, List.prefix_iff_eq_take, hs, beq_iff_eq]
   exact eq_comm
  rw [List.find?_cons, e, List.contains_cons]
  cases c : (l.take n == s) with
  | true => simp only [Bool.true_or, if_true]; rw [beq_iff_eq.1 c]
  | false => simp only [Bool.false_or]; exact ih
def twoL : List (List UInt8) := signsL.take 13
def oneL : List (List UInt8) := signsL.drop 13
theorem signs_split : signsL = twoL ++ oneL := rfl
theorem two_len : ∀ s, s ∈ twoL → s.length = 2 := by decide
theorem one_len : ∀ s, s ∈ oneL → s.length = 1 := by decide
theorem contains_len {L : List (List UInt8)} {n : Nat} {x : List UInt8} (h : ∀ s, s ∈ L → s.length = n) (hx : x.length ≠ n) : L.contains x = false := by
 cases c : L.contains x with
 | false => rfl
 | true => exact absurd (h x (List.contains_iff_mem.1 c)) hx
theorem contains_app (A B : List (List UInt8)) (x : List UInt8) : (A ++ B).contains x = (A.contains x || B.contains x) := by
 rw [Bool.eq_iff_iff, Bool.or_eq_true, List.contains_iff_mem, List.contains_iff_mem, List.contains_iff_mem, List.mem_append]
theorem find_signs (l : List UInt8) : signsL.find? (fun s => s.isPrefixOf l) = signFrom l (min 2 l.length) := by
 rw [signs_split, List.find?_append, find_len l 2 twoL two_len, find_len l 1 oneL one_len]
 have k0 : ∀ x : List UInt8, x.length = 0 → twoL.contains x = false ∧ oneL.contains x = false := fun x hx => ⟨contains_len two_len (by omega), contains_len one_len (by omega)⟩
 have k1 : ∀ x : List UInt8, x.length = 1 → signsL.contains x = oneL.contains x := fun x hx => by rw [signs_split, contains_app, contains_len two_len (by omega), Bool.false_or]
 have k2 : ∀ x : List UInt8, x.length = 2 → signsL.contains x = twoL.contains x := fun x hx => by rw [signs_split, contains_app, contains_len one_len (by omega), Bool.or_false]
 rcases l with _ | ⟨a, _ | ⟨c, l⟩⟩
 ·rfl
 ·have e : min 2 ([a] : List UInt8).length = 1 := rfl
  rw [e]
  simp only [signFrom]
  rw [k1 (([a] : List UInt8).take (0 + 1)) rfl]
  have : twoL.contains (([a] : List UInt8).take 2) = false := contains_len two_len (by simp)
  rw [this]
  rfl
 ·have e : min 2 (a :: c :: l).length = 2 := by simp
  rw [e]
  simp only [signFrom]
  rw [k1 ((a :: c :: l).take (0 + 1)) rfl, k2 ((a :: c :: l).take (1 + 1)) rfl]
  cases h2 : twoL.contains ((a :: c :: l).take 2) with
  | true => rfl
  | false => rfl
theorem take_suf {s : ByteArray} {i n : Nat} (h : i + n ≤ s.size) : (s.extract i (i + n)).data.toList = (suf s i).take n := by
 rw [ext_suf (by omega) h, show i + n - i = n by omega]
/-- What is so behind a sign. -/
def SignAs (F : Option (List UInt8)) (b : Nat) (s : ByteArray) (i f : Nat) (w : World) (e : Ending) (w' : World) : Prop :=
 match F with
 | some x => e = .returned (.string ⟨x.toArray⟩) ∧ RD w' b s (i + x.length) f ∧ OnlyB b w w'
 | none => e = .panicked [faultP 20 f] ∧ OnlyB b w w'
set_option maxRecDepth 20000 in
theorem sign_as {w : World} {b : Nat} {s : ByteArray} {i f : Nat} (h : RD w b s i f) (hi : i ≤ s.size) (hs : s.size ≤ 1000000) : Calls Tryz.prog 66 #[.pointer (some ⟨b, 0, none⟩)] w fun e w' => SignAs (signsL.find? (fun x => x.isPrefixOf (suf s i))) b s i f w e w' := by
 rw [find_signs]
 obtain ⟨F, hF⟩ : ∃ F, signFrom (suf s i) (min 2 (suf s i).length) = F := ⟨_, rfl⟩
 rw [hF]
 rw [suf_len] at hF
 have HF := hidden hF
 have H := hidden h
 obtain ⟨c0, c1, c2, hf⟩ := h.cells
 have e1 := wrapId ((s.size : Int) - (i : Int)) (by omega) (by omega)
 obtain ⟨m, hm⟩ : ∃ m, min 2 (s.size - i) = m := ⟨_, rfl⟩
 rw [hm] at HF
 have m1 : m ≤ 2 := by omega
 have m2 : i + m ≤ s.size := by omega
 have hmin : ∀ w' : World, Sem.run Tryz.prog (Builtin.min_ #[3, 3] 3 #[.int .i64 2, .int .i64 ((s.size : Int) - (i : Int))]) w' = .ok (.int .i64 (m : Int)) w' := fun w' => by
  have e : Builtin.min_ #[3, 3] 3 #[.int .i64 2, .int .i64 ((s.size : Int) - (i : Int))] = pure (.int .i64 (if (s.size : Int) - (i : Int) < 2 then (s.size : Int) - (i : Int) else 2)) := rfl
  rw [e, Sem.run_pure]
  congr 2
  split <;> omega
 clear hF h hm
 go_enter Tryz.func66, Tryz.ntmps66
 go_wp2_with fail
 go_quiet (fail)
 go_wp2_with fail
 have H1 := hidden (H.out.drewN nq)
 have O1 := hidden ((Only.refl (fun k => k = b) w).drewN nq)
 clear c0 c1 c2 hf H hmin e1
 generalize w.drewN nq = w1 at *
 go_loopg [3] m (fun gk nv wr => ∃ n : Nat, gk = n ∧ nv = .int .i64 (n : Int) ∧ n ≤ 2 ∧ i + n ≤ s.size ∧ signFrom (suf s i) n = F ∧ RD wr b s i f ∧ OnlyB b w wr)
 case atStart => exact ⟨m, rfl, rfl, m1, m2, HF.out, H1.out, O1.out⟩
 case round =>
  clear HF H1 O1
  obtain ⟨n, rfl, rfl, n1, n2, n3, n4, n5⟩ := hrel
  have HF := hidden n3
  have HR := hidden n4
  have HO := hidden n5
  obtain ⟨c0, c1, c2, hf⟩ := n4.cells
  clear n3 n4 n5
  by_cases hz : gk = 0
  ·subst hz
   have HE : Hid (F = none) := HF.out.symm
   go_wp2_with (go_at_call 89; refine (giveUp_any 20 HR.out).mono ?_; rintro e w7 ⟨rfl, hw'⟩; rw [hw']; clear hw' w7)
   refine And.intro rfl ?_
   rw [HE.out]
   exact ⟨rfl, HO.out⟩
  ·obtain ⟨n, rfl⟩ : ∃ n, gk = n + 1 := ⟨gk - 1, by omega⟩
   have e1 := wrapId ((i : Int) + ((n + 1 : Nat) : Int)) (by omega) (by omega)
   have hsl : ∀ w', Sem.run Tryz.prog (Instr.slice 9 (.string s) (some (.int .i64 (i : Int))) (some (.int .i64 ((i : Int) + ((n + 1 : Nat) : Int)))) none) w' = .ok (.string (s.extract i (i + (n + 1)))) w' := fun w' => by
    rw [run_slice_string w' 9 s .i64 .i64 (i : Int) ((i : Int) + ((n + 1 : Nat) : Int)) Tryz.underlying9 (by omega) (by omega) (by omega)]
    rfl
   have hsl2 : ∀ w', Sem.run Tryz.prog (Instr.slice 9 (.string s) (some (.int .i64 (i : Int))) (some (.int .i64 ((i : Int) + ((n : Int) + 1)))) none) w' = .ok (.string (s.extract i (i + (n + 1)))) w' := hsl
   have zp : (0 : Int) < (n : Int) + 1 := by omega
   have hf2 := HF.out
   rw [signFrom] at hf2
   cases hc : signsL.contains ((suf s i).take (n + 1)) with
   | true =>
    rw [hc, if_pos rfl] at hf2
    have HE := hidden hf2
    have HC : Hid (signsL.contains (s.extract i (i + (n + 1))).data.toList = true) := by show _ = _; rw [take_suf n2]; exact hc
    have HL : Hid (((suf s i).take (n + 1)).length = n + 1) := by show _ = _; rw [List.length_take, suf_len]; omega
    have HX := hidden (ext_suf (s := s) (i := i) (k := i + (n + 1)) (by omega) n2)
    clear hf2 hc HF
    go_wp2_with fail
    go_quiet (fail)
    clear hsl hsl2
    have HR1 := hidden (HR.out.drewN nq)
    have HO1 := hidden (HO.out.drewN nq)
    obtain ⟨d0, d1, d2, df⟩ := HR1.out.cells
    clear c0 c1 c2 hf HR HO
    generalize wr.drewN nq = w2 at *
    go_wp2_with (go_at_call 92; refine (isSign_any _ _ HC.out).mono ?_; rintro e w7 ⟨rfl, hw'⟩; rw [hw']; clear hw' w7)
    go_ret
    rw [← HE.out]
    refine ⟨?_, ?_, HO1.out.setCell (a := ⟨b, 1, none⟩) (Or.inr rfl) _⟩
    ·rw [HX.out, show i + (n + 1) - i = n + 1 by omega]; rfl
    ·rw [HL.out]; exact HR1.out.to1 (by omega)
   | false =>
    rw [hc, if_neg (by decide)] at hf2
    have HE := hidden hf2
    have HC : Hid (signsL.contains (s.extract i (i + (n + 1))).data.toList = false) := by show _ = _; rw [take_suf n2]; exact hc
    clear hf2 hc HF
    go_wp2_with fail
    go_quiet (fail)
    clear hsl hsl2
    have HR1 := hidden (HR.out.drewN nq)
    have HO1 := hidden (HO.out.drewN nq)
    clear c0 c1 c2 hf HR HO
    generalize wr.drewN nq = w2 at *
    go_wp2_with (go_at_call 92; refine (isSign_any _ _ HC.out).mono ?_; rintro e w7 ⟨rfl, hw'⟩; rw [hw']; clear hw' w7)
    go_roundg n
    case rel => exact ⟨n, rfl, by go_num, by omega, by omega, HE.out, HR1.out, HO1.out⟩
    case measure => omega
end Go.Proofs.YthjmakjhidjbaaaGreat

/-
 What the functions of package word for numbers, addresses and headers return, and the document's own ones, each by its plain arithmetic; nothing in memory changes. Conditions: each argument fits its kind.
-/
namespace Go.Proofs.YthjmakjhidjbaaaGreat
open Go.ChangeShapes Go.WideShapes Go.ChangeAt Go.RowKit
set_option linter.unusedVariables false
set_option maxHeartbeats 400000

theorem int_any (n : Int) (w : World) (h : -9223372036854775808 ≤ n) (h' : n ≤ 9223372036854775807) :
  Calls Tryz.prog 104 #[.int .i64 n] w fun e w' => e = .returned (.int .u64 (intW n)) ∧ w' = w := by
 go_enter Tryz.func104, Tryz.ntmps104
 go_wp2
 go_ret
 exact ⟨ret_int (int_walk n), rfl⟩
theorem int_free (n : Int) (w : World) :
  Calls Tryz.prog 104 #[.int .i64 n] w fun e w' => e = .returned (.int .u64 (intW n)) ∧ w' = w := by
 go_enter Tryz.func104, Tryz.ntmps104
 go_wp2
 go_ret
 exact ⟨ret_int (int_walk n), rfl⟩
theorem num_any (x : Int) (w : World) (h : 0 ≤ x) (h' : x ≤ 18446744073709551615) :
  Calls Tryz.prog 90 #[.int .u64 x] w fun e w' => e = .returned (.int .i64 (numW x)) ∧ w' = w := by
 go_enter Tryz.func90, Tryz.ntmps90
 go_wp2
 go_ret
 exact ⟨ret_int (num_walk x h h'), rfl⟩
end Go.Proofs.YthjmakjhidjbaaaGreat

/-
 What package word's Parse returns, and what it leans on; nothing in memory changes. Condition: the text lies in memory.
-/
namespace Go.Proofs.YthjmakjhidjbaaaGreat
open Go.ChangeShapes Go.WideShapes Go.ChangeAt Go.RowKit
set_option linter.unusedVariables false
set_option maxHeartbeats 400000

theorem has_any (s : ByteArray) (w : World) (hs : s.size ≤ maxLen) :
  Calls Tryz.prog 103 #[.string s, .string ⟨#[45]⟩] w fun e w' => e = .returned (.bool (minusB s)) ∧ w' = w := by
 unfold maxLen at hs
 by_cases hz : s.size = 0
 ·have HV : Hid (minusB s = false) := decide_eq_false (by omega)
  go_enter Tryz.func103, Tryz.ntmps103
  go_wp2
  all_goals go_ret
  all_goals exact ⟨ret_bool HV.out.symm, rfl⟩
 ·have hz' : 1 ≤ s.size := by omega
  go_enter Tryz.func103, Tryz.ntmps103
  go_wp2
  all_goals go_ret
  all_goals exact ⟨ret_bool (first_is s hz'), rfl⟩
theorem trim_yes (s : ByteArray) (w : World) (hs : s.size ≤ maxLen) (hm : minusB s = true) :
  Calls Tryz.prog 105 #[.string s, .string ⟨#[45]⟩] w fun e w' => e = .returned (.string (s.extract 1 s.size)) ∧ w' = w := by
 have hs' := hs
 unfold maxLen at hs'
 have hz : 1 ≤ s.size := (of_decide_eq_true hm).1
 go_enter Tryz.func105, Tryz.ntmps105
 go_wp2_with (first | (go_at_call 103; refine (has_any _ _ hs).mono ?_; rintro e w' ⟨rfl, rfl⟩) | go_in)
 all_goals go_ret
 all_goals exact ⟨rfl, rfl⟩
theorem trim_no (s : ByteArray) (w : World) (hs : s.size ≤ maxLen) (hm : minusB s = false) :
  Calls Tryz.prog 105 #[.string s, .string ⟨#[45]⟩] w fun e w' => e = .returned (.string s) ∧ w' = w := by
 have hs' := hs
 unfold maxLen at hs'
 go_enter Tryz.func105, Tryz.ntmps105
 go_wp2_with (first | (go_at_call 103; refine (has_any _ _ hs).mono ?_; rintro e w' ⟨rfl, rfl⟩) | go_in)
 all_goals go_ret
 all_goals exact ⟨rfl, rfl⟩
theorem isCount_any (d : ByteArray) (w : World) (hs : d.size ≤ maxLen) :
  Calls Tryz.prog 106 #[.string d] w fun e w' => e = .returned (.bool (cntB d)) ∧ w' = w := by
 unfold maxLen at hs
 have hb := get_bt d
 go_enter Tryz.func106, Tryz.ntmps106
 go_wp2
 go_loop [3] (fun i => ∃ k : Nat, k ≤ d.size ∧ i = .int .i64 k ∧ allB d 0 k = true) (fun i => (d.size - intOf i).toNat)
 case atStart => exact ⟨0, by omega, rfl, rfl⟩
 case round =>
  obtain ⟨k, hk, rfl, ha⟩ := hrel
  have b1 := bt_lo d k
  have b2 := bt_hi d k
  have HA : Hid (allB d 0 k = true) := ha
  clear ha
  by_cases hlt : k < d.size
  ·by_cases c1 : bt d k < 48
   ·have HV : Hid (cntB d = false) := by
     show cntB d = false
     unfold cntB; rw [allB_bad d 0 k d.size hlt (by rw [Nat.zero_add]; omega)]; rfl
    go_wp2
    all_goals go_ret
    all_goals exact ⟨ret_bool HV.out.symm, rfl⟩
   ·by_cases c2 : 57 < bt d k
    ·have HV : Hid (cntB d = false) := by
      show cntB d = false
      unfold cntB; rw [allB_bad d 0 k d.size hlt (by rw [Nat.zero_add]; omega)]; rfl
     go_wp2
     all_goals go_ret
     all_goals exact ⟨ret_bool HV.out.symm, rfl⟩
    ·have HS : Hid (allB d 0 (k + 1) = true) := allB_step d 0 k HA.out (by rw [Nat.zero_add]; omega) (by rw [Nat.zero_add]; omega)
     go_wp2
     all_goals
      go_round
      case rel => exact ⟨k + 1, by omega, by go_num, HS.out⟩
      case measure => simp [intOf]; omega
  ·have hkm : k = d.size := by omega
   subst hkm
   clear hlt hk b1 b2
   by_cases hz : d.size = 0
   ·have hn := toList_none d hz
    have HV : Hid (cntB d = false) := by
     show cntB d = false
     unfold cntB; rw [decide_eq_false (by omega : ¬ 0 < d.size)]; simp
    go_wp2
    all_goals go_ret
    all_goals exact ⟨ret_bool HV.out.symm, rfl⟩
   ·have hn := toList_some d hz
    have he : d.toList.isEmpty = false := by simp [hn]
    have HV : Hid (cntB d = (bt d 0 != 48)) := by
     show cntB d = (bt d 0 != 48)
     unfold cntB; rw [decide_eq_true (by omega : 0 < d.size), HA.out]
     by_cases q : bt d 0 = 48
     ·simp [q]
     ·simp [q]
    go_wp2
    all_goals go_ret
    all_goals exact ⟨ret_bool HV.out.symm, rfl⟩
theorem count_far (d : ByteArray) (w : World) (hs : d.size ≤ maxLen) (hz : 19 < d.size) :
  Calls Tryz.prog 107 #[.string d] w fun e w' => e = .returned (.tuple #[.int .u64 0, .bool false]) ∧ w' = w := by
 unfold maxLen at hs
 go_enter Tryz.func107, Tryz.ntmps107
 go_wp2
 all_goals go_ret2
 all_goals exact ⟨rfl, rfl⟩
theorem count_near (d : ByteArray) (w : World) (hz : d.size ≤ 19) (ha : allB d 0 d.size = true) :
  Calls Tryz.prog 107 #[.string d] w fun e w' => e = .returned (.tuple #[.int .u64 (val d 0 d.size), .bool (decide (val d 0 d.size ≤ 4611686018427387904))]) ∧ w' = w := by
 have hb := get_bt d
 have HA : Hid (allB d 0 d.size = true) := ha
 clear ha
 go_enter Tryz.func107, Tryz.ntmps107
 go_wp2
 go_loop [4, 5] (fun n i => ∃ k : Nat, k ≤ d.size ∧ i = .int .i64 k ∧ n = .int .u64 (val d 0 k)) (fun _ i => (d.size - intOf i).toNat)
 case atStart => exact ⟨0, by omega, rfl, rfl⟩
 case round =>
  obtain ⟨k, hk, rfl, rfl⟩ := hrel
  have v1 := val_nonneg d 0 k (allB_le d 0 _ HA.out k hk)
  by_cases hlt : k < d.size
  ·have b0 := allB_at d 0 _ HA.out k hlt
   rw [Nat.zero_add] at b0
   obtain ⟨b1, b2⟩ := b0
   have v2 : val d 0 k ≤ 999999999999999999 := val_small d 0 k (by omega) (allB_le d 0 _ HA.out k hk)
   have HS : Hid (val d 0 (k + 1) = val d 0 k * 10 + (bt d k - 48)) := by
    show val d 0 (k + 1) = val d 0 k * 10 + (bt d k - 48)
    rw [val, Nat.zero_add]
   go_wp2
   all_goals
    go_round
    case rel => exact ⟨k + 1, by omega, by go_num, by rw [HS.out]⟩
    case measure => simp [intOf]; omega
  ·have hkm : k = d.size := by omega
   subst hkm
   go_wp2
   all_goals go_ret2
   all_goals exact ⟨rfl, rfl⟩
theorem trim_at (s d : ByteArray) (w : World) (hs : s.size ≤ maxLen) (hm : minusB s = true) (hd : d = s.extract 1 s.size) :
  Calls Tryz.prog 105 #[.string s, .string ⟨#[45]⟩] w fun e w' => e = .returned (.string d) ∧ w' = w := by
 rw [hd]; exact trim_yes s w hs hm
theorem parse_minus (s d : ByteArray) (w : World) (hs : s.size ≤ maxLen) (hm : minusB s = true) (HD : Hid (d = s.extract 1 s.size)) :
  Calls Tryz.prog 88 #[.string s] w fun e w' => e = .returned (.tuple #[.int .u64 (outV d true), .int .i64 (outE d true)]) ∧ w' = w := by
 have hl : d.size < s.size := by
  have h1 := (of_decide_eq_true hm).1
  have h2 := size_tail s
  rw [← HD.out] at h2
  omega
 have hds : d.size ≤ maxLen := by omega
 have hz : (s.toList == [48]) = false := by
  rw [nought_is, decide_eq_false_iff_not]
  have h1 := (of_decide_eq_true hm).2
  omega
 have hs2 := hs
 unfold maxLen at hs2
 cases hc : cntB d
 ·have HV : Hid (outV d true = 0) := if_neg (fun q => by rw [hc] at q; exact absurd q.1 (by simp))
  have HE : Hid (outE d true = 5) := if_neg (by rw [hc]; simp)
  go_enter Tryz.func88, Tryz.ntmps88
  go_wp2_with (first | (go_at_call 105; refine (trim_at s d _ hs hm HD.out).mono ?_; rintro e w' ⟨rfl, rfl⟩) | (go_at_call 106; refine (isCount_any d _ hds).mono ?_; rintro e w' ⟨rfl, rfl⟩))
  all_goals go_ret2
  all_goals exact ⟨ret_two HV.out.symm HE.out.symm, rfl⟩
 ·have HA : Hid (allB d 0 d.size = true) := (cnt_all d hc).1
  have v0 := val_nonneg d 0 _ HA.out
  by_cases hfar : 19 < d.size
  ·have big := val_far d 0 _ HA.out (cnt_all d hc).2 (by omega)
   have HV : Hid (outV d true = 0) := if_neg (fun q => q.2 (Or.inl big))
   have HE : Hid (outE d true = 2) := by
    show outE d true = 2
    unfold outE; rw [if_pos hc, if_pos (Or.inl big)]
   clear big v0
   go_enter Tryz.func88, Tryz.ntmps88
   go_wp2_with (first | (go_at_call 105; refine (trim_at s d _ hs hm HD.out).mono ?_; rintro e w' ⟨rfl, rfl⟩) | (go_at_call 106; refine (isCount_any d _ hds).mono ?_; rintro e w' ⟨rfl, rfl⟩) | (go_at_call 107; refine (count_far d _ hds hfar).mono ?_; rintro e w' ⟨rfl, rfl⟩))
   all_goals go_ret2
   all_goals exact ⟨ret_two HV.out.symm HE.out.symm, rfl⟩
  ·have hnear : d.size ≤ 19 := by omega
   clear hfar
   by_cases big : 4611686018427387904 < val d 0 d.size
   ·have HV : Hid (outV d true = 0) := if_neg (fun q => q.2 (Or.inl big))
    have HE : Hid (outE d true = 2) := by
     show outE d true = 2
     unfold outE; rw [if_pos hc, if_pos (Or.inl big)]
    go_enter Tryz.func88, Tryz.ntmps88
    go_wp2_with (first | (go_at_call 105; refine (trim_at s d _ hs hm HD.out).mono ?_; rintro e w' ⟨rfl, rfl⟩) | (go_at_call 106; refine (isCount_any d _ hds).mono ?_; rintro e w' ⟨rfl, rfl⟩) | (go_at_call 107; refine (count_near d _ hnear HA.out).mono ?_; rintro e w' ⟨rfl, rfl⟩))
    all_goals go_ret2
    all_goals exact ⟨ret_two HV.out.symm HE.out.symm, rfl⟩
   ·by_cases eq : val d 0 d.size = 4611686018427387904
    ·have eq1 : (val d 0 d.size == 4611686018427387904) = true := by rw [beq_iff_eq]; exact eq
     have HV : Hid (outV d true = intW (-val d 0 d.size)) := by
      show outV d true = intW (-val d 0 d.size)
      unfold outV; rw [if_pos ⟨hc, by simp; omega⟩]; rfl
     have HE : Hid (outE d true = 0) := by
      show outE d true = 0
      unfold outE; rw [if_pos hc, if_neg (by simp; omega)]
     clear eq
     go_enter Tryz.func88, Tryz.ntmps88
     go_wp2_with (first | (go_at_call 105; refine (trim_at s d _ hs hm HD.out).mono ?_; rintro e w' ⟨rfl, rfl⟩) | (go_at_call 106; refine (isCount_any d _ hds).mono ?_; rintro e w' ⟨rfl, rfl⟩) | (go_at_call 107; refine (count_near d _ hnear HA.out).mono ?_; rintro e w' ⟨rfl, rfl⟩) | (go_at_call 104; refine (int_free _ _).mono ?_; rintro e w' ⟨rfl, rfl⟩))
     all_goals go_ret2
     all_goals exact ⟨ret_two HV.out.symm HE.out.symm, rfl⟩
    ·have eq1 : (val d 0 d.size == 4611686018427387904) = false := by rw [beq_eq_false_iff_ne]; exact eq
     have HV : Hid (outV d true = intW (-val d 0 d.size)) := by
      show outV d true = intW (-val d 0 d.size)
      unfold outV; rw [if_pos ⟨hc, by simp; omega⟩]; rfl
     have HE : Hid (outE d true = 0) := by
      show outE d true = 0
      unfold outE; rw [if_pos hc, if_neg (by simp; omega)]
     clear eq
     go_enter Tryz.func88, Tryz.ntmps88
     go_wp2_with (first | (go_at_call 105; refine (trim_at s d _ hs hm HD.out).mono ?_; rintro e w' ⟨rfl, rfl⟩) | (go_at_call 106; refine (isCount_any d _ hds).mono ?_; rintro e w' ⟨rfl, rfl⟩) | (go_at_call 107; refine (count_near d _ hnear HA.out).mono ?_; rintro e w' ⟨rfl, rfl⟩) | (go_at_call 104; refine (int_free _ _).mono ?_; rintro e w' ⟨rfl, rfl⟩))
     all_goals go_ret2
     all_goals exact ⟨ret_two HV.out.symm HE.out.symm, rfl⟩
theorem parse_plain (s : ByteArray) (w : World) (hs : s.size ≤ maxLen) (hm : minusB s = false) (hz : (s.toList == [48]) = false) :
  Calls Tryz.prog 88 #[.string s] w fun e w' => e = .returned (.tuple #[.int .u64 (outV s false), .int .i64 (outE s false)]) ∧ w' = w := by
 have hs2 := hs
 unfold maxLen at hs2
 cases hc : cntB s
 ·have HV : Hid (outV s false = 0) := if_neg (fun q => by rw [hc] at q; exact absurd q.1 (by simp))
  have HE : Hid (outE s false = 5) := if_neg (by rw [hc]; simp)
  go_enter Tryz.func88, Tryz.ntmps88
  go_wp2_with (first | (go_at_call 105; refine (trim_no s _ hs hm).mono ?_; rintro e w' ⟨rfl, rfl⟩) | (go_at_call 106; refine (isCount_any s _ hs).mono ?_; rintro e w' ⟨rfl, rfl⟩))
  all_goals go_ret2
  all_goals exact ⟨ret_two HV.out.symm HE.out.symm, rfl⟩
 ·have HA : Hid (allB s 0 s.size = true) := (cnt_all s hc).1
  have v0 := val_nonneg s 0 _ HA.out
  by_cases hfar : 19 < s.size
  ·have big := val_far s 0 _ HA.out (cnt_all s hc).2 (by omega)
   have HV : Hid (outV s false = 0) := if_neg (fun q => q.2 (Or.inl big))
   have HE : Hid (outE s false = 2) := by
    show outE s false = 2
    unfold outE; rw [if_pos hc, if_pos (Or.inl big)]
   clear big v0
   go_enter Tryz.func88, Tryz.ntmps88
   go_wp2_with (first | (go_at_call 105; refine (trim_no s _ hs hm).mono ?_; rintro e w' ⟨rfl, rfl⟩) | (go_at_call 106; refine (isCount_any s _ hs).mono ?_; rintro e w' ⟨rfl, rfl⟩) | (go_at_call 107; refine (count_far s _ hs hfar).mono ?_; rintro e w' ⟨rfl, rfl⟩))
   all_goals go_ret2
   all_goals exact ⟨ret_two HV.out.symm HE.out.symm, rfl⟩
  ·have hnear : s.size ≤ 19 := by omega
   clear hfar
   by_cases big : 4611686018427387904 < val s 0 s.size
   ·have HV : Hid (outV s false = 0) := if_neg (fun q => q.2 (Or.inl big))
    have HE : Hid (outE s false = 2) := by
     show outE s false = 2
     unfold outE; rw [if_pos hc, if_pos (Or.inl big)]
    go_enter Tryz.func88, Tryz.ntmps88
    go_wp2_with (first | (go_at_call 105; refine (trim_no s _ hs hm).mono ?_; rintro e w' ⟨rfl, rfl⟩) | (go_at_call 106; refine (isCount_any s _ hs).mono ?_; rintro e w' ⟨rfl, rfl⟩) | (go_at_call 107; refine (count_near s _ hnear HA.out).mono ?_; rintro e w' ⟨rfl, rfl⟩))
    all_goals go_ret2
    all_goals exact ⟨ret_two HV.out.symm HE.out.symm, rfl⟩
   ·by_cases eq : val s 0 s.size = 4611686018427387904
    ·have eq1 : (val s 0 s.size == 4611686018427387904) = true := by rw [beq_iff_eq]; exact eq
     have HV : Hid (outV s false = 0) := if_neg (fun q => q.2 (Or.inr ⟨eq, rfl⟩))
     have HE : Hid (outE s false = 2) := by
      show outE s false = 2
      unfold outE; rw [if_pos hc, if_pos (Or.inr ⟨eq, rfl⟩)]
     clear eq
     go_enter Tryz.func88, Tryz.ntmps88
     go_wp2_with (first | (go_at_call 105; refine (trim_no s _ hs hm).mono ?_; rintro e w' ⟨rfl, rfl⟩) | (go_at_call 106; refine (isCount_any s _ hs).mono ?_; rintro e w' ⟨rfl, rfl⟩) | (go_at_call 107; refine (count_near s _ hnear HA.out).mono ?_; rintro e w' ⟨rfl, rfl⟩))
     all_goals go_ret2
     all_goals exact ⟨ret_two HV.out.symm HE.out.symm, rfl⟩
    ·have eq1 : (val s 0 s.size == 4611686018427387904) = false := by rw [beq_eq_false_iff_ne]; exact eq
     have HV : Hid (outV s false = intW (val s 0 s.size)) := by
      show outV s false = intW (val s 0 s.size)
      unfold outV; rw [if_pos ⟨hc, by simp; omega⟩]; rfl
     have HE : Hid (outE s false = 0) := by
      show outE s false = 0
      unfold outE; rw [if_pos hc, if_neg (by simp; omega)]
     clear eq
     go_enter Tryz.func88, Tryz.ntmps88
     go_wp2_with (first | (go_at_call 105; refine (trim_no s _ hs hm).mono ?_; rintro e w' ⟨rfl, rfl⟩) | (go_at_call 106; refine (isCount_any s _ hs).mono ?_; rintro e w' ⟨rfl, rfl⟩) | (go_at_call 107; refine (count_near s _ hnear HA.out).mono ?_; rintro e w' ⟨rfl, rfl⟩) | (go_at_call 104; refine (int_free _ _).mono ?_; rintro e w' ⟨rfl, rfl⟩))
     all_goals go_ret2
     all_goals exact ⟨ret_two HV.out.symm HE.out.symm, rfl⟩
theorem parse_nought (s : ByteArray) (w : World) (hs : s.size ≤ maxLen) (hz : (s.toList == [48]) = true) :
  Calls Tryz.prog 88 #[.string s] w fun e w' => e = .returned (.tuple #[.int .u64 (intW 0), .int .i64 0]) ∧ w' = w := by
 have hs2 := hs
 unfold maxLen at hs2
 go_enter Tryz.func88, Tryz.ntmps88
 go_wp2_with (go_at_call 104; refine (int_free _ _).mono ?_; rintro e w' ⟨rfl, rfl⟩)
 all_goals go_ret2
 all_goals exact ⟨rfl, rfl⟩
theorem parse_any (s : ByteArray) (w : World) (hs : s.size ≤ maxLen) :
  Calls Tryz.prog 88 #[.string s] w fun e w' => e = .returned (.tuple #[.int .u64 (parV s), .int .i64 (parE s)]) ∧ w' = w := by
 by_cases z : s.size = 1 ∧ bt s 0 = 48
 ·obtain ⟨e1, e2⟩ := out_nought s z.1 z.2
  rw [e1, e2]
  exact parse_nought s w hs (by rw [nought_is]; exact decide_eq_true z)
 ·cases hm : minusB s
  ·obtain ⟨e1, e2⟩ := out_whole s hm z
   rw [e1, e2]
   exact parse_plain s w hs hm (by rw [nought_is]; exact decide_eq_false z)
  ·obtain ⟨e1, e2⟩ := out_tail s hm
   rw [e1, e2]
   exact parse_minus s _ w hs hm rfl
end Go.Proofs.YthjmakjhidjbaaaGreat

/-
 Layer 7, the program's reader: numbers, and which kind a name is. Condition: the reader lies in memory.
-/
namespace Go.Proofs.YthjmakjhidjbaaaGreat
open Go.ChangeShapes Go.WideShapes Go.ChangeAt Go.RowKit Go.Deep
set_option linter.unusedVariables false
set_option maxHeartbeats 1000000

theorem parV_rng (s : ByteArray) : 0 ≤ parV s ∧ parV s ≤ 18446744073709551615 := by
 unfold parV parVAt
 split <;> split <;> first | exact ⟨intW_lo _, intW_hi _⟩ | decide
theorem parE_cases (s : ByteArray) : parE s = 0 ∨ parE s = 2 ∨ parE s = 5 := by
 unfold parE parEAt
 split <;> split <;> (try split) <;> simp
/-- What is so behind a number. -/
def NumAs (l : List UInt8) (j : Nat) (b : Nat) (s : ByteArray) (i : Nat) (w : World) (e : Ending) (w' : World) : Prop :=
 (parE ⟨l.toArray⟩ = 0 → e = .returned (.int .i64 (numW (parV ⟨l.toArray⟩))) ∧ RD w' b s j i ∧ OnlyB b w w') ∧
 (parE ⟨l.toArray⟩ = 2 → e = .panicked [faultP 2 i] ∧ OnlyB b w w') ∧
 (parE ⟨l.toArray⟩ = 5 → e = .panicked [faultP 20 i] ∧ OnlyB b w w')
theorem number_as {w : World} {b : Nat} {s : ByteArray} {i : Nat} (h : RD w b s i i) (hi : i ≤ s.size) (hs : s.size ≤ 1000000) : Calls Tryz.prog 64 #[.pointer (some ⟨b, 0, none⟩)] w fun e w' => NumAs ((suf s i).takeWhile nameB) (s.size - ((suf s i).dropWhile nameB).length) b s i w e w' := by
 have H := hidden h
 have HN := hidden (name_any h hi hs)
 obtain ⟨l, hl⟩ : ∃ l, (suf s i).takeWhile nameB = l := ⟨_, rfl⟩
 have hlen : l.length ≤ s.size := by
  rw [← hl]
  have := (List.takeWhile_prefix nameB (l := suf s i)).length_le
  rw [suf_len] at this
  omega
 rw [hl] at HN ⊢
 generalize s.size - ((suf s i).dropWhile nameB).length = j at *
 clear hl h
 have HP := hidden (fun w => parse_any ⟨l.toArray⟩ w (by show l.length ≤ _; unfold maxLen; omega))
 obtain ⟨p1, p2⟩ := parV_rng ⟨l.toArray⟩
 have hc := parE_cases ⟨l.toArray⟩
 obtain ⟨q, hq⟩ : ∃ q, parE ⟨l.toArray⟩ = q := ⟨_, rfl⟩
 unfold NumAs
 rw [hq] at HP hc ⊢
 generalize parV ⟨l.toArray⟩ = v at *
 clear hq
 rcases hc with rfl | rfl | rfl
 ·go_enter Tryz.func64, Tryz.ntmps64
  go_wp2_with (first
   | (go_at_call 61; refine HN.out.mono ?_; rintro e w5 ⟨rfl, hr, ho⟩; have R5 := hidden hr; have O5 := hidden ho; clear hr ho)
   | (go_at_call 88; refine (HP.out _).mono ?_; rintro e w6 ⟨rfl, hw'⟩; rw [hw']; clear hw' w6)
   | (go_at_call 90; refine (num_any v _ p1 p2).mono ?_; rintro e w6 ⟨rfl, hw'⟩; rw [hw']; clear hw' w6))
  go_ret
  exact ⟨fun _ => ⟨rfl, R5.out, O5.out⟩, fun c => absurd c (by decide), fun c => absurd c (by decide)⟩
 ·go_enter Tryz.func64, Tryz.ntmps64
  go_wp2_with (first
   | (go_at_call 89; refine (giveUp_any 2 R5.out).mono ?_; rintro e w6 ⟨rfl, hw'⟩; rw [hw']; clear hw' w6)
   | (go_at_call 61; refine HN.out.mono ?_; rintro e w5 ⟨rfl, hr, ho⟩; have R5 := hidden hr; have O5 := hidden ho; clear hr ho)
   | (go_at_call 88; refine (HP.out _).mono ?_; rintro e w6 ⟨rfl, hw'⟩; rw [hw']; clear hw' w6))
  exact And.intro rfl ⟨fun c => absurd c (by decide), fun _ => ⟨rfl, O5.out⟩, fun c => absurd c (by decide)⟩
 ·go_enter Tryz.func64, Tryz.ntmps64
  go_wp2_with (first
   | (go_at_call 89; refine (giveUp_any 20 R5.out).mono ?_; rintro e w6 ⟨rfl, hw'⟩; rw [hw']; clear hw' w6)
   | (go_at_call 61; refine HN.out.mono ?_; rintro e w5 ⟨rfl, hr, ho⟩; have R5 := hidden hr; have O5 := hidden ho; clear hr ho)
   | (go_at_call 88; refine (HP.out _).mono ?_; rintro e w6 ⟨rfl, hw'⟩; rw [hw']; clear hw' w6))
  exact And.intro rfl ⟨fun c => absurd c (by decide), fun c => absurd c (by decide), fun _ => ⟨rfl, O5.out⟩⟩
/-- Which kind a name is. -/
def kindL (l : List UInt8) : Int := if greatB (l.headD 0) then 4 else if docW.word l || l == [95] then 5 else 3
theorem kindOf_any (l : List UInt8) (w : World) (hl : l ≠ []) (hz : l.length ≤ 1000000) : Calls Tryz.prog 62 #[.string ⟨l.toArray⟩] w fun e w' => e = .returned (.int .i64 (kindL l)) ∧ w' = w := by
 obtain ⟨c, t, rfl⟩ : ∃ c t, l = c :: t := by
  cases l with
  | nil => exact absurd rfl hl
  | cons c t => exact ⟨c, t, rfl⟩
 unfold kindL
 have hsz : (⟨(c :: t).toArray⟩ : ByteArray).size = t.length + 1 := rfl
 have hg : (⟨(c :: t).toArray⟩ : ByteArray)[0] = c := rfl
 have hd : (c :: t).headD 0 = c := rfl
 rw [hd]
 obtain ⟨s, hs⟩ : ∃ s : ByteArray, s = ⟨(c :: t).toArray⟩ := ⟨_, rfl⟩
 have hdata : s.data.toList = c :: t := by rw [hs]
 have h0 : 0 < s.size := by rw [hs]; exact Nat.succ_pos _
 have hidx : s[0] = c := by subst hs; rfl
 rw [← hs]
 have e95 : ((c :: t) == [95]) = (s.toList == [95]) := by rw [Go.ByteArray.toList_eq, hdata]
 rw [e95]
 have hw : docW.word (c :: t) = wordsL.contains s.data.toList := by rw [hdata]; rfl
 rw [hw]
 clear e95 hw hdata hd hg hsz hl hz
 have z0 : (0 : Int) < (s.size : Int) := by omega
 cases g : greatB c with
 | true =>
  have HG : Hid (greatB s[0] = true) := by show _ = _; rw [hidx]; exact g
  clear hs hidx
  go_enter Tryz.func62, Tryz.ntmps62
  go_wp2_with (go_at_call 60; refine (isGreat_any _ _ HG.out).mono ?_; rintro e w6 ⟨rfl, hw'⟩; rw [hw']; clear hw' w6)
  go_ret
  exact ⟨rfl, rfl⟩
 | false =>
  have HG : Hid (greatB s[0] = false) := by show _ = _; rw [hidx]; exact g
  clear hs hidx
  cases hv : wordsL.contains s.data.toList with
  | true =>
   have HV := hidden hv
   clear hv
   go_enter Tryz.func62, Tryz.ntmps62
   go_wp2_with (first
    | (go_at_call 60; refine (isGreat_any _ _ HG.out).mono ?_; rintro e w6 ⟨rfl, hw'⟩; rw [hw']; clear hw' w6)
    | (go_at_call 87; refine (isWordP_any _ _ HV.out).mono ?_; rintro e w6 ⟨rfl, hw'⟩; rw [hw']; clear hw' w6))
   go_ret
   exact ⟨rfl, rfl⟩
  | false =>
   have HV := hidden hv
   clear hv
   cases h9 : (s.toList == [95]) with
   | true =>
    go_enter Tryz.func62, Tryz.ntmps62
    go_wp2_with (first
     | (go_at_call 60; refine (isGreat_any _ _ HG.out).mono ?_; rintro e w6 ⟨rfl, hw'⟩; rw [hw']; clear hw' w6)
     | (go_at_call 87; refine (isWordP_any _ _ HV.out).mono ?_; rintro e w6 ⟨rfl, hw'⟩; rw [hw']; clear hw' w6))
    go_ret
    exact ⟨rfl, rfl⟩
   | false =>
    go_enter Tryz.func62, Tryz.ntmps62
    go_wp2_with (first
     | (go_at_call 60; refine (isGreat_any _ _ HG.out).mono ?_; rintro e w6 ⟨rfl, hw'⟩; rw [hw']; clear hw' w6)
     | (go_at_call 87; refine (isWordP_any _ _ HV.out).mono ?_; rintro e w6 ⟨rfl, hw'⟩; rw [hw']; clear hw' w6))
    go_ret
    exact ⟨rfl, rfl⟩
end Go.Proofs.YthjmakjhidjbaaaGreat
