/-
  Several small texts in one; each tells at its head what it proves, and on what condition.
-/
import Derived.Test.YthjmakjhidjbaaaGreatX7Back
import Derived.Test.YthjmakjhidjbaaaGreatLibAA

/-
 Layer 7, plain: a token's text is read as this token; so are all of them, with a blank behind each. No program is named.
-/
namespace Go.Proofs.YthjmakjhidjbaaaGreat
set_option linter.unusedVariables false
set_option maxHeartbeats 1000000

variable {W : LexW} {dig : Int → List UInt8}
/-- The language's signs and numbers as they must be. -/
structure LexOk (W : LexW) (dig : Int → List UInt8) : Prop where
 signs : SignsOk W
 self : ∀ s, s ∈ W.signs → W.signs.find? (fun q => q.isPrefixOf s) = some s
 noC : ∀ s, s ∈ W.signs → ∀ x, s ≠ 40 :: 42 :: x
 num : ∀ w, (W.num w).2 = 0 → dig (W.num w).1 = w
/-- A token's text. -/
def textT (dig : Int → List UInt8) (t : Tk) : List UInt8 := if t.kind = 1 then dig t.N else if t.kind = 0 then [] else if t.kind = 2 then 34 :: escT t.S ++ [34] else t.S
theorem take_all {z : List UInt8} (hz : GapZ z) : ∀ w : List UInt8, (∀ c, c ∈ w → nameB c = true) → (w ++ z).takeWhile nameB = w ∧ (w ++ z).dropWhile nameB = z := by
 intro w hw
 obtain ⟨h1, h2⟩ := take_gap hz w
 have e1 : ∀ w : List UInt8, (∀ c, c ∈ w → nameB c = true) → w.takeWhile nameB = w ∧ w.dropWhile nameB = [] := by
  intro w
  induction w with
  | nil => intro _; exact ⟨rfl, rfl⟩
  | cons a w ih =>
   intro hw
   obtain ⟨i1, i2⟩ := ih (fun c hc => hw c (List.mem_cons_of_mem _ hc))
   have ha := hw a List.mem_cons_self
   rw [List.takeWhile_cons, List.dropWhile_cons, if_pos ha, if_pos ha, i1, i2]
   exact ⟨rfl, rfl⟩
 rw [h1, h2, (e1 w hw).1, (e1 w hw).2]
 exact ⟨rfl, rfl⟩
theorem take_names (l : List UInt8) : ∀ c, c ∈ l.takeWhile nameB → nameB c = true := fun c hc => List.all_eq_true.1 (List.all_takeWhile (p := nameB) (l := l)) c hc
/-- A token's text, a blank behind it, is read as that token. -/
theorem tok_back (hW : LexOk W dig) {l r : List UInt8} {t : Tk} (h : tokAt W l = .ok (t, r)) (q : List UInt8) : tokAt W (textT dig t ++ 32 :: q) = .ok (t, 32 :: q) ∧ (∀ c x, textT dig t ++ 32 :: q = c :: x → blankB c = false) ∧ (∀ x, textT dig t ++ 32 :: q ≠ 40 :: 42 :: x) := by
 have hz : GapZ (32 :: q) := fun c x e => by cases e; rfl
 cases l with
 | nil => cases h
 | cons c x =>
  have hname : nameB c = true → blankB c = false := fun hc => by
   cases hb : blankB c with
   | false => rfl
   | true => rw [blank_name hb] at hc; cases hc
  have hhead : nameB c = true → ∃ w', (c :: x).takeWhile nameB = c :: w' := fun hc => ⟨x.takeWhile nameB, by rw [List.takeWhile_cons, if_pos hc]⟩
  have h40 : ∀ d : UInt8, nameB d = true → d ≠ 40 := fun d hd e => by rw [e] at hd; cases hd
  have hall := take_names (c :: x)
  unfold tokAt at h
  simp only at h
  by_cases c1 : (smallB c || greatB c) = true
  ·have hc : nameB c = true := by unfold nameB; rw [c1]; rfl
   rw [if_pos c1] at h
   simp only [Except.ok.injEq, Prod.mk.injEq] at h
   obtain ⟨w', hw'⟩ := hhead hc
   have hk : t.kind = 3 ∨ t.kind = 4 ∨ t.kind = 5 := by
    rw [← h.1]
    by_cases g1 : greatB c = true
    ·exact Or.inr (Or.inl (if_pos g1))
    ·by_cases g2 : (W.word (List.takeWhile nameB (c :: x)) || List.takeWhile nameB (c :: x) == [95]) = true
     ·exact Or.inr (Or.inr ((if_neg g1).trans (if_pos g2)))
     ·exact Or.inl ((if_neg g1).trans (if_neg g2))
   have ht : textT dig t = (c :: x).takeWhile nameB := by
    have hS : t.S = (c :: x).takeWhile nameB := by rw [← h.1]
    unfold textT
    rw [if_neg (by omega), if_neg (by omega), if_neg (by omega), hS]
   rw [ht]
   obtain ⟨e1, e2⟩ := take_all hz _ hall
   have h1 := h.1
   refine ⟨?_, fun d y e => ?_, fun y e => ?_⟩
   ·rw [hw', List.cons_append] at e1 e2 ⊢
    unfold tokAt
    simp only
    rw [if_pos c1, e1, e2]
    rw [hw'] at h1
    rw [h1]
   ·rw [hw', List.cons_append] at e
    simp only [List.cons.injEq] at e
    rw [← e.1]; exact hname hc
   ·rw [hw', List.cons_append] at e
    simp only [List.cons.injEq] at e
    exact h40 c hc e.1
  ·rw [if_neg c1] at h
   by_cases c2 : digitB c = true
   ·have hc : nameB c = true := by unfold nameB; rw [c2]; simp
    rw [if_pos c2] at h
    by_cases c3 : (W.num (List.takeWhile nameB (c :: x))).2 = 5
    ·rw [if_pos c3] at h; cases h
    ·rw [if_neg c3] at h
     by_cases c4 : (W.num (List.takeWhile nameB (c :: x))).2 ≠ 0
     ·rw [if_pos c4] at h; cases h
     ·rw [if_neg c4] at h
      have c5 : (W.num (List.takeWhile nameB (c :: x))).2 = 0 := Classical.byContradiction c4
      simp only [Except.ok.injEq, Prod.mk.injEq] at h
      obtain ⟨w', hw'⟩ := hhead hc
      have ht : textT dig t = (c :: x).takeWhile nameB := by
       rw [← h.1]
       unfold textT
       simp only
       rw [if_pos trivial]
       exact hW.num _ c5
      rw [ht]
      obtain ⟨e1, e2⟩ := take_all hz _ hall
      have h1 := h.1
      refine ⟨?_, fun d y e => ?_, fun y e => ?_⟩
      ·rw [hw'] at c3 c4 h1
       rw [hw', List.cons_append] at e1 e2 ⊢
       unfold tokAt
       simp only
       rw [if_neg c1, if_pos c2, e1, e2, if_neg c3, if_neg c4, h1]
      ·rw [hw', List.cons_append] at e
       simp only [List.cons.injEq] at e
       rw [← e.1]; exact hname hc
      ·rw [hw', List.cons_append] at e
       simp only [List.cons.injEq] at e
       exact h40 c hc e.1
   ·rw [if_neg c2] at h
    by_cases c3 : c = 34
    ·rw [if_pos c3] at h
     cases hx : txtB x with
     | none => rw [hx] at h; cases h
     | some p =>
      obtain ⟨y, r2⟩ := p
      rw [hx] at h
      simp only [Except.ok.injEq, Prod.mk.injEq] at h
      have ht : textT dig t ++ 32 :: q = 34 :: (escT y ++ 34 :: (32 :: q)) := by
       rw [← h.1]
       unfold textT
       simp only
       rw [if_neg (by decide), if_neg (by decide), if_pos trivial]
       simp
      rw [ht]
      refine ⟨?_, fun d z e => ?_, fun z e => ?_⟩
      ·unfold tokAt
       simp only
       rw [if_neg (by decide), if_neg (by decide), if_pos trivial, esc_all]
       show Except.ok ((⟨2, y, 0⟩ : Tk), 32 :: q) = _
       rw [h.1]
      ·simp only [List.cons.injEq] at e
       rw [← e.1]; rfl
      ·simp only [List.cons.injEq] at e
       exact absurd e.1 (by decide)
    ·rw [if_neg c3] at h
     cases hx : W.signs.find? (fun s => s.isPrefixOf (c :: x)) with
     | none => rw [hx] at h; cases h
     | some s =>
      rw [hx] at h
      simp only [Except.ok.injEq, Prod.mk.injEq] at h
      have hm := List.mem_of_find?_eq_some hx
      have ht : textT dig t = s := by
       rw [← h.1]
       unfold textT
       simp only
       rw [if_neg (by decide), if_neg (by decide), if_neg (by decide)]
      rw [ht]
      have hf : W.signs.find? (fun u => u.isPrefixOf (s ++ 32 :: q)) = some s := by
       rw [find_congr (q := fun u => u.isPrefixOf s) _ (fun u hu => prefix_gap hz (fun b hb => (hW.signs.plain u hu b hb).1))]
       exact hW.self s hm
      cases hs : s with
      | nil => exact absurd hs (hW.signs.ne s hm)
      | cons d s' =>
       have hp := hW.signs.plain s hm d (by rw [hs]; exact List.mem_cons_self)
       rw [hs] at hf
       have hnc := hW.noC s hm
       rw [hs] at hnc
       refine ⟨?_, fun d' z e => ?_, fun z e => ?_⟩
       ·rw [List.cons_append] at hf ⊢
        unfold tokAt
        simp only
        have n1 : (smallB d || greatB d) = false := by
         have := hp.2.1
         unfold nameB at this
         simp only [Bool.or_eq_false_iff] at this ⊢
         exact ⟨this.1.1.1, this.1.1.2⟩
        have n2 : digitB d = false := by
         have := hp.2.1
         unfold nameB at this
         simp only [Bool.or_eq_false_iff] at this
         exact this.1.2
        rw [if_neg (by rw [n1]; decide), if_neg (by rw [n2]; decide), if_neg hp.2.2, hf]
        simp only [Except.ok.injEq, Prod.mk.injEq]
        refine ⟨by rw [← h.1, hs], ?_⟩
        rw [← List.cons_append, List.drop_left]
       ·rw [List.cons_append] at e
        simp only [List.cons.injEq] at e
        rw [← e.1]; exact hp.1
       ·cases s' with
        | nil =>
         simp only [List.cons_append, List.nil_append, List.cons.injEq] at e
         exact absurd e.2.1 (by decide)
        | cons d2 s2 =>
         simp only [List.cons_append, List.cons.injEq] at e
         exact hnc s2 (by rw [e.1, e.2.1])
theorem lexes_toks {l : List UInt8} {ts : List (Tk × Nat)} (h : Lexes W l ts) : ∀ p, p ∈ ts → ∃ a r, tokAt W a = .ok (p.1, r) := by
 induction h with
 | nil => intro p hp; cases hp
 | blank hc h ih => exact ih
 | comment hs h ih => exact ih
 | tok hb hn ht h ih =>
  intro p hp
  rcases List.mem_cons.1 hp with rfl | hp
  ·exact ⟨_, _, ht⟩
  ·exact ih p hp
/-- All texts, a blank behind each. -/
def backT (dig : Int → List UInt8) (ts : List (Tk × Nat)) : List UInt8 := ts.flatMap (fun p => textT dig p.1 ++ [32])
theorem lexes_back (hW : LexOk W dig) (z : List UInt8) (hz : Lexes W z []) : ∀ (ts : List (Tk × Nat)), (∀ p, p ∈ ts → ∃ a r, tokAt W a = .ok (p.1, r)) → ∃ us, Lexes W (backT dig ts ++ z) us ∧ us.map (·.1) = ts.map (·.1)
 | [], _ => ⟨[], hz, rfl⟩
 | p :: ts, h => by
  obtain ⟨us, h1, h2⟩ := lexes_back hW z hz ts (fun q hq => h q (List.mem_cons_of_mem _ hq))
  obtain ⟨a, r, ht⟩ := h p List.mem_cons_self
  obtain ⟨k1, k2, k3⟩ := tok_back hW ht (backT dig ts ++ z)
  have e : backT dig (p :: ts) ++ z = textT dig p.1 ++ 32 :: (backT dig ts ++ z) := by unfold backT; simp
  rw [e]
  exact ⟨_, Lexes.tok k2 k3 k1 (Lexes.blank rfl h1), by rw [List.map_cons, List.map_cons, h2]⟩
end Go.Proofs.YthjmakjhidjbaaaGreat

/-
 Layer 8, plain: the grammar, rule by rule, as data; what comes of tokens by it. No program is named, no condition.
-/
namespace Go.Proofs.YthjmakjhidjbaaaGreat
set_option linter.unusedVariables false
set_option maxHeartbeats 1000000

/-- A tree; pl: which token its place is. -/
inductive Tr where
 | mk (kind : Int) (pl : Nat) (N : Int) (S : List UInt8) (L : List Tr)
def Tr.kind : Tr → Int | .mk k _ _ _ _ => k
def Tr.pl : Tr → Nat | .mk _ p _ _ _ => p
def Tr.N : Tr → Int | .mk _ _ n _ _ => n
def Tr.S : Tr → List UInt8 | .mk _ _ _ s _ => s
def Tr.L : Tr → List Tr | .mk _ _ _ _ l => l
/-- Trees in a row, as one. -/
def lst (l : List Tr) : Tr := .mk 0 0 0 [] l
def Tr.more (t x : Tr) : Tr := .mk t.kind t.pl t.N t.S (t.L ++ [x])
def Tr.at_ (t : Tr) (p : Nat) : Tr := .mk t.kind p t.N t.S t.L
/-- The rules, and what may go on behind a part. -/
inductive NT where
 | items | item | con (k : Int) | cons | lab | labs
 | letN (k : Int) (p : Nat) | bind | ands | patoms | patomsR
 | seq | expr | arms | arm | armsR | tup | tupR
 | join (lv : Nat) | joinR (lv : Nat) (x : Tr) | un | app | appR | post | postR (x : Tr) | atom
 | elems (e : List UInt8) (p : Bool) | fields (p : Bool) | field (p : Bool) | fieldsR (p : Bool)
 | pat | patR (x : Tr) | alt | ptup | ptupR | pcons | papp | patom
 | ty | tprod | tprodR | tpost | tpostR (x : Tr)
/-- What a rule does. -/
inductive Pg where
 | ret (x : Tr)
 | bad
 | call (n : NT) (k : Tr → Pg)
 | test (p : Tk → Bool) (y n : Pg)
 | eat (k : Tk → Pg)
 | here (k : Nat → Pg)
def isS (s : List UInt8) (t : Tk) : Bool := t.kind == 5 && t.S == s
def isK (k : Int) (t : Tk) : Bool := t.kind == k
def isOne (l : List (List UInt8)) (t : Tk) : Bool := l.any fun s => isS s t
namespace Pg
def skip (s : List UInt8) (y n : Pg) : Pg := .test (isS s) (.eat fun _ => y) n
def must (s : List UInt8) (y : Pg) : Pg := .test (isS s) (.eat fun _ => y) .bad
def opt (s : List UInt8) (y : Pg) : Pg := .test (isS s) (.eat fun _ => y) y
def token (k : Int) (y : Tk → Pg) : Pg := .test (isK k) (.eat y) .bad
end Pg
def patomAhead (t : Tk) : Bool := (decide (1 ≤ t.kind) && decide (t.kind ≤ 4)) || isOne [[45], [116, 114, 117, 101], [102, 97, 108, 115, 101], [95], [40], [91], [123]] t
def postAhead (t : Tk) : Bool := (decide (1 ≤ t.kind) && decide (t.kind ≤ 4)) || isOne [[116, 114, 117, 101], [102, 97, 108, 115, 101], [40], [98, 101, 103, 105, 110], [91], [91, 124], [123], [33]] t
/-- The signs of a level. -/
def signsAt : Nat → List (List UInt8)
 | 0 => [[124, 124]]
 | 1 => [[38, 38]]
 | 2 => [[61], [60, 62], [60], [62], [60, 61], [62, 61]]
 | 3 => [[94]]
 | 4 => [[58, 58]]
 | 5 => [[43], [45]]
 | _ => [[42], [47], [109, 111, 100]]
/-- From the left? -/
def leftAt (lv : Nat) : Bool := lv == 2 || decide (5 ≤ lv)
def mkJ (s : List UInt8) (p : Nat) (x y : Tr) : Tr := if s == [58, 58] then .mk 6 p 0 s [.mk 7 p 0 [] [x, y]] else .mk 29 p 0 s [x, y]
def elN (p : Bool) : NT := if p then .pat else .expr
open Pg in
def body : NT → Pg
 | .items => .test (isK 0) (.ret (lst [])) (.call .item fun x => opt [59, 59] (.call .items fun r => .ret (lst (x :: r.L))))
 | .item => .here fun at_ =>
  skip [108, 101, 116] (.call (.letN 205 at_) .ret)
  (skip [116, 121, 112, 101] (token 3 fun t => must [61]
    (skip [123] (.call .lab fun x => .call .labs fun r => must [125] (.ret (.mk 208 at_ 0 t.S (x :: r.L))))
     (opt [124] (.call (.con 207) fun x => .call .cons fun r => .ret (.mk 206 at_ 0 t.S (x :: r.L))))))
   (must [101, 120, 99, 101, 112, 116, 105, 111, 110] (.call (.con 210) fun x => .ret (x.at_ at_))))
 | .con k => .here fun at_ => token 4 fun t => skip [111, 102] (.call .ty fun x => .ret (.mk k at_ 0 t.S [x])) (.ret (.mk k at_ 0 t.S []))
 | .cons => skip [124] (.call (.con 207) fun x => .call .cons fun r => .ret (lst (x :: r.L))) (.ret (lst []))
 | .lab => .here fun at_ => .test (isS [109, 117, 116, 97, 98, 108, 101])
   (.eat fun _ => token 3 fun t => must [58] (.call .ty fun x => .ret (.mk 209 at_ 1 t.S [x])))
   (token 3 fun t => must [58] (.call .ty fun x => .ret (.mk 209 at_ 0 t.S [x])))
 | .labs => skip [59] (.test (isS [125]) (.ret (lst [])) (.call .lab fun x => .call .labs fun r => .ret (lst (x :: r.L)))) (.ret (lst []))
 | .letN k p => .test (isS [114, 101, 99])
   (.eat fun _ => .call .bind fun x => .call .ands fun r => .ret (.mk k p 1 [] (x :: r.L)))
   (.call .bind fun x => .call .ands fun r => .ret (.mk k p 0 [] (x :: r.L)))
 | .ands => skip [97, 110, 100] (.call .bind fun x => .call .ands fun r => .ret (lst (x :: r.L))) (.ret (lst []))
 | .bind => .here fun i => .call .pat fun p => .here fun j =>
   skip [61] (.call .seq fun x => .ret (.mk 20 i 0 [] [p, x]))
    (if p.kind = 106 ∧ j = i + 1 then .call .patoms fun r => must [61] (.call .seq fun x => .ret (.mk 20 i 0 [] [p, .mk 17 j 0 [] (r.L ++ [x])])) else .bad)
 | .patoms => .call .patom fun x => .call .patomsR fun r => .ret (lst (x :: r.L))
 | .patomsR => .test patomAhead (.call .patom fun x => .call .patomsR fun r => .ret (lst (x :: r.L))) (.ret (lst []))
 | .seq => .call .expr fun x => .here fun at_ => skip [59] (.call .seq fun y => .ret (.mk 28 at_ 0 [] [x, y])) (.ret x)
 | .expr => .here fun at_ =>
  skip [108, 101, 116] (.call (.letN 19 at_) fun n => must [105, 110] (.call .seq fun x => .ret (n.more x)))
  (skip [102, 117, 110] (.call .patoms fun l => must [45, 62] (.call .seq fun x => .ret (.mk 17 at_ 0 [] (l.L ++ [x]))))
  (skip [102, 117, 110, 99, 116, 105, 111, 110] (.call .arms fun l => .ret (.mk 18 at_ 0 [] l.L))
  (skip [109, 97, 116, 99, 104] (.call .seq fun x => must [119, 105, 116, 104] (.call .arms fun l => .ret (.mk 22 at_ 0 [] (x :: l.L))))
  (skip [116, 114, 121] (.call .seq fun x => must [119, 105, 116, 104] (.call .arms fun l => .ret (.mk 23 at_ 0 [] (x :: l.L))))
  (skip [105, 102] (.call .expr fun x => must [116, 104, 101, 110] (.call .expr fun y => skip [101, 108, 115, 101] (.call .expr fun z => .ret (.mk 21 at_ 0 [] [x, y, z])) (.ret (.mk 21 at_ 0 [] [x, y]))))
  (skip [119, 104, 105, 108, 101] (.call .seq fun x => must [100, 111] (.call .seq fun y => must [100, 111, 110, 101] (.ret (.mk 26 at_ 0 [] [x, y]))))
  (skip [102, 111, 114] (token 3 fun t => must [61] (.call .expr fun x => skip [116, 111]
    (.call .expr fun y => must [100, 111] (.call .seq fun z => must [100, 111, 110, 101] (.ret (.mk 27 at_ 1 t.S [x, y, z]))))
    (must [100, 111, 119, 110, 116, 111] (.call .expr fun y => must [100, 111] (.call .seq fun z => must [100, 111, 110, 101] (.ret (.mk 27 at_ 0 t.S [x, y, z])))))))
  (.call .tup fun x => .here fun to => skip [58, 61] (.call .expr fun y => .ret (.mk 29 to 0 [58, 61] [x, y]))
   (.test (isS [60, 45])
    (if x.kind = 12 then .eat fun _ => .call .expr fun y => .ret (.mk 13 to 0 x.S (x.L ++ [y]))
     else if x.kind = 14 then .eat fun _ => .call .expr fun y => .ret (.mk 15 to 0 [] (x.L ++ [y])) else .bad)
    (.ret x))))))))))
 | .arms => opt [124] (.call .arm fun x => .call .armsR fun r => .ret (lst (x :: r.L)))
 | .armsR => skip [124] (.call .arm fun x => .call .armsR fun r => .ret (lst (x :: r.L))) (.ret (lst []))
 | .arm => .here fun at_ => .call .pat fun p => skip [119, 104, 101, 110]
   (.call .expr fun g => must [45, 62] (.call .seq fun b => .ret (.mk 24 at_ 0 [] [p, g, b])))
   (must [45, 62] (.call .seq fun b => .ret (.mk 24 at_ 0 [] [p, b])))
 | .tup => .call (.join 0) fun x => .here fun at_ => skip [44] (.call (.join 0) fun y => .call .tupR fun r => .ret (.mk 7 at_ 0 [] (x :: y :: r.L))) (.ret x)
 | .tupR => skip [44] (.call (.join 0) fun x => .call .tupR fun r => .ret (lst (x :: r.L))) (.ret (lst []))
 | .join lv =>
  if 7 ≤ lv then .call .un .ret
  else if leftAt lv then .call (.join (lv + 1)) fun x => .call (.joinR lv x) .ret
  else .call (.join (lv + 1)) fun x => .here fun at_ => .test (isOne (signsAt lv)) (.eat fun t => .call (.join lv) fun y => .ret (mkJ t.S at_ x y)) (.ret x)
 | .joinR lv x => .here fun at_ => .test (isOne (signsAt lv)) (.eat fun t => .call (.join (lv + 1)) fun y => .call (.joinR lv (mkJ t.S at_ x y)) .ret) (.ret x)
 | .un => .here fun at_ => .test (isOne [[45], [110, 111, 116]]) (.eat fun t => .call .un fun x => .ret (.mk 30 at_ 0 t.S [x])) (.call .app .ret)
 | .app => .here fun at_ => skip [114, 97, 105, 115, 101] (.call .post fun x => .ret (.mk 25 at_ 0 [] [x]))
   (.test (isK 4) (.eat fun t => .test postAhead (.call .post fun x => .ret (.mk 6 at_ 0 t.S [x])) (.ret (.mk 6 at_ 0 t.S [])))
    (.call .post fun x => .call .appR fun r => .ret (match r.L with | [] => x | y :: l => .mk 16 x.pl 0 [] (x :: y :: l))))
 | .appR => .test postAhead (.call .post fun x => .call .appR fun r => .ret (lst (x :: r.L))) (.ret (lst []))
 | .post => .here fun at_ => skip [33] (.call .post fun x => .ret (.mk 30 at_ 0 [33] [x])) (.call .atom fun x => .call (.postR x) .ret)
 | .postR x => .here fun to => skip [46] (token 3 fun t => .call (.postR (.mk 12 to 0 t.S [x])) .ret)
   (skip [46, 40] (.call .seq fun y => must [41] (.call (.postR (.mk 14 to 0 [] [x, y])) .ret)) (.ret x))
 | .atom => .here fun at_ =>
  .test (isK 1) (.eat fun t => .ret (.mk 1 at_ t.N [] []))
  (.test (isK 2) (.eat fun t => .ret (.mk 2 at_ 0 t.S []))
  (.test (isK 3) (.eat fun t => .ret (.mk 5 at_ 0 t.S []))
  (.test (isK 4) (.eat fun t => .ret (.mk 6 at_ 0 t.S []))
  (skip [116, 114, 117, 101] (.ret (.mk 3 at_ 1 [] []))
  (skip [102, 97, 108, 115, 101] (.ret (.mk 3 at_ 0 [] []))
  (skip [40] (skip [41] (.ret (.mk 4 at_ 0 [] [])) (.call .seq fun x => must [41] (.ret x)))
  (skip [98, 101, 103, 105, 110] (.call .seq fun x => must [101, 110, 100] (.ret x))
  (skip [91] (.call (.elems [93] false) fun l => must [93] (.ret (.mk 8 at_ 0 [] l.L)))
  (skip [91, 124] (.call (.elems [124, 93] false) fun l => must [124, 93] (.ret (.mk 9 at_ 0 [] l.L)))
  (.call (.fields false) .ret))))))))))
 | .elems e p => .test (isS e) (.ret (lst [])) (.call (elN p) fun x => skip [59] (.call (.elems e p) fun r => .ret (lst (x :: r.L))) (.ret (lst [x])))
 | .fields p => .here fun at_ => must [123] (.call (.field p) fun x => .call (.fieldsR p) fun r => must [125] (.ret (.mk (if p then 110 else 10) at_ 0 [] (x :: r.L))))
 | .field p => .here fun at_ => token 3 fun t => must [61] (.call (elN p) fun x => .ret (.mk (if p then 111 else 11) at_ 0 t.S [x]))
 | .fieldsR p => skip [59] (.test (isS [125]) (.ret (lst [])) (.call (.field p) fun x => .call (.fieldsR p) fun r => .ret (lst (x :: r.L)))) (.ret (lst []))
 | .pat => .call .alt fun x => .call (.patR x) .ret
 | .patR x => .here fun at_ => skip [97, 115] (token 3 fun t => .call (.patR (.mk 113 at_ 0 t.S [x])) .ret) (.ret x)
 | .alt => .call .ptup fun x => .here fun at_ => skip [124] (.call .alt fun y => .ret (.mk 112 at_ 0 [] [x, y])) (.ret x)
 | .ptup => .call .pcons fun x => .here fun at_ => skip [44] (.call .pcons fun y => .call .ptupR fun r => .ret (.mk 108 at_ 0 [] (x :: y :: r.L))) (.ret x)
 | .ptupR => skip [44] (.call .pcons fun x => .call .ptupR fun r => .ret (lst (x :: r.L))) (.ret (lst []))
 | .pcons => .call .papp fun x => .here fun at_ => skip [58, 58] (.call .pcons fun y => .ret (.mk 107 at_ 0 [58, 58] [.mk 108 at_ 0 [] [x, y]])) (.ret x)
 | .papp => .here fun at_ => .test (isK 4)
   (.eat fun t => .test patomAhead (.call .patom fun p => .ret (.mk 107 at_ 0 t.S [p])) (.ret (.mk 107 at_ 0 t.S [])))
   (.call .patom .ret)
 | .patom => .here fun at_ =>
  .test (isK 1) (.eat fun t => .ret (.mk 101 at_ t.N [] []))
  (.test (isK 2) (.eat fun t => .ret (.mk 102 at_ 0 t.S []))
  (.test (isK 3) (.eat fun t => .ret (.mk 106 at_ 0 t.S []))
  (.test (isK 4) (.eat fun t => .ret (.mk 107 at_ 0 t.S []))
  (skip [45] (token 1 fun t => .ret (.mk 101 at_ (0 - t.N) [] []))
  (skip [116, 114, 117, 101] (.ret (.mk 103 at_ 1 [] []))
  (skip [102, 97, 108, 115, 101] (.ret (.mk 103 at_ 0 [] []))
  (skip [95] (.ret (.mk 105 at_ 0 [] []))
  (skip [40] (skip [41] (.ret (.mk 104 at_ 0 [] [])) (.call .pat fun x => must [41] (.ret x)))
  (skip [91] (.call (.elems [93] true) fun l => must [93] (.ret (.mk 109 at_ 0 [] l.L)))
  (.call (.fields true) .ret))))))))))
 | .ty => .call .tprod fun x => .here fun at_ => skip [45, 62] (.call .ty fun y => .ret (.mk 203 at_ 0 [] [x, y])) (.ret x)
 | .tprod => .call .tpost fun x => .here fun at_ => skip [42] (.call .tpost fun y => .call .tprodR fun r => .ret (.mk 204 at_ 0 [] (x :: y :: r.L))) (.ret x)
 | .tprodR => skip [42] (.call .tpost fun x => .call .tprodR fun r => .ret (lst (x :: r.L))) (.ret (lst []))
 | .tpost => .test (isS [40]) (.eat fun _ => .call .ty fun x => must [41] (.call (.tpostR x) .ret))
   (.here fun at_ => token 3 fun t => .call (.tpostR (.mk 201 at_ 0 t.S [])) .ret)
 | .tpostR x => .here fun at_ => .test (isK 3) (.eat fun t => .call (.tpostR (.mk 202 at_ 0 t.S [x])) .ret) (.ret x)
abbrev Res := Except Nat (Tr × Nat)
/-- The token at a place; behind all of them the end. -/
def tk (ts : List Tk) (i : Nat) : Tk := ts.getD i ⟨0, [], 0⟩
def exec (ts : List Tk) (rec : NT → Nat → Res) : Pg → Nat → Res
 | .ret x, i => .ok (x, i)
 | .bad, i => .error i
 | .call n k, i => match rec n i with | .error m => .error m | .ok (x, j) => exec ts rec (k x) j
 | .test p y n, i => if p (tk ts i) then exec ts rec y i else exec ts rec n i
 | .eat k, i => if i < ts.length then exec ts rec (k (tk ts i)) (i + 1) else .error i
 | .here k, i => exec ts rec (k i) i
def run (ts : List Tk) : Nat → NT → Nat → Res
 | 0, _, i => .error i
 | n + 1, nt, i => exec ts (run ts n) (body nt) i
end Go.Proofs.YthjmakjhidjbaaaGreat

/-
 Layer 8, plain: what the grammar makes of tokens is the same with any fuel that is enough: each rule as an equation. No program is named.
-/
namespace Go.Proofs.YthjmakjhidjbaaaGreat
set_option linter.unusedVariables false
set_option linter.unusedSimpArgs false
set_option maxHeartbeats 1000000

/-- A rule that takes a token at least. -/
def hard : NT → Bool
 | .items | .labs | .cons | .ands | .patomsR | .armsR | .tupR | .joinR .. | .appR | .postR .. | .elems .. | .fieldsR .. | .patR .. | .ptupR | .tprodR | .tpostR .. => false
 | _ => true
def rank : NT → Nat
 | .items => 20 | .bind => 8 | .letN .. => 9 | .patoms => 3 | .patomsR => 3
 | .seq => 16 | .expr => 15 | .arms => 9 | .arm => 8 | .tup => 14
 | .join lv => 6 + (7 - lv) | .un => 5 | .app => 4 | .appR => 4 | .post => 3 | .atom => 2
 | .elems .. => 17 | .fields .. => 1
 | .pat => 7 | .alt => 6 | .ptup => 5 | .pcons => 4 | .papp => 3 | .patom => 2
 | .ty => 3 | .tprod => 2 | .tpost => 1
 | .item | .con .. | .cons | .lab | .labs | .ands | .armsR | .tupR | .joinR .. | .postR .. | .field .. | .fieldsR .. | .patR .. | .ptupR | .tprodR | .tpostR .. => 0
namespace Pg
/-- What is called at the place where the rule began is of a lower rank. -/
def falls (r : Nat) : Bool → Pg → Prop
 | _, .ret _ => True
 | _, .bad => True
 | e, .call n k => (e = true ∨ rank n < r) ∧ ∀ x, falls r (e || hard n) (k x)
 | e, .test _ y n => falls r e y ∧ falls r e n
 | e, .eat k => ∀ t, falls r true (k t)
 | e, .here k => ∀ i, falls r e (k i)
/-- It comes to an end with a token taken alone. -/
def comes : Bool → Pg → Prop
 | e, .ret _ => e = true
 | _, .bad => True
 | e, .call n k => ∀ x, comes (e || hard n) (k x)
 | e, .test _ y n => comes e y ∧ comes e n
 | e, .eat k => ∀ t, comes true (k t)
 | e, .here k => ∀ i, comes e (k i)
end Pg
theorem body_falls (n : NT) : (body n).falls (rank n) false := by
 cases n
 case join lv =>
  simp only [body]
  split
  ·simp [Pg.falls, rank]; omega
  ·split
   ·simp [Pg.falls, rank, hard]; omega
   ·simp [Pg.falls, rank, hard]; omega
 case elems e p => cases p <;> simp [body, Pg.falls, Pg.skip, Pg.must, Pg.opt, Pg.token, rank, hard, elN]
 case field p => cases p <;> simp [body, Pg.falls, Pg.skip, Pg.must, Pg.opt, Pg.token, rank, hard, elN]
 case bind =>
  simp only [body, Pg.falls, Pg.skip, Pg.must, rank, hard]
  refine fun i => ⟨by simp, fun x j => ⟨by simp, ?_⟩⟩
  split <;> simp [Pg.falls, hard]
 case expr =>
  simp only [body, Pg.falls, Pg.skip, Pg.must, Pg.token, rank, hard]
  refine fun i => ⟨by simp, by simp, by simp, by simp, by simp, by simp, by simp, by simp, by simp, fun x j => ⟨by simp, ?_, trivial⟩⟩
  split
  ·simp [Pg.falls, hard]
  ·split <;> simp [Pg.falls, hard]
 all_goals simp [body, Pg.falls, Pg.skip, Pg.must, Pg.opt, Pg.token, rank, hard]
theorem body_comes (n : NT) (h : hard n = true) : (body n).comes false := by
 cases n
 case join lv =>
  simp only [body]
  split
  ·simp [Pg.comes, hard]
  ·split <;> simp [Pg.comes, hard]
 case field p => cases p <;> simp [body, Pg.comes, Pg.skip, Pg.must, Pg.opt, Pg.token, hard, elN]
 case bind =>
  simp only [body, Pg.comes, Pg.skip, Pg.must, hard]
  refine fun i x j => ⟨by simp, ?_⟩
  split <;> simp [Pg.comes, hard]
 case expr =>
  simp only [body, Pg.comes, Pg.skip, Pg.must, Pg.token, hard]
  refine fun i => ⟨by simp, by simp, by simp, by simp, by simp, by simp, by simp, by simp, fun x j => ⟨by simp, ?_, by simp⟩⟩
  split
  ·simp [Pg.comes, hard]
  ·split <;> simp [Pg.comes, hard]
 all_goals first
  | (simp [hard] at h; done)
  | simp [body, Pg.comes, Pg.skip, Pg.must, Pg.opt, Pg.token, hard]
def last : Res → Nat
 | .ok (_, j) => j
 | .error m => m
section
variable {ts : List Tk}
/-- What a call may tell. -/
def Fine (ts : List Tk) (n : NT) (i : Nat) (r : Res) : Prop := i ≤ last r ∧ last r ≤ ts.length ∧ ∀ x j, r = .ok (x, j) → hard n = true → i < j
theorem exec_ge {rec : NT → Nat → Res} (hr : ∀ n i, i ≤ ts.length → Fine ts n i (rec n i)) : ∀ (p : Pg) (i : Nat), i ≤ ts.length → i ≤ last (exec ts rec p i) ∧ last (exec ts rec p i) ≤ ts.length
 | .ret x, i, hi => ⟨Nat.le_refl _, hi⟩
 | .bad, i, hi => ⟨Nat.le_refl _, hi⟩
 | .call n k, i, hi => by
  obtain ⟨h1, h2, _⟩ := hr n i hi
  unfold exec
  cases e : rec n i with
  | error m => rw [e] at h1 h2; exact ⟨h1, h2⟩
  | ok xj =>
   obtain ⟨x, j⟩ := xj
   rw [e] at h1 h2
   obtain ⟨g1, g2⟩ := exec_ge hr (k x) j h2
   exact ⟨Nat.le_trans h1 g1, g2⟩
 | .test p y n, i, hi => by
  unfold exec
  split
  ·exact exec_ge hr y i hi
  ·exact exec_ge hr n i hi
 | .eat k, i, hi => by
  unfold exec
  split
  ·obtain ⟨g1, g2⟩ := exec_ge hr (k (tk ts i)) (i + 1) (by omega)
   exact ⟨by omega, g2⟩
  ·exact ⟨Nat.le_refl _, hi⟩
 | .here k, i, hi => by
  unfold exec
  exact exec_ge hr (k i) i hi
theorem exec_comes {rec : NT → Nat → Res} (hr : ∀ n i, i ≤ ts.length → Fine ts n i (rec n i)) {s : Nat} : ∀ (p : Pg) (e : Bool) (i : Nat), i ≤ ts.length → s ≤ i → (e = true → s < i) → p.comes e → ∀ x j, exec ts rec p i = .ok (x, j) → s < j
 | .ret x, e, i, hi, hs, he, hc, y, j, h => by
  simp only [exec, Except.ok.injEq, Prod.mk.injEq] at h
  have := he hc
  omega
 | .bad, e, i, hi, hs, he, hc, y, j, h => by simp [exec] at h
 | .call n k, e, i, hi, hs, he, hc, y, j, h => by
  obtain ⟨h1, h2, h3⟩ := hr n i hi
  unfold exec at h
  cases g : rec n i with
  | error m => rw [g] at h; cases h
  | ok xj =>
   obtain ⟨x, j'⟩ := xj
   rw [g] at h h1 h2 h3
   have h4 : i ≤ j' := h1
   refine exec_comes hr (k x) (e || hard n) j' h2 (by omega) (fun hh => ?_) (hc x) y j h
   rw [Bool.or_eq_true] at hh
   rcases hh with hh | hh
   ·have := he hh; omega
   ·have := h3 x j' rfl hh; omega
 | .test p y n, e, i, hi, hs, he, hc, z, j, h => by
  unfold exec at h
  split at h
  ·exact exec_comes hr y e i hi hs he hc.1 z j h
  ·exact exec_comes hr n e i hi hs he hc.2 z j h
 | .eat k, e, i, hi, hs, he, hc, z, j, h => by
  unfold exec at h
  split at h
  ·exact exec_comes hr (k (tk ts i)) true (i + 1) (by omega) (by omega) (fun _ => by omega) (hc _) z j h
  ·cases h
 | .here k, e, i, hi, hs, he, hc, z, j, h => by
  unfold exec at h
  exact exec_comes hr (k i) e i hi hs he (hc i) z j h
theorem run_fine : ∀ (n : Nat) (nt : NT) (i : Nat), i ≤ ts.length → Fine ts nt i (run ts n nt i)
 | 0, nt, i, hi => ⟨Nat.le_refl _, hi, fun x j h => by simp [run] at h⟩
 | n + 1, nt, i, hi => by
  have hr := run_fine n
  obtain ⟨h1, h2⟩ := exec_ge hr (body nt) i hi
  exact ⟨h1, h2, fun x j h hh => exec_comes hr (body nt) false i hi (Nat.le_refl _) (fun c => by cases c) (body_comes nt hh) x j h⟩
theorem exec_stab {rec rec' : NT → Nat → Res} (hr : ∀ n i, i ≤ ts.length → Fine ts n i (rec n i)) {s r : Nat} (hq : ∀ n j, s ≤ j → j ≤ ts.length → (s < j ∨ rank n < r) → rec n j = rec' n j) : ∀ (p : Pg) (e : Bool) (i : Nat), i ≤ ts.length → s ≤ i → (e = true → s < i) → p.falls r e → exec ts rec p i = exec ts rec' p i
 | .ret x, e, i, hi, hs, he, hc => rfl
 | .bad, e, i, hi, hs, he, hc => rfl
 | .call n k, e, i, hi, hs, he, hc => by
  obtain ⟨h1, h2, h3⟩ := hr n i hi
  unfold exec
  have hn : s < i ∨ rank n < r := by
   rcases hc.1 with h | h
   ·exact Or.inl (he h)
   ·exact Or.inr h
  rw [← hq n i hs hi hn]
  cases g : rec n i with
  | error m => rfl
  | ok xj =>
   obtain ⟨x, j'⟩ := xj
   rw [g] at h1 h2 h3
   have h4 : i ≤ j' := h1
   refine exec_stab hr hq (k x) (e || hard n) j' h2 (by omega) (fun hh => ?_) (hc.2 x)
   rw [Bool.or_eq_true] at hh
   rcases hh with hh | hh
   ·have := he hh; omega
   ·have := h3 x j' rfl hh; omega
 | .test p y n, e, i, hi, hs, he, hc => by
  unfold exec
  rw [exec_stab hr hq y e i hi hs he hc.1, exec_stab hr hq n e i hi hs he hc.2]
 | .eat k, e, i, hi, hs, he, hc => by
  unfold exec
  split
  ·exact exec_stab hr hq (k (tk ts i)) true (i + 1) (by omega) (by omega) (fun _ => by omega) (hc _)
  ·rfl
 | .here k, e, i, hi, hs, he, hc => by
  unfold exec
  exact exec_stab hr hq (k i) e i hi hs he (hc i)
theorem rank_lt (n : NT) : rank n < 32 := by
 cases n <;> simp [rank] <;> omega
/-- Fuel that is enough. -/
def fuel (ts : List Tk) (n : NT) (i : Nat) : Nat := (ts.length - i) * 32 + rank n + 1
theorem run_stab : ∀ (n m : Nat) (nt : NT) (i : Nat), i ≤ ts.length → fuel ts nt i ≤ n → fuel ts nt i ≤ m → run ts n nt i = run ts m nt i
 | 0, m, nt, i, hi, h1, h2 => by unfold fuel at h1; omega
 | n + 1, 0, nt, i, hi, h1, h2 => by unfold fuel at h2; omega
 | n + 1, m + 1, nt, i, hi, h1, h2 => by
  refine exec_stab (run_fine n) (s := i) (r := rank nt) (fun n' j hj hl hc => ?_) (body nt) false i hi (Nat.le_refl _) (fun c => by cases c) (body_falls nt)
  have hk := rank_lt n'
  refine run_stab n m n' j hl ?_ ?_
  ·unfold fuel at h1 ⊢
   rcases hc with hc | hc
   ·have : (ts.length - j + 1) * 32 ≤ (ts.length - i) * 32 := Nat.mul_le_mul_right _ (by omega)
    omega
   ·have : (ts.length - j) * 32 ≤ (ts.length - i) * 32 := Nat.mul_le_mul_right _ (by omega)
    omega
  ·unfold fuel at h2 ⊢
   rcases hc with hc | hc
   ·have : (ts.length - j + 1) * 32 ≤ (ts.length - i) * 32 := Nat.mul_le_mul_right _ (by omega)
    omega
   ·have : (ts.length - j) * 32 ≤ (ts.length - i) * 32 := Nat.mul_le_mul_right _ (by omega)
    omega
/-- What a rule makes of the tokens from a place on. -/
def reads (ts : List Tk) (n : NT) (i : Nat) : Res := run ts (fuel ts n i) n i
theorem reads_run {n : NT} {i m : Nat} (hi : i ≤ ts.length) (h : fuel ts n i ≤ m) : reads ts n i = run ts m n i := run_stab _ _ _ _ hi (Nat.le_refl _) h
theorem reads_fine (n : NT) {i : Nat} (hi : i ≤ ts.length) : Fine ts n i (reads ts n i) := run_fine _ n i hi
theorem reads_eq (n : NT) {i : Nat} (hi : i ≤ ts.length) : reads ts n i = exec ts (reads ts) (body n) i := by
 rw [reads_run hi (Nat.le_succ _)]
 refine exec_stab (run_fine _) (s := i) (r := rank n) (fun n' j hj hl hc => ?_) (body n) false i hi (Nat.le_refl _) (fun c => by cases c) (body_falls n)
 refine (reads_run hl ?_).symm
 have hk := rank_lt n'
 unfold fuel
 rcases hc with hc | hc
 ·have : (ts.length - j + 1) * 32 ≤ (ts.length - i) * 32 := Nat.mul_le_mul_right _ (by omega)
  omega
 ·have : (ts.length - j) * 32 ≤ (ts.length - i) * 32 := Nat.mul_le_mul_right _ (by omega)
  omega
end
end Go.Proofs.YthjmakjhidjbaaaGreat

/-
 Layer 8, plain: each node's place is a token's within what it is of; its parts stand one behind the other; how many nodes there are at most. No program is named.
-/
namespace Go.Proofs.YthjmakjhidjbaaaGreat
set_option linter.unusedVariables false
set_option linter.unusedSimpArgs false
set_option maxHeartbeats 4000000

mutual
/-- How many nodes. -/
def Tr.cnt : Tr → Nat
 | .mk _ _ _ _ l => cntL l + 1
def cntL : List Tr → Nat
 | [] => 0
 | x :: l => x.cnt + cntL l
end
mutual
/-- All places of a tree are i or above, and below j; its parts stand one behind the other. -/
inductive Lies : Nat → Nat → Tr → Prop
 | mk {i j : Nat} {k : Int} {p : Nat} {n : Int} {s : List UInt8} {L : List Tr} (h1 : i ≤ p) (h2 : p < j) (hL : LiesL i j L) : Lies i j (.mk k p n s L)
inductive LiesL : Nat → Nat → List Tr → Prop
 | nil {i j : Nat} : LiesL i j []
 | cons {i a b j : Nat} {x : Tr} {l : List Tr} (h1 : i ≤ a) (hx : Lies a b x) (h2 : b ≤ j) (hl : LiesL b j l) : LiesL i j (x :: l)
end
theorem LiesL.mono {i j : Nat} {l : List Tr} (h : LiesL i j l) : ∀ {i' j' : Nat}, i' ≤ i → j ≤ j' → LiesL i' j' l := by
 induction l generalizing i with
 | nil => intros; exact .nil
 | cons x l ih =>
  intro i' j' h1 h2
  cases h with
  | cons g1 gx g2 gl => exact .cons (by omega) gx (by omega) (ih gl (Nat.le_refl _) h2)
theorem Lies.mono {i j i' j' : Nat} {x : Tr} (h : Lies i j x) (h1 : i' ≤ i) (h2 : j ≤ j') : Lies i' j' x := by
 cases h with
 | mk g1 g2 gL => exact .mk (by omega) (by omega) (gL.mono h1 h2)
theorem LiesL.snoc {i a b c j : Nat} {l : List Tr} {y : Tr} (h : LiesL i a l) (hia : i ≤ a) (hab : a ≤ b) (hy : Lies b c y) (hc : c ≤ j) : LiesL i j (l ++ [y]) := by
 induction l generalizing i with
 | nil => exact .cons (by omega) hy hc .nil
 | cons x l ih =>
  cases h with
  | cons g1 gx g2 gl =>
   rename_i d
   have : d ≤ a := g2
   refine .cons g1 gx ?_ (ih gl g2)
   have : b < c := by cases hy with | mk q1 q2 _ => omega
   omega
theorem cntL_snoc (l : List Tr) (y : Tr) : cntL (l ++ [y]) = cntL l + y.cnt := by
 induction l with
 | nil => simp [cntL]
 | cons x l ih => simp [cntL, ih]; omega
/-- It lies there, and has few nodes. -/
def PI (i j : Nat) (x : Tr) : Prop := Lies i j x ∧ x.cnt + 3 + 4 * i ≤ 4 * j
def PL (i j : Nat) (l : List Tr) : Prop := LiesL i j l ∧ cntL l + 3 * l.length + 4 * i ≤ 4 * j
section
variable {i j a b c d e f p : Nat} {k : Int} {n : Int} {s : List UInt8} {x y z : Tr} {l : List Tr}
theorem PI.lt (h : PI i j x) : i < j := by have := h.2; omega
theorem PL.le (h : PL i j l) : i ≤ j := by have := h.2; omega
theorem PI.pl (h : PI i j x) : i ≤ x.pl ∧ x.pl < j := by
 cases h.1 with
 | mk h1 h2 _ => exact ⟨h1, h2⟩
theorem PI.parts (h : PI i j x) : LiesL i j x.L ∧ cntL x.L + 4 + 4 * i ≤ 4 * j := by
 obtain ⟨h1, h2⟩ := h
 cases h1 with
 | mk g1 g2 gL =>
  refine ⟨gL, ?_⟩
  simp only [Tr.cnt] at h2
  simp only [Tr.L]
  omega
theorem PI.of (h1 : i ≤ p) (h2 : p < j) (hL : LiesL i j l) (hc : cntL l + 4 + 4 * i ≤ 4 * j) : PI i j (.mk k p n s l) := ⟨.mk h1 h2 hL, by simp only [Tr.cnt]; omega⟩
theorem PI.mono (h : PI a b x) (h1 : i ≤ a) (h2 : b ≤ j) : PI i j x := ⟨h.1.mono h1 h2, by have := h.2; omega⟩
theorem PI.nil (h1 : i ≤ p) (h2 : p < j) : PI i j (.mk k p n s []) := PI.of h1 h2 .nil (by simp only [cntL]; omega)
theorem PI.one (hx : PI a b x) (h1 : i ≤ a) (h2 : b ≤ j) (h3 : i < a ∨ b < j) (h4 : i ≤ p) (h5 : p < j) : PI i j (.mk k p n s [x]) := PI.of h4 h5 (.cons h1 hx.1 h2 .nil) (by have := hx.2; simp only [cntL]; omega)
theorem PI.two (hx : PI a b x) (hy : PI c d y) (h1 : i ≤ a) (h2 : b ≤ c) (h3 : d ≤ j) (h4 : i ≤ p) (h5 : p < j) : PI i j (.mk k p n s [x, y]) := PI.of h4 h5 (.cons h1 hx.1 (by have := hy.lt; omega) (.cons h2 hy.1 h3 .nil)) (by have := hx.2; have := hy.2; simp only [cntL]; omega)
theorem PI.three (hx : PI a b x) (hy : PI c d y) (hz : PI e f z) (h1 : i ≤ a) (h2 : b ≤ c) (h3 : d ≤ e) (h6 : f ≤ j) (h4 : i ≤ p) (h5 : p < j) : PI i j (.mk k p n s [x, y, z]) := PI.of h4 h5 (.cons h1 hx.1 (by have := hy.lt; have := hz.lt; omega) (.cons h2 hy.1 (by have := hz.lt; omega) (.cons h3 hz.1 h6 .nil))) (by have := hx.2; have := hy.2; have := hz.2; simp only [cntL]; omega)
theorem PL.nil (h : i ≤ j) : PL i j [] := ⟨.nil, by simp only [cntL, List.length_nil]; omega⟩
theorem PL.row (hx : PI a b x) (hl : PL c d l) (h1 : i ≤ a) (h2 : b ≤ c) (h3 : d ≤ j) : PL i j (x :: l) := ⟨.cons h1 hx.1 (by have := hl.le; omega) (hl.1.mono h2 h3), by have := hx.2; have := hl.2; simp only [cntL, List.length_cons]; omega⟩
theorem PL.one (hx : PI a b x) (h1 : i ≤ a) (h2 : b ≤ j) : PL i j [x] := ⟨.cons h1 hx.1 h2 .nil, by have := hx.2; simp only [cntL, List.length_cons, List.length_nil]; omega⟩
theorem PL.snoc (hl : PL a b l) (hy : PI c d y) (h1 : i ≤ a) (h2 : b ≤ c) (h3 : d ≤ j) : PL i j (l ++ [y]) := ⟨(hl.1.mono h1 (Nat.le_refl _)).snoc (by have := hl.le; omega) h2 hy.1 h3, by have := hy.2; have := hl.2; rw [cntL_snoc]; simp only [List.length_append, List.length_cons, List.length_nil]; omega⟩
theorem PI.list (hl : PL a b l) (h1 : i ≤ a) (h2 : b ≤ j) (h3 : i < a ∨ b < j) (h4 : i ≤ p) (h5 : p < j) : PI i j (.mk k p n s l) := PI.of h4 h5 (hl.1.mono h1 h2) (by have := hl.2; omega)
theorem PI.row (hx : PI a b x) (hl : PL c d l) (h1 : i ≤ a) (h2 : b ≤ c) (h3 : d ≤ j) (h6 : i < a ∨ b < c ∨ d < j) (h4 : i ≤ p) (h5 : p < j) : PI i j (.mk k p n s (x :: l)) := PI.of h4 h5 (PL.row hx hl h1 h2 h3).1 (by have := hx.2; have := hl.2; simp only [cntL]; omega)
theorem PI.row2 (hx : PI a b x) (hy : PI c d y) (hl : PL e f l) (h1 : i ≤ a) (h2 : b ≤ c) (h3 : d ≤ e) (h6 : f ≤ j) (h4 : i ≤ p) (h5 : p < j) : PI i j (.mk k p n s (x :: y :: l)) := PI.of h4 h5 (PL.row hx (PL.row hy hl (Nat.le_refl _) h3 h6) h1 h2 (Nat.le_refl _)).1 (by have := hx.2; have := hy.2; have := hl.2; simp only [cntL]; omega)
theorem PI.eta (x : Tr) : x = .mk x.kind x.pl x.N x.S x.L := by cases x; rfl
theorem lst_L (l : List Tr) : (lst l).L = l := rfl
theorem PI.snoc (hl : PL a b l) (hy : PI c d y) (h1 : i ≤ a) (h2 : b ≤ c) (h3 : d ≤ j) (h6 : i < a ∨ b < c ∨ d < j) (h4 : i ≤ p) (h5 : p < j) : PI i j (.mk k p n s (l ++ [y])) := PI.of h4 h5 (PL.snoc hl hy h1 h2 h3).1 (by have := hy.2; have := hl.2; rw [cntL_snoc]; omega)
end
/-- What is so of what a rule makes. -/
def Post : NT → Nat → Tr → Nat → Prop
 | .items, i, x, j | .cons, i, x, j | .labs, i, x, j | .ands, i, x, j | .patoms, i, x, j | .patomsR, i, x, j | .arms, i, x, j | .armsR, i, x, j | .tupR, i, x, j | .appR, i, x, j | .elems .., i, x, j | .fieldsR .., i, x, j | .ptupR, i, x, j | .tprodR, i, x, j => PL i j x.L
 | .letN _ p, i, x, j => PL i j x.L ∧ x.pl = p ∧ i < j
 | .joinR _ y, i, x, j | .postR y, i, x, j | .patR y, i, x, j | .tpostR y, i, x, j => i ≤ j ∧ ∀ s, PI s i y → PI s j x
 | _, i, x, j => PI i j x
theorem Post.le {n : NT} {i : Nat} {x : Tr} {j : Nat} (h : Post n i x j) : i ≤ j := by
 cases n <;> first | exact PL.le h | exact Nat.le_of_lt (PI.lt h) | exact h.1 | exact h.1.le
def Sat (ts : List Tk) (rec : NT → Nat → Res) (p : Pg) (i : Nat) (Q : Tr → Nat → Prop) : Prop := ∀ x j, exec ts rec p i = .ok (x, j) → Q x j
section
variable {ts : List Tk} {rec : NT → Nat → Res} {i : Nat} {Q : Tr → Nat → Prop}
theorem Sat.ret {x : Tr} (h : Q x i) : Sat ts rec (.ret x) i Q := fun y j e => by
 simp only [exec, Except.ok.injEq, Prod.mk.injEq] at e
 obtain ⟨rfl, rfl⟩ := e
 exact h
theorem Sat.bad : Sat ts rec .bad i Q := fun y j e => by cases e
theorem Sat.call (hr : ∀ n i x j, rec n i = .ok (x, j) → Post n i x j) {n : NT} {k : Tr → Pg} (h : ∀ x j, Post n i x j → i ≤ j → Sat ts rec (k x) j Q) : Sat ts rec (.call n k) i Q := fun y j e => by
 unfold exec at e
 cases g : rec n i with
 | error m => rw [g] at e; cases e
 | ok xj =>
  obtain ⟨x, q⟩ := xj
  rw [g] at e
  exact h x q (hr n i x q g) (hr n i x q g).le y j e
theorem Sat.test {p : Tk → Bool} {y n : Pg} (h1 : Sat ts rec y i Q) (h2 : Sat ts rec n i Q) : Sat ts rec (.test p y n) i Q := fun z j e => by
 unfold exec at e
 split at e
 ·exact h1 z j e
 ·exact h2 z j e
theorem Sat.eat {k : Tk → Pg} (h : ∀ t, i < ts.length → Sat ts rec (k t) (i + 1) Q) : Sat ts rec (.eat k) i Q := fun z j e => by
 unfold exec at e
 split at e
 ·rename_i c; exact h _ c z j e
 ·cases e
theorem Sat.here {k : Nat → Pg} (h : Sat ts rec (k i) i Q) : Sat ts rec (.here k) i Q := fun z j e => h z j e
theorem Sat.skip {s : List UInt8} {y n : Pg} (h1 : i < ts.length → Sat ts rec y (i + 1) Q) (h2 : Sat ts rec n i Q) : Sat ts rec (Pg.skip s y n) i Q := .test (.eat fun _ => h1) h2
theorem Sat.must {s : List UInt8} {y : Pg} (h1 : i < ts.length → Sat ts rec y (i + 1) Q) : Sat ts rec (Pg.must s y) i Q := .test (.eat fun _ => h1) .bad
theorem Sat.opt {s : List UInt8} {y : Pg} (h1 : i < ts.length → Sat ts rec y (i + 1) Q) (h2 : Sat ts rec y i Q) : Sat ts rec (Pg.opt s y) i Q := .test (.eat fun _ => h1) h2
theorem Sat.token {k : Int} {y : Tk → Pg} (h1 : ∀ t, i < ts.length → Sat ts rec (y t) (i + 1) Q) : Sat ts rec (Pg.token k y) i Q := .test (.eat h1) .bad
end
theorem post_elN (p : Bool) (i : Nat) (x : Tr) (j : Nat) : Post (elN p) i x j = PI i j x := by cases p <;> rfl
theorem mkJ_pi {s : List UInt8} {p i j a b c d : Nat} {x y : Tr} (hx : PI a b x) (hy : PI c d y) (h1 : i ≤ a) (h2 : b < c) (h3 : d ≤ j) (h4 : i ≤ p) (h5 : p < j) : PI i j (mkJ s p x y) := by
 unfold mkJ
 split
 ·refine PI.of h4 h5 (.cons (Nat.le_refl _) (.mk h4 h5 (.cons h1 hx.1 (by have := hy.lt; omega) (.cons (by omega) hy.1 h3 .nil))) (Nat.le_refl _) .nil) ?_
  have := hx.2; have := hy.2; simp only [cntL, Tr.cnt]; omega
 ·exact PI.two hx hy h1 (by omega) h3 h4 h5
theorem body_post {ts : List Tk} {rec : NT → Nat → Res} (hr : ∀ n i x j, rec n i = .ok (x, j) → Post n i x j) (n : NT) (i : Nat) : Sat ts rec (body n) i (Post n i) := by
 cases n
 case join lv =>
  simp only [body]
  split
  ·refine Sat.call hr (fun x j hx hij => Sat.ret ?_)
   exact hx
  ·split
   ·refine Sat.call hr (fun x j hx hij => Sat.call hr (fun y q hy hjq => Sat.ret ?_))
    exact hy.2 i hx
   ·refine Sat.call hr (fun x j hx hij => Sat.here (Sat.test (Sat.eat fun t ht => Sat.call hr (fun y q hy hjq => Sat.ret ?_)) (Sat.ret hx)))
    exact mkJ_pi hx hy (Nat.le_refl _) (Nat.lt_succ_self _) (Nat.le_refl _) hij (by omega)
 case joinR lv z =>
  simp only [body]
  refine Sat.here (Sat.test (Sat.eat fun t ht => Sat.call hr (fun y q hy hjq => Sat.call hr (fun v u hv huq => Sat.ret ?_))) (Sat.ret ⟨Nat.le_refl _, fun s h => h⟩))
  exact ⟨by omega, fun s h => hv.2 s (mkJ_pi h hy (Nat.le_refl _) (Nat.lt_succ_self _) (Nat.le_refl _) (Nat.le_of_lt h.lt) (by omega))⟩
 case postR z =>
  simp only [body]
  refine Sat.here (Sat.skip (fun ht => Sat.token fun t ht' => Sat.call hr (fun v u hv huq => Sat.ret ?_)) (Sat.skip (fun ht => Sat.call hr (fun y q hy hjq => Sat.must fun ht' => Sat.call hr (fun v u hv huq => Sat.ret ?_))) (Sat.ret ⟨Nat.le_refl _, fun s h => h⟩)))
  ·exact ⟨by omega, fun s h => hv.2 s (PI.one h (Nat.le_refl _) (by omega) (by omega) (Nat.le_of_lt h.lt) (by omega))⟩
  ·exact ⟨by omega, fun s h => hv.2 s (PI.two h hy (Nat.le_refl _) (by omega) (by omega) (Nat.le_of_lt h.lt) (by omega))⟩
 case patR z =>
  simp only [body]
  refine Sat.here (Sat.skip (fun ht => Sat.token fun t ht' => Sat.call hr (fun v u hv huq => Sat.ret ?_)) (Sat.ret ⟨Nat.le_refl _, fun s h => h⟩))
  exact ⟨by omega, fun s h => hv.2 s (PI.one h (Nat.le_refl _) (by omega) (by omega) (Nat.le_of_lt h.lt) (by omega))⟩
 case tpostR z =>
  simp only [body]
  refine Sat.here (Sat.test (Sat.eat fun t ht => Sat.call hr (fun v u hv huq => Sat.ret ?_)) (Sat.ret ⟨Nat.le_refl _, fun s h => h⟩))
  exact ⟨by omega, fun s h => hv.2 s (PI.one h (Nat.le_refl _) (by omega) (by omega) (Nat.le_of_lt h.lt) (by omega))⟩
 case letN k q =>
  simp only [body]
  refine Sat.test (Sat.eat fun t ht => Sat.call hr (fun x j hx hij => Sat.call hr (fun y u hy hju => Sat.ret ?_))) (Sat.call hr (fun x j hx hij => Sat.call hr (fun y u hy hju => Sat.ret ?_)))
  ·exact ⟨PL.row hx hy (by omega) (by omega) (by omega), rfl, by omega⟩
  ·have := PI.lt hx
   exact ⟨PL.row hx hy (by omega) (by omega) (by omega), rfl, by omega⟩
 case bind =>
  simp only [body]
  refine Sat.here (Sat.call hr (fun x j hx hij => Sat.here (Sat.skip (fun ht => Sat.call hr fun y u hy hju => Sat.ret ?_) ?_)))
  ·exact PI.two hx hy (by omega) (by omega) (by omega) (by omega) (by omega)
  ·split
   ·refine Sat.call hr fun r u hu hju => Sat.must fun ht => Sat.call hr fun y v hy huv => Sat.ret ?_
    have h1 : PI j v (.mk 17 j 0 [] (r.L ++ [y])) := PI.snoc hu hy (by omega) (by omega) (by omega) (by omega) (by omega) (by omega)
    exact PI.two hx h1 (by omega) (by omega) (by omega) (by omega) (by omega)
   ·exact Sat.bad
 case pcons =>
  simp only [body]
  refine Sat.call hr (fun x j hx hij => Sat.here (Sat.skip (fun ht => Sat.call hr fun y u hy hju => Sat.ret ?_) (Sat.ret hx)))
  have hx' := PI.parts (x := lst [x]) (i := i) (j := j)
  refine PI.of hij (by omega) (.cons (Nat.le_refl _) (.mk hij (by omega) (.cons (Nat.le_refl _) hx.1 (by have := PI.lt hy; omega) (.cons (by omega) hy.1 (Nat.le_refl _) .nil))) (Nat.le_refl _) .nil) ?_
  have := hx.2; have := hy.2; simp only [cntL, Tr.cnt]; omega
 case app =>
  simp only [body]
  refine Sat.here (Sat.skip (fun ht => Sat.call hr fun x j hx hij => Sat.ret ?_) (Sat.test (Sat.eat fun t ht => Sat.test (Sat.call hr fun x j hx hij => Sat.ret ?_) (Sat.ret ?_)) (Sat.call hr fun x j hx hij => Sat.call hr fun r u hu hju => Sat.ret ?_)))
  ·exact PI.one hx (by omega) (by omega) (by omega) (by omega) (by omega)
  ·exact PI.one hx (by omega) (by omega) (by omega) (by omega) (by omega)
  ·exact PI.nil (by omega) (by omega)
  ·have hu' : PL j u r.L := hu
   cases e : r.L with
   | nil => exact PI.mono hx (by omega) (by omega)
   | cons y l =>
    rw [e] at hu'
    have hp := PI.pl hx
    have hq := PL.row hx hu' (Nat.le_refl _) (Nat.le_refl _) (Nat.le_refl _)
    exact PI.of (by omega) (by omega) hq.1 (by have := hq.2; simp only [List.length_cons] at this; omega)
 case expr =>
  simp only [body]
  refine Sat.here ?_
  refine Sat.skip (fun h0 => Sat.call hr fun n' j hn hij => Sat.must fun ht => Sat.call hr fun y u hy hju => Sat.ret ?_) ?_
  ·have hn' : PL (i + 1) j n'.L ∧ n'.pl = i ∧ i + 1 < j := hn
   have : n'.more y = .mk n'.kind i n'.N n'.S (n'.L ++ [y]) := by unfold Tr.more; rw [hn'.2.1]
   rw [this]
   exact PI.snoc hn'.1 hy (by omega) (by omega) (by omega) (by omega) (by omega) (by omega)
  (repeat' (first
   | exact Sat.bad
   | refine Sat.ret ?_
   | refine Sat.skip (fun ht => ?_) ?_
   | refine Sat.must (fun ht => ?_)
   | refine Sat.opt (fun ht => ?_) ?_
   | refine Sat.token (fun t ht => ?_)
   | refine Sat.here ?_
   | refine Sat.eat (fun t ht => ?_)
   | refine Sat.test ?_ ?_
   | refine Sat.call hr (fun x j hx hij => ?_)))
  any_goals (first | (clear hr; simp only [Post, lst_L] at *; (first
    | exact PI.nil (by omega) (by omega)
    | exact PI.one (by assumption) (by omega) (by omega) (by omega) (by omega) (by omega)
    | exact PI.two (by assumption) (by assumption) (by omega) (by omega) (by omega) (by omega) (by omega)
    | exact PI.three (by assumption) (by assumption) (by assumption) (by omega) (by omega) (by omega) (by omega) (by omega) (by omega)
    | exact PI.row (by assumption) (by assumption) (by omega) (by omega) (by omega) (by omega) (by omega) (by omega)
    | exact PI.row2 (by assumption) (by assumption) (by assumption) (by omega) (by omega) (by omega) (by omega) (by omega) (by omega)
    | exact PI.list (by assumption) (by omega) (by omega) (by omega) (by omega) (by omega)
    | exact PI.snoc (by assumption) (by assumption) (by omega) (by omega) (by omega) (by omega) (by omega) (by omega)
    | exact PI.mono (by assumption) (by omega) (by omega)
    | exact PL.nil (by omega)
    | exact PL.row (by assumption) (by assumption) (by omega) (by omega) (by omega)
    | exact PL.one (by assumption) (by omega) (by omega)
    | assumption)) | skip)
  have hz : ∀ (k : Int) (s : List UInt8), Sat ts rec (.eat fun _ => .call .expr fun y => .ret (.mk k j 0 s (x.L ++ [y]))) j (Post .expr i) := by
   intro k s
   refine Sat.eat fun t ht => Sat.call hr fun y u hy hju => Sat.ret ?_
   obtain ⟨h1, h2⟩ := PI.parts hx
   exact PI.of hij (by omega) (h1.snoc hij (by omega) hy.1 (Nat.le_refl _)) (by have := hy.2; rw [cntL_snoc]; omega)
  split
  ·exact hz _ _
  ·split
   ·exact hz _ _
   ·exact Sat.bad
 case post =>
  simp only [body]
  refine Sat.here (Sat.skip (fun ht => Sat.call hr fun x j hx hij => Sat.ret ?_) (Sat.call hr fun x j hx hij => Sat.call hr fun y u hy hju => Sat.ret (hy.2 i hx)))
  exact PI.one hx (by omega) (by omega) (by omega) (by omega) (by omega)
 case pat =>
  simp only [body]
  exact Sat.call hr fun x j hx hij => Sat.call hr fun y u hy hju => Sat.ret (hy.2 i hx)
 case tpost =>
  simp only [body]
  refine Sat.test (Sat.eat fun t ht => Sat.call hr fun x j hx hij => Sat.must fun ht' => Sat.call hr fun y u hy hju => Sat.ret (hy.2 i ?_)) (Sat.here (Sat.token fun t ht => Sat.call hr fun y u hy hju => Sat.ret (hy.2 i ?_)))
  ·exact PI.mono hx (by omega) (by omega)
  ·exact PI.nil (by omega) (by omega)
 case elems e p =>
  simp only [body]
  refine Sat.test (Sat.ret (PL.nil (Nat.le_refl _))) (Sat.call hr fun x j hx hij => Sat.skip (fun ht => Sat.call hr fun y u hy hju => Sat.ret ?_) (Sat.ret ?_))
  ·rw [post_elN] at hx
   exact PL.row hx hy (by omega) (by omega) (by omega)
  ·rw [post_elN] at hx
   exact PL.one hx (by omega) (by omega)
 case field p =>
  simp only [body]
  refine Sat.here (Sat.token fun t ht => Sat.must fun ht' => Sat.call hr fun x j hx hij => Sat.ret ?_)
  rw [post_elN] at hx
  exact PI.one hx (by omega) (by omega) (by omega) (by omega) (by omega)
 case item =>
  simp only [body]
  refine Sat.here (Sat.skip (fun ht => Sat.call hr fun x j hx hij => Sat.ret ?_) (Sat.skip (fun ht => Sat.token fun t ht' => Sat.must fun ht'' => Sat.skip (fun h3 => Sat.call hr fun x j hx hij => Sat.call hr fun y u hy hju => Sat.must fun h4 => Sat.ret ?_) (Sat.opt (fun h5 => Sat.call hr fun x j hx hij => Sat.call hr fun y u hy hju => Sat.ret ?_) (Sat.call hr fun x j hx hij => Sat.call hr fun y u hy hju => Sat.ret ?_))) (Sat.must fun h6 => Sat.call hr fun x j hx hij => Sat.ret ?_)))
  ·obtain ⟨h1, h2, h3⟩ := hx
   show PI i j x
   rw [PI.eta x]
   exact PI.list h1 (by omega) (by omega) (by omega) (by omega) (by omega)
  ·exact PI.row hx hy (by omega) (by omega) (by omega) (by omega) (by omega) (by omega)
  ·exact PI.row hx hy (by omega) (by omega) (by omega) (by omega) (by omega) (by omega)
  ·exact PI.row hx hy (by omega) (by omega) (by omega) (by omega) (by omega) (by omega)
  ·obtain ⟨h1, h2⟩ := PI.parts hx
   exact PI.of (by omega) (by omega) (h1.mono (by omega) (by omega)) (by omega)
 all_goals simp only [body]
 all_goals (repeat' (first
   | exact Sat.bad
   | refine Sat.ret ?_
   | refine Sat.skip (fun ht => ?_) ?_
   | refine Sat.must (fun ht => ?_)
   | refine Sat.opt (fun ht => ?_) ?_
   | refine Sat.token (fun t ht => ?_)
   | refine Sat.here ?_
   | refine Sat.eat (fun t ht => ?_)
   | refine Sat.test ?_ ?_
   | refine Sat.call hr (fun x j hx hij => ?_)))
 all_goals clear hr
 all_goals simp only [Post, lst_L] at *
 all_goals (first
    | exact PI.nil (by omega) (by omega)
    | exact PI.one (by assumption) (by omega) (by omega) (by omega) (by omega) (by omega)
    | exact PI.two (by assumption) (by assumption) (by omega) (by omega) (by omega) (by omega) (by omega)
    | exact PI.three (by assumption) (by assumption) (by assumption) (by omega) (by omega) (by omega) (by omega) (by omega) (by omega)
    | exact PI.row (by assumption) (by assumption) (by omega) (by omega) (by omega) (by omega) (by omega) (by omega)
    | exact PI.row2 (by assumption) (by assumption) (by assumption) (by omega) (by omega) (by omega) (by omega) (by omega) (by omega)
    | exact PI.list (by assumption) (by omega) (by omega) (by omega) (by omega) (by omega)
    | exact PI.snoc (by assumption) (by assumption) (by omega) (by omega) (by omega) (by omega) (by omega) (by omega)
    | exact PI.mono (by assumption) (by omega) (by omega)
    | exact PL.nil (by omega)
    | exact PL.row (by assumption) (by assumption) (by omega) (by omega) (by omega)
    | exact PL.one (by assumption) (by omega) (by omega)
    | assumption)
theorem run_post {ts : List Tk} : ∀ (n : Nat) (nt : NT) (i : Nat) (x : Tr) (j : Nat), run ts n nt i = .ok (x, j) → Post nt i x j
 | 0, nt, i, x, j, h => by cases h
 | n + 1, nt, i, x, j, h => body_post (fun nt' i' x' j' h' => run_post n nt' i' x' j' h') nt i x j h
theorem reads_post {ts : List Tk} {nt : NT} {i : Nat} {x : Tr} {j : Nat} (h : reads ts nt i = .ok (x, j)) : Post nt i x j := run_post _ nt i x j h
end Go.Proofs.YthjmakjhidjbaaaGreat

/-
 Layer 8, plain: a rule step by step; how many parts a node has that something may be put into; a pattern that is one token. No program is named.
-/
namespace Go.Proofs.YthjmakjhidjbaaaGreat
set_option linter.unusedVariables false
set_option linter.unusedSimpArgs false
set_option maxHeartbeats 1000000

section
variable {ts : List Tk} {R : Res} {i j m : Nat} {x : Tr} {n : NT} {k : Tr → Pg} {p : Tk → Bool} {y z : Pg} {s : List UInt8} {kt : Tk → Pg} {kh : Nat → Pg} {kd : Int}
theorem ex_ret (h : R = exec ts (reads ts) (.ret x) i) : R = .ok (x, i) := h
theorem ex_bad (h : R = exec ts (reads ts) .bad i) : R = .error i := h
theorem ex_ok (h : R = exec ts (reads ts) (.call n k) i) (e : reads ts n i = .ok (x, j)) : R = exec ts (reads ts) (k x) j := by rw [h]; simp only [exec, e]
theorem ex_err (h : R = exec ts (reads ts) (.call n k) i) (e : reads ts n i = .error m) : R = .error m := by rw [h]; simp only [exec, e]
theorem ex_yes (h : R = exec ts (reads ts) (.test p y z) i) (e : p (tk ts i) = true) : R = exec ts (reads ts) y i := by rw [h]; simp only [exec, e, if_true]
theorem ex_no (h : R = exec ts (reads ts) (.test p y z) i) (e : p (tk ts i) = false) : R = exec ts (reads ts) z i := by rw [h]; simp [exec, e]
theorem ex_eat (h : R = exec ts (reads ts) (.eat kt) i) (e : i < ts.length) : R = exec ts (reads ts) (kt (tk ts i)) (i + 1) := by rw [h]; simp only [exec, if_pos e]
theorem ex_here (h : R = exec ts (reads ts) (.here kh) i) : R = exec ts (reads ts) (kh i) i := h
theorem isS_in (e : isS s (tk ts i) = true) : i < ts.length := by
 rcases Nat.lt_or_ge i ts.length with c | c
 ·exact c
 ·unfold tk at e
  rw [List.getD_eq_getElem?_getD, List.getElem?_eq_none c] at e
  simp [isS] at e
theorem isK_in (e : isK kd (tk ts i) = true) (h0 : kd ≠ 0) : i < ts.length := by
 rcases Nat.lt_or_ge i ts.length with c | c
 ·exact c
 ·unfold tk at e
  rw [List.getD_eq_getElem?_getD, List.getElem?_eq_none c] at e
  simp [isK] at e
  exact absurd e.symm h0
theorem ex_skip (h : R = exec ts (reads ts) (.skip s y z) i) (e : isS s (tk ts i) = true) : R = exec ts (reads ts) y (i + 1) := ex_eat (kt := fun _ => y) (ex_yes h e) (isS_in e)
theorem ex_skipN (h : R = exec ts (reads ts) (.skip s y z) i) (e : isS s (tk ts i) = false) : R = exec ts (reads ts) z i := ex_no h e
theorem ex_must (h : R = exec ts (reads ts) (.must s y) i) (e : isS s (tk ts i) = true) : R = exec ts (reads ts) y (i + 1) := ex_eat (kt := fun _ => y) (ex_yes h e) (isS_in e)
theorem ex_mustN (h : R = exec ts (reads ts) (.must s y) i) (e : isS s (tk ts i) = false) : R = .error i := ex_no h e
theorem ex_opt (h : R = exec ts (reads ts) (.opt s y) i) (e : isS s (tk ts i) = true) : R = exec ts (reads ts) y (i + 1) := ex_eat (kt := fun _ => y) (ex_yes h e) (isS_in e)
theorem ex_optN (h : R = exec ts (reads ts) (.opt s y) i) (e : isS s (tk ts i) = false) : R = exec ts (reads ts) y i := ex_no h e
theorem ex_token (h : R = exec ts (reads ts) (.token kd kt) i) (e : isK kd (tk ts i) = true) (h0 : kd ≠ 0) : R = exec ts (reads ts) (kt (tk ts i)) (i + 1) := ex_eat (ex_yes h e) (isK_in e h0)
theorem ex_tokenN (h : R = exec ts (reads ts) (.token kd kt) i) (e : isK kd (tk ts i) = false) : R = .error i := ex_no h e
theorem ex_rule (hi : i ≤ ts.length) : reads ts n i = exec ts (reads ts) (body n) i := reads_eq n hi
end
/-- What may have something put into it has one part, or two. -/
def GK (x : Tr) : Prop := (x.kind = 12 → ∃ a, x.L = [a]) ∧ (x.kind = 14 → ∃ a b, x.L = [a, b])
def GKn : NT → Tr → Prop
 | .letN k _, x | .con k, x => x.kind = k
 | .joinR _ x0, x | .postR x0, x | .patR x0, x | .tpostR x0, x => GK x0 → GK x
 | _, x => GK x
theorem Sat.callK {ts : List Tk} {rec : NT → Nat → Res} {i : Nat} {Q : Tr → Nat → Prop} (hr : ∀ n i x j, rec n i = .ok (x, j) → GKn n x) {n : NT} {k : Tr → Pg} (h : ∀ x j, GKn n x → Sat ts rec (k x) j Q) : Sat ts rec (.call n k) i Q := fun y j e => by
 unfold exec at e
 cases hx : rec n i with
 | error m => rw [hx] at e; cases e
 | ok xj =>
  obtain ⟨x, j'⟩ := xj
  rw [hx] at e
  exact h x j' (hr n i x j' hx) y j e
theorem gk_mkJ (s : List UInt8) (p : Nat) (x y : Tr) : GK (mkJ s p x y) := by
 unfold mkJ
 split <;> exact ⟨fun h => by simp [Tr.kind] at h, fun h => by simp [Tr.kind] at h⟩
theorem gk_more {t x : Tr} (h1 : t.kind ≠ 12) (h2 : t.kind ≠ 14) : GK (t.more x) := ⟨fun h => absurd h h1, fun h => absurd h h2⟩
theorem gk_ne {k : Int} {p : Nat} {v : Int} {s : List UInt8} {l : List Tr} (h1 : k ≠ 12) (h2 : k ≠ 14) : GK (.mk k p v s l) := ⟨fun h => absurd h h1, fun h => absurd h h2⟩
theorem gk_at {x : Tr} {p : Nat} (h : GK x) : GK (x.at_ p) := h
end Go.Proofs.YthjmakjhidjbaaaGreat
