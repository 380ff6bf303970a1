/-
  Several small texts in one; each tells at its head what it proves, and on what condition.
-/
import Derived.Test.YthjmakjhidjbaaaGreatX8Tail
import Derived.Test.YthjmakjhidjbaaaGreatLibAB

/-
 Layer 8, plain: how many parts a node has that something may be put into. No program is named.
-/
namespace Go.Proofs.YthjmakjhidjbaaaGreat
set_option linter.unusedVariables false
set_option linter.unusedSimpArgs false
set_option maxHeartbeats 2000000

theorem gk_is {x : Tr} {k : Int} (h : x.kind = k) (h1 : k ≠ 12) (h2 : k ≠ 14) : GK x := ⟨fun e => absurd (h.symm.trans e) h1, fun e => absurd (h.symm.trans e) h2⟩
theorem gk_12 {p : Nat} {v : Int} {s : List UInt8} {a : Tr} : GK (.mk 12 p v s [a]) := ⟨fun _ => ⟨_, rfl⟩, fun h => absurd h (by show (12 : Int) ≠ 14; decide)⟩
theorem gk_14 {p : Nat} {v : Int} {s : List UInt8} {a b : Tr} : GK (.mk 14 p v s [a, b]) := ⟨fun h => absurd h (by show (14 : Int) ≠ 12; decide), fun _ => ⟨_, _, rfl⟩⟩
theorem gk_lst (l : List Tr) : GK (lst l) := gk_ne (by decide) (by decide)
theorem body_gk {ts : List Tk} {rec : NT → Nat → Res} (hr : ∀ n i x j, rec n i = .ok (x, j) → GKn n x) (n : NT) (i : Nat) : Sat ts rec (body n) i (fun x _ => GKn n x) := by
 cases n
 case join lv =>
  simp only [body]
  split
  ·exact .callK hr fun x j hx => .ret hx
  ·split
   ·exact .callK hr fun x j hx => .callK hr fun y j hy => .ret (hy hx)
   ·exact .callK hr fun x j hx => .here (.test (.eat fun t _ => .callK hr fun y j hy => .ret (gk_mkJ _ _ _ _)) (.ret hx))
 case joinR lv x => exact .here (.test (.eat fun t _ => .callK hr fun y j hy => .callK hr fun z j hz => .ret (fun _ => hz (gk_mkJ _ _ _ _))) (.ret id))
 case bind =>
  refine .here (.callK hr fun p j hp => .here (.skip (fun _ => .callK hr fun x j hx => .ret (gk_ne (by decide) (by decide))) ?_))
  split
  ·exact .callK hr fun r j hr' => .must fun _ => .callK hr fun x j hx => .ret (gk_ne (by decide) (by decide))
  ·exact .bad
 case app =>
  refine .here (.skip (fun _ => .callK hr fun x j hx => .ret (gk_ne (by decide) (by decide))) (.test (.eat fun t _ => .test (.callK hr fun x j hx => .ret (gk_ne (by decide) (by decide))) (.ret (gk_ne (by decide) (by decide)))) (.callK hr fun x j hx => .callK hr fun r j hr' => .ret ?_)))
  show GK _
  split
  ·exact hx
  ·exact gk_ne (by decide) (by decide)
 case postR x =>
  exact .here (.skip (fun _ => .token fun t _ => .callK hr fun y j hy => .ret (fun _ => hy gk_12)) (.skip (fun _ => .callK hr fun y j hy => .must fun _ => .callK hr fun z j hz => .ret (fun _ => hz gk_14)) (.ret id)))
 case patR x => exact .here (.skip (fun _ => .token fun t _ => .callK hr fun y j hy => .ret (fun _ => hy (gk_ne (by decide) (by decide)))) (.ret id))
 case tpostR x => exact .here (.test (.eat fun t _ => .callK hr fun y j hy => .ret (fun _ => hy (gk_ne (by decide) (by decide)))) (.ret id))
 case fields p =>
  cases p
  all_goals exact .here (.must fun _ => .callK hr fun x j hx => .callK hr fun r j hr' => .must fun _ => .ret (gk_ne (by decide) (by decide)))
 case field p =>
  cases p
  all_goals exact .here (.token fun t _ => .must fun _ => .callK hr fun x j hx => .ret (gk_ne (by decide) (by decide)))
 case elems e p => exact .test (.ret (gk_lst _)) (.callK hr fun x j hx => .skip (fun _ => .callK hr fun r j hr' => .ret (gk_lst _)) (.ret (gk_lst _)))
 case letN k p => exact .test (.eat fun _ _ => .callK hr fun x j hx => .callK hr fun r j hr' => .ret rfl) (.callK hr fun x j hx => .callK hr fun r j hr' => .ret rfl)
 case con k => exact .here (.token fun t _ => .skip (fun _ => .callK hr fun x j hx => .ret rfl) (.ret rfl))
 case expr =>
  refine .here (.skip (fun _ => .callK hr fun n j hn => .must fun _ => .callK hr fun x j hx => .ret ?_) (.skip (fun _ => .callK hr fun l j hl => .must fun _ => .callK hr fun x j hx => .ret (gk_ne (by decide) (by decide))) (.skip (fun _ => .callK hr fun l j hl => .ret (gk_ne (by decide) (by decide))) (.skip (fun _ => .callK hr fun x j hx => .must fun _ => .callK hr fun l j hl => .ret (gk_ne (by decide) (by decide))) (.skip (fun _ => .callK hr fun x j hx => .must fun _ => .callK hr fun l j hl => .ret (gk_ne (by decide) (by decide))) (.skip (fun _ => .callK hr fun x j hx => .must fun _ => .callK hr fun y j hy => .skip (fun _ => .callK hr fun z j hz => .ret (gk_ne (by decide) (by decide))) (.ret (gk_ne (by decide) (by decide)))) (.skip (fun _ => .callK hr fun x j hx => .must fun _ => .callK hr fun y j hy => .must fun _ => .ret (gk_ne (by decide) (by decide))) (.skip (fun _ => .token fun t _ => .must fun _ => .callK hr fun x j hx => .skip (fun _ => .callK hr fun y j hy => .must fun _ => .callK hr fun z j hz => .must fun _ => .ret (gk_ne (by decide) (by decide))) (.must fun _ => .callK hr fun y j hy => .must fun _ => .callK hr fun z j hz => .must fun _ => .ret (gk_ne (by decide) (by decide)))) (.callK hr fun x j hx => .here (.skip (fun _ => .callK hr fun y j hy => .ret (gk_ne (by decide) (by decide))) (.test ?_ (.ret hx))))))))))))
  ·have hn' : n.kind = 19 := hn
   exact gk_more (by rw [hn']; decide) (by rw [hn']; decide)
  ·split
   ·exact .eat fun _ _ => .callK hr fun y j hy => .ret (gk_ne (by decide) (by decide))
   ·split
    ·exact .eat fun _ _ => .callK hr fun y j hy => .ret (gk_ne (by decide) (by decide))
    ·exact .bad
 case item =>
  refine .here (.skip (fun _ => .callK hr fun x j hx => .ret (gk_is (show x.kind = 205 from hx) (by decide) (by decide))) (.skip (fun _ => .token fun t _ => .must fun _ => .skip (fun _ => .callK hr fun x j hx => .callK hr fun r j hr' => .must fun _ => .ret (gk_ne (by decide) (by decide))) (.opt (fun _ => .callK hr fun x j hx => .callK hr fun r j hr' => .ret (gk_ne (by decide) (by decide))) (.callK hr fun x j hx => .callK hr fun r j hr' => .ret (gk_ne (by decide) (by decide))))) (.must fun _ => .callK hr fun x j hx => .ret (gk_is (show x.kind = 210 from hx) (by decide) (by decide)))))
 case post => exact .here (.skip (fun _ => .callK hr fun x j hx => .ret (gk_ne (by decide) (by decide))) (.callK hr fun x j hx => .callK hr fun y j hy => .ret (hy hx)))
 case pat => exact .callK hr fun x j hx => .callK hr fun y j hy => .ret (hy hx)
 case tpost => exact .test (.eat fun _ _ => .callK hr fun x j hx => .must fun _ => .callK hr fun y j hy => .ret (hy hx)) (.here (.token fun t _ => .callK hr fun y j hy => .ret (hy (gk_ne (by decide) (by decide)))))
 all_goals
  simp only [body, Pg.skip, Pg.must, Pg.opt, Pg.token]
  repeat' (first
   | exact Sat.bad
   | refine Sat.test ?_ ?_
   | refine Sat.eat fun t _ => ?_
   | refine Sat.here ?_
   | refine Sat.callK hr fun x j hx => ?_
   | refine Sat.ret ?_)
  all_goals first
   | exact gk_lst _
   | exact gk_ne (by decide) (by decide)
   | assumption
theorem run_gk {ts : List Tk} : ∀ (n : Nat) (nt : NT) (i : Nat) (x : Tr) (j : Nat), run ts n nt i = .ok (x, j) → GKn nt x
 | 0, nt, i, x, j, h => by simp [run] at h
 | n + 1, nt, i, x, j, h => body_gk (run_gk n) nt i x j h
theorem reads_gk {ts : List Tk} {nt : NT} {i : Nat} {x : Tr} {j : Nat} (h : reads ts nt i = .ok (x, j)) : GKn nt x := run_gk _ nt i x j h
end Go.Proofs.YthjmakjhidjbaaaGreat

/-
 Layer 8, plain: what a rule makes of tokens hangs on nothing behind the last token that it looked at; where it stops at the end, it stops at each sign that nothing goes on with. No program is named.
-/
namespace Go.Proofs.YthjmakjhidjbaaaGreat
set_option linter.unusedVariables false
set_option linter.unusedSimpArgs false
set_option maxHeartbeats 1000000

section
variable {ts ts' : List Tk}
theorem exec_same {rec rec' : NT → Nat → Res} {m : Nat} (hr : ∀ n i, i ≤ ts.length → Fine ts n i (rec n i)) (hq : ∀ n j, j ≤ ts.length → last (rec n j) ≤ m → rec' n j = rec n j) (ht : ∀ j, j ≤ m → tk ts' j = tk ts j ∧ (j < ts'.length ↔ j < ts.length)) : ∀ (p : Pg) (i : Nat), i ≤ ts.length → last (exec ts rec p i) ≤ m → exec ts' rec' p i = exec ts rec p i
 | .ret x, i, hi, h => rfl
 | .bad, i, hi, h => rfl
 | .call n k, i, hi, h => by
  obtain ⟨h1, h2, h3⟩ := hr n i hi
  unfold exec at h ⊢
  cases g : rec n i with
  | error e =>
   rw [g] at h
   have := hq n i hi (by rw [g]; exact h)
   rw [this, g]
  | ok xj =>
   obtain ⟨x, j⟩ := xj
   rw [g] at h h2
   have h4 : j ≤ ts.length := h2
   have h5 := (exec_ge hr (k x) j h4).1
   have := hq n i hi (by rw [g]; exact Nat.le_trans h5 h)
   rw [this, g]
   exact exec_same hr hq ht (k x) j h4 h
 | .test p y n, i, hi, h => by
  have hm : i ≤ m := Nat.le_trans (exec_ge hr (.test p y n) i hi).1 h
  unfold exec at h ⊢
  rw [(ht i hm).1]
  split
  ·rename_i c; rw [if_pos c] at h; exact exec_same hr hq ht y i hi h
  ·rename_i c; rw [if_neg c] at h; exact exec_same hr hq ht n i hi h
 | .eat k, i, hi, h => by
  have hm : i ≤ m := Nat.le_trans (exec_ge hr (.eat k) i hi).1 h
  unfold exec at h ⊢
  rw [(ht i hm).1]
  by_cases c : i < ts.length
  ·rw [if_pos ((ht i hm).2.2 c), if_pos c]
   rw [if_pos c] at h
   exact exec_same hr hq ht (k (tk ts i)) (i + 1) c h
  ·rw [if_neg (fun d => c ((ht i hm).2.1 d)), if_neg c]
 | .here k, i, hi, h => by
  unfold exec at h ⊢
  exact exec_same hr hq ht (k i) i hi h
theorem run_same {m : Nat} (ht : ∀ j, j ≤ m → tk ts' j = tk ts j ∧ (j < ts'.length ↔ j < ts.length)) : ∀ (n : Nat) (nt : NT) (i : Nat), i ≤ ts.length → last (run ts n nt i) ≤ m → run ts' n nt i = run ts n nt i
 | 0, nt, i, hi, h => rfl
 | n + 1, nt, i, hi, h => exec_same (run_fine n) (fun n' j hj hl => run_same ht n n' j hj hl) ht (body nt) i hi h
/-- Tokens that are the same up to the one where it ends: it ends there, and so. -/
theorem reads_same {m : Nat} (ht : ∀ j, j ≤ m → tk ts' j = tk ts j ∧ (j < ts'.length ↔ j < ts.length)) {nt : NT} {i : Nat} (hi : i ≤ ts.length) (hi' : i ≤ ts'.length) (h : last (reads ts nt i) ≤ m) : reads ts' nt i = reads ts nt i := by
 rw [reads_run hi' (Nat.le_max_left _ (fuel ts nt i)), reads_run hi (Nat.le_max_right (fuel ts' nt i) _)]
 refine run_same ht _ nt i hi ?_
 rw [← reads_run hi (Nat.le_max_right _ _)]
 exact h
/-- The end. -/
def endT : Tk := ⟨0, [], 0⟩
theorem tk_end {i : Nat} (h : ts.length ≤ i) : tk ts i = endT := by
 unfold tk
 rw [List.getD_eq_getElem?_getD, List.getElem?_eq_none h]
 rfl
namespace Pg
/-- At the end it comes to nothing. -/
def dead : Pg → Prop
 | .ret _ => False
 | .bad => True
 | .call n _ => hard n = true
 | .test p y n => (p endT = true → dead y) ∧ (p endT = false → dead n)
 | .eat _ => True
 | .here k => ∀ i, dead (k i)
/-- Each test tells the same of c as of the end, or comes to nothing at the end. -/
def stops (c : Tk) : Pg → Prop
 | .ret _ => True
 | .bad => True
 | .call n k => n ≠ .items ∧ ∀ x, stops c (k x)
 | .test p y n => stops c y ∧ stops c n ∧ (p endT = p c ∨ (p endT = false ∧ dead n))
 | .eat k => ∀ t, stops c (k t)
 | .here k => ∀ i, stops c (k i)
end Pg
theorem exec_dead {rec : NT → Nat → Res} (hr : ∀ n i, i ≤ ts.length → Fine ts n i (rec n i)) : ∀ (p : Pg), p.dead → ∀ x j, exec ts rec p ts.length ≠ .ok (x, j)
 | .ret x, h, y, j => h.elim
 | .bad, h, y, j => by intro c; cases c
 | .call n k, h, y, j => by
  intro c
  obtain ⟨h1, h2, h3⟩ := hr n ts.length (Nat.le_refl _)
  unfold exec at c
  cases g : rec n ts.length with
  | error e => rw [g] at c; cases c
  | ok xj =>
   obtain ⟨x, j'⟩ := xj
   rw [g] at h2 h3
   have := h3 x j' rfl h
   have h4 : j' ≤ ts.length := h2
   omega
 | .test p y n, h, z, j => by
  have e : tk ts ts.length = endT := tk_end (Nat.le_refl _)
  unfold exec
  rw [e]
  cases c : p endT with
  | true => exact exec_dead hr y (h.1 c) z j
  | false => exact exec_dead hr n (h.2 c) z j
 | .eat k, h, y, j => by
  unfold exec
  rw [if_neg (Nat.lt_irrefl _)]
  intro c; cases c
 | .here k, h, y, j => by
  unfold exec
  exact exec_dead hr (k ts.length) (h _) y j
theorem exec_stop {rec rec' : NT → Nat → Res} {c : Tk} (hr : ∀ n i, i ≤ ts.length → Fine ts n i (rec n i)) (hq : ∀ n j x k, n ≠ .items → j ≤ ts.length → rec n j = .ok (x, k) → rec' n j = .ok (x, k)) (ht : ∀ j, j < ts.length → tk ts' j = tk ts j) (hl : ts.length ≤ ts'.length) (hc : tk ts' ts.length = c) : ∀ (p : Pg) (i : Nat), i ≤ ts.length → p.stops c → ∀ x j, exec ts rec p i = .ok (x, j) → exec ts' rec' p i = .ok (x, j)
 | .ret x, i, hi, hs, y, j, h => h
 | .bad, i, hi, hs, y, j, h => h
 | .call n k, i, hi, hs, y, j, h => by
  obtain ⟨h1, h2, h3⟩ := hr n i hi
  unfold exec at h ⊢
  cases g : rec n i with
  | error e => rw [g] at h; cases h
  | ok xj =>
   obtain ⟨x, j'⟩ := xj
   rw [g] at h h2
   rw [hq n i x j' hs.1 hi g]
   exact exec_stop hr hq ht hl hc (k x) j' h2 (hs.2 x) y j h
 | .test p y n, i, hi, hs, z, j, h => by
  by_cases e : i < ts.length
  ·unfold exec at h ⊢
   rw [ht i e]
   split
   ·rename_i d; rw [if_pos d] at h; exact exec_stop hr hq ht hl hc y i hi hs.1 z j h
   ·rename_i d; rw [if_neg d] at h; exact exec_stop hr hq ht hl hc n i hi hs.2.1 z j h
  ·have ei : i = ts.length := by omega
   subst ei
   have e0 : tk ts ts.length = endT := tk_end (Nat.le_refl _)
   rcases hs.2.2 with hp | ⟨hp, hd⟩
   ·unfold exec at h ⊢
    rw [hc, ← hp]
    rw [e0] at h
    split
    ·rename_i d; rw [if_pos d] at h; exact exec_stop hr hq ht hl hc y _ hi hs.1 z j h
    ·rename_i d; rw [if_neg d] at h; exact exec_stop hr hq ht hl hc n _ hi hs.2.1 z j h
   ·unfold exec at h
    rw [e0, hp] at h
    exact absurd h (exec_dead hr n hd z j)
 | .eat k, i, hi, hs, y, j, h => by
  unfold exec at h ⊢
  by_cases e : i < ts.length
  ·rw [if_pos e] at h
   rw [if_pos (by omega), ht i e]
   exact exec_stop hr hq ht hl hc _ (i + 1) e (hs _) y j h
  ·rw [if_neg e] at h; cases h
 | .here k, i, hi, hs, y, j, h => by
  unfold exec at h ⊢
  exact exec_stop hr hq ht hl hc (k i) i hi (hs i) y j h
/-- A sign that nothing goes on with. -/
def Closer (c : Tk) : Prop := ∀ n, n ≠ NT.items → (body n).stops c
theorem run_stop {c : Tk} (hk : Closer c) (ht : ∀ j, j < ts.length → tk ts' j = tk ts j) (hl : ts.length ≤ ts'.length) (hc : tk ts' ts.length = c) : ∀ (n : Nat) (nt : NT) (i : Nat) x j, nt ≠ .items → i ≤ ts.length → run ts n nt i = .ok (x, j) → run ts' n nt i = .ok (x, j)
 | 0, nt, i, x, j, hn, hi, h => h
 | n + 1, nt, i, x, j, hn, hi, h => exec_stop (run_fine n) (fun n' j' x' k' hn' hj' h' => run_stop hk ht hl hc n n' j' x' k' hn' hj' h') ht hl hc (body nt) i hi (hk nt hn) x j h
/-- Where a rule comes to an end at the end of all, it comes to it ahead of such a sign. -/
theorem reads_stop {c : Tk} (hk : Closer c) (ht : ∀ j, j < ts.length → tk ts' j = tk ts j) (hl : ts.length ≤ ts'.length) (hc : tk ts' ts.length = c) {nt : NT} {i : Nat} {x : Tr} {j : Nat} (hn : nt ≠ .items) (hi : i ≤ ts.length) (h : reads ts nt i = .ok (x, j)) : reads ts' nt i = .ok (x, j) := by
 rw [reads_run (by omega) (Nat.le_max_left _ (fuel ts nt i))]
 rw [reads_run hi (Nat.le_max_right (fuel ts' nt i) _)] at h
 exact run_stop hk ht hl hc _ nt i x j hn hi h
end
theorem elN_ne (p : Bool) : elN p ≠ .items := by cases p <;> simp [elN]
theorem hard_elN (p : Bool) : hard (elN p) = true := by cases p <;> rfl
theorem isK_end : isK 0 endT = true := rfl
/-- Words and signs that nothing goes on with: ) end let type exception ;; -/
def closers : List (List UInt8) := [[41], [101, 110, 100], [108, 101, 116], [116, 121, 112, 101], [101, 120, 99, 101, 112, 116, 105, 111, 110], [59, 59]]
theorem signs_not (lv : Nat) {s : List UInt8} (h : s ∈ closers) : isOne (signsAt lv) ⟨5, s, 0⟩ = false := by
 unfold signsAt
 split <;> (revert s; decide)
theorem signs_end (lv : Nat) : isOne (signsAt lv) endT = false := by
 unfold signsAt
 split <;> rfl
/-- Words and signs that something goes on with. -/
def goers : List (List UInt8) := [[111, 102], [124], [59], [97, 110, 100], [101, 108, 115, 101], [58, 61], [60, 45], [44], [58, 58], [97, 115], [45, 62], [42], [46], [46, 40]]
theorem goers_not : ∀ s ∈ closers, ∀ g ∈ goers, isS g ⟨5, s, 0⟩ = false := by decide
theorem closers_ahead : ∀ s ∈ closers, patomAhead ⟨5, s, 0⟩ = false ∧ postAhead ⟨5, s, 0⟩ = false ∧ isOne [[45], [110, 111, 116]] ⟨5, s, 0⟩ = false := by decide
theorem closer_sign {s : List UInt8} (h : s ∈ closers) (z : Int) : Closer ⟨5, s, z⟩ := by
 have hs : ∀ lv, isOne (signsAt lv) ⟨5, s, z⟩ = false := fun lv => signs_not lv h
 have he := signs_end
 have q1 : patomAhead ⟨5, s, z⟩ = false := (closers_ahead s h).1
 have q2 : postAhead ⟨5, s, z⟩ = false := (closers_ahead s h).2.1
 have q3 : isOne [[45], [110, 111, 116]] ⟨5, s, z⟩ = false := (closers_ahead s h).2.2
 have p1 : patomAhead endT = false := rfl
 have p2 : postAhead endT = false := rfl
 have p3 : isOne [[45], [110, 111, 116]] endT = false := rfl
 have k1 : isK 1 ⟨5, s, z⟩ = false := rfl
 have e1 : isK 1 endT = false := rfl
 have k2 : isK 2 ⟨5, s, z⟩ = false := rfl
 have e2 : isK 2 endT = false := rfl
 have k3 : isK 3 ⟨5, s, z⟩ = false := rfl
 have e3 : isK 3 endT = false := rfl
 have k4 : isK 4 ⟨5, s, z⟩ = false := rfl
 have e4 : isK 4 endT = false := rfl
 have s0 : ∀ s, isS s endT = false := fun s => rfl
 have g0 : isS [111, 102] ⟨5, s, z⟩ = false := goers_not s h [111, 102] (by decide)
 have g1 : isS [124] ⟨5, s, z⟩ = false := goers_not s h [124] (by decide)
 have g2 : isS [59] ⟨5, s, z⟩ = false := goers_not s h [59] (by decide)
 have g3 : isS [97, 110, 100] ⟨5, s, z⟩ = false := goers_not s h [97, 110, 100] (by decide)
 have g4 : isS [101, 108, 115, 101] ⟨5, s, z⟩ = false := goers_not s h [101, 108, 115, 101] (by decide)
 have g5 : isS [58, 61] ⟨5, s, z⟩ = false := goers_not s h [58, 61] (by decide)
 have g6 : isS [60, 45] ⟨5, s, z⟩ = false := goers_not s h [60, 45] (by decide)
 have g7 : isS [44] ⟨5, s, z⟩ = false := goers_not s h [44] (by decide)
 have g8 : isS [58, 58] ⟨5, s, z⟩ = false := goers_not s h [58, 58] (by decide)
 have g9 : isS [97, 115] ⟨5, s, z⟩ = false := goers_not s h [97, 115] (by decide)
 have g10 : isS [45, 62] ⟨5, s, z⟩ = false := goers_not s h [45, 62] (by decide)
 have g11 : isS [42] ⟨5, s, z⟩ = false := goers_not s h [42] (by decide)
 have g12 : isS [46] ⟨5, s, z⟩ = false := goers_not s h [46] (by decide)
 have g13 : isS [46, 40] ⟨5, s, z⟩ = false := goers_not s h [46, 40] (by decide)
 clear h
 intro n hn
 cases n
 case items => exact absurd rfl hn
 case join lv =>
  simp only [body]
  split
  ·simp [Pg.stops]
  ·split
   ·simp [Pg.stops]
   ·simp [Pg.stops, hs, he]
 case bind =>
  simp only [body, Pg.stops, Pg.skip, Pg.must, Pg.dead, s0]
  refine fun i => ⟨by simp, fun x j => ⟨by simp, ?_, ?_⟩⟩
  ·split
   ·simp [Pg.stops, Pg.dead, s0]
   ·trivial
  ·split
   ·simp [Pg.dead, hard]
   ·simp [Pg.dead]
 case expr =>
  simp only [body, Pg.stops, Pg.skip, Pg.must, Pg.token, Pg.dead, s0, hard]
  refine fun i => ⟨by simp, ⟨by simp, ⟨by simp, ⟨by simp, ⟨by simp, ⟨by simp [g4], ⟨by simp, ⟨by simp [e3], ⟨by simp, fun x j => ⟨by simp, ⟨?_, trivial, by simp [g6]⟩, by simp [g5]⟩⟩, by simp⟩, by simp⟩, by simp⟩, by simp⟩, by simp⟩, by simp⟩, by simp⟩, by simp⟩
  split
  ·simp [Pg.stops]
  ·split
   ·simp [Pg.stops]
   ·trivial
 case elems e p => cases p <;> simp [body, elN, Pg.stops, Pg.skip, Pg.dead, hard, s0, g2]
 all_goals simp [body, Pg.stops, Pg.skip, Pg.must, Pg.opt, Pg.token, Pg.dead, hard, hs, he, q1, q2, q3, p1, p2, p3, s0, elN_ne, hard_elN, k1, e1, k2, e2, k3, e3, k4, e4, g0, g1, g2, g3, g4, g5, g6, g7, g8, g9, g10, g11, g12, g13]
end Go.Proofs.YthjmakjhidjbaaaGreat

/-
 Layer 8, plain: places aside, what a rule makes of tokens hangs on nothing ahead of them. No program is named.
-/
namespace Go.Proofs.YthjmakjhidjbaaaGreat
set_option linter.unusedVariables false
set_option linter.unusedSimpArgs false
set_option maxHeartbeats 1000000

/-- A tree without its places. -/
def Tr.np : Tr → Tr
 | .mk k _ n s l => .mk k 0 n s (l.attach.map fun ⟨x, _⟩ => x.np)
theorem Tr.np_mk (k : Int) (p : Nat) (n : Int) (s : List UInt8) (l : List Tr) : (Tr.mk k p n s l).np = .mk k 0 n s (l.map Tr.np) := by
 rw [Tr.np]
 simp
/-- The same, places aside. -/
def Tr.eqv (x y : Tr) : Prop := x.np = y.np
theorem Tr.eqv_iff {x y : Tr} : x.eqv y ↔ x.kind = y.kind ∧ x.N = y.N ∧ x.S = y.S ∧ x.L.map Tr.np = y.L.map Tr.np := by
 cases x with
 | mk k p n s l =>
  cases y with
  | mk k' p' n' s' l' =>
   unfold Tr.eqv
   rw [Tr.np_mk, Tr.np_mk]
   simp [Tr.kind, Tr.N, Tr.S, Tr.L]
theorem Tr.eqv.kind {x y : Tr} (h : x.eqv y) : x.kind = y.kind := (Tr.eqv_iff.1 h).1
theorem Tr.eqv.N {x y : Tr} (h : x.eqv y) : x.N = y.N := (Tr.eqv_iff.1 h).2.1
theorem Tr.eqv.S {x y : Tr} (h : x.eqv y) : x.S = y.S := (Tr.eqv_iff.1 h).2.2.1
theorem Tr.eqv.L {x y : Tr} (h : x.eqv y) : x.L.map Tr.np = y.L.map Tr.np := (Tr.eqv_iff.1 h).2.2.2
theorem Tr.eqv.refl (x : Tr) : x.eqv x := rfl
theorem eqv_mk {k : Int} {p p' : Nat} {n : Int} {s : List UInt8} {l l' : List Tr} (h : l.map Tr.np = l'.map Tr.np) : (Tr.mk k p n s l).eqv (.mk k p' n s l') := by
 unfold Tr.eqv
 rw [Tr.np_mk, Tr.np_mk, h]
theorem map_cons {x y : Tr} {l l' : List Tr} (h : x.eqv y) (hl : l.map Tr.np = l'.map Tr.np) : (x :: l).map Tr.np = (y :: l').map Tr.np := by
 simp only [List.map_cons, hl]
 rw [h]
theorem map_snoc {x y : Tr} {l l' : List Tr} (h : x.eqv y) (hl : l.map Tr.np = l'.map Tr.np) : (l ++ [x]).map Tr.np = (l' ++ [y]).map Tr.np := by
 simp only [List.map_append, List.map_cons, List.map_nil, hl]
 rw [h]
/-- Rules that are the same, places aside. -/
inductive NT.eqv : NT → NT → Prop
 | refl (n : NT) : NT.eqv n n
 | letN (k : Int) (p p' : Nat) : NT.eqv (.letN k p) (.letN k p')
 | joinR (lv : Nat) {x x' : Tr} (h : x.eqv x') : NT.eqv (.joinR lv x) (.joinR lv x')
 | postR {x x' : Tr} (h : x.eqv x') : NT.eqv (.postR x) (.postR x')
 | patR {x x' : Tr} (h : x.eqv x') : NT.eqv (.patR x) (.patR x')
 | tpostR {x x' : Tr} (h : x.eqv x') : NT.eqv (.tpostR x) (.tpostR x')
inductive Sim (d : Nat) : Pg → Pg → Prop
 | ret {x x' : Tr} (h : x.eqv x') : Sim d (.ret x) (.ret x')
 | bad : Sim d .bad .bad
 | call {n n' : NT} {k k' : Tr → Pg} (h : NT.eqv n n') (hk : ∀ x x', Tr.eqv x x' → Sim d (k x) (k' x')) : Sim d (.call n k) (.call n' k')
 | test (p : Tk → Bool) {y y' n n' : Pg} (h : Sim d y y') (h' : Sim d n n') : Sim d (.test p y n) (.test p y' n')
 | eat {k k' : Tk → Pg} (h : ∀ t, Sim d (k t) (k' t)) : Sim d (.eat k) (.eat k')
 | here {k k' : Nat → Pg} (h : ∀ i, Sim d (k i) (k' (i + d))) : Sim d (.here k) (.here k')
/-- The same end, further on by d, places aside. -/
def Res.sim (d : Nat) : Res → Res → Prop
 | .ok (x, j), .ok (x', j') => x.eqv x' ∧ j' = j + d
 | .error m, .error m' => m' = m + d
 | _, _ => False
section
variable {d : Nat}
theorem Sim.skip {s : List UInt8} {y y' n n' : Pg} (h : Sim d y y') (h' : Sim d n n') : Sim d (Pg.skip s y n) (Pg.skip s y' n') := .test _ (.eat fun _ => h) h'
theorem Sim.must {s : List UInt8} {y y' : Pg} (h : Sim d y y') : Sim d (Pg.must s y) (Pg.must s y') := .test _ (.eat fun _ => h) .bad
theorem Sim.opt {s : List UInt8} {y y' : Pg} (h : Sim d y y') : Sim d (Pg.opt s y) (Pg.opt s y') := .test _ (.eat fun _ => h) h
theorem Sim.token {k : Int} {y y' : Tk → Pg} (h : ∀ t, Sim d (y t) (y' t)) : Sim d (Pg.token k y) (Pg.token k y') := .test _ (.eat h) .bad
theorem Sim.call0 {n : NT} {k k' : Tr → Pg} (hk : ∀ x x', Tr.eqv x x' → Sim d (k x) (k' x')) : Sim d (.call n k) (.call n k') := .call (.refl n) hk
theorem Sim.same {n n' : NT} (h : NT.eqv n n') : Sim d (.call n .ret) (.call n' .ret) := .call h fun _ _ hx => .ret hx
theorem mkJ_eqv {s : List UInt8} {p p' : Nat} {x x' y y' : Tr} (hx : x.eqv x') (hy : y.eqv y') : (mkJ s p x y).eqv (mkJ s p' x' y') := by
 unfold mkJ
 split
 ·exact eqv_mk (map_cons (eqv_mk (map_cons hx (map_cons hy rfl))) rfl)
 ·exact eqv_mk (map_cons hx (map_cons hy rfl))
theorem lst_eqv {l l' : List Tr} (h : l.map Tr.np = l'.map Tr.np) : (lst l).eqv (lst l') := eqv_mk h
theorem app_eqv {x x' r r' : Tr} (h : x.eqv x') (hr : r.eqv r') : (match r.L with | [] => x | y :: l => Tr.mk 16 x.pl 0 [] (x :: y :: l)).eqv (match r'.L with | [] => x' | y :: l => .mk 16 x'.pl 0 [] (x' :: y :: l)) := by
 have hl := hr.L
 cases a : r.L with
 | nil =>
  cases b : r'.L with
  | nil => exact h
  | cons y l => rw [a, b] at hl; simp at hl
 | cons y l =>
  cases b : r'.L with
  | nil => rw [a, b] at hl; simp at hl
  | cons y' l' =>
   rw [a, b] at hl
   exact eqv_mk (map_cons h hl)
theorem at_eqv {x x' : Tr} {p p' : Nat} (h : x.eqv x') : (x.at_ p).eqv (x'.at_ p') := by
 unfold Tr.at_
 rw [h.kind, h.N, h.S]
 exact eqv_mk h.L
theorem more_eqv {x x' y y' : Tr} (h : x.eqv x') (hy : y.eqv y') : (x.more y).eqv (x'.more y') := by
 unfold Tr.more
 rw [h.kind, h.N, h.S]
 exact eqv_mk (map_snoc hy h.L)
theorem body_sim {n n' : NT} (h : NT.eqv n n') : Sim d (body n) (body n') := by
 cases h
 case refl =>
  cases n
  case join lv =>
   simp only [body]
   split
   ·exact Sim.same (.refl _)
   ·split
    ·exact Sim.call0 fun x x' hx => Sim.same (.joinR _ hx)
    ·exact Sim.call0 fun x x' hx => Sim.here fun i => Sim.test _ (Sim.eat fun t => Sim.call0 fun y y' hy => Sim.ret (mkJ_eqv hx hy)) (Sim.ret hx)
  case bind =>
   simp only [body]
   refine Sim.here fun i => Sim.call0 fun p p' hp => Sim.here fun j => Sim.skip (Sim.call0 fun x x' hx => Sim.ret (eqv_mk (map_cons hp (map_cons hx rfl)))) ?_
   rw [hp.kind]
   by_cases c : p'.kind = 106 ∧ j = i + 1
   ·rw [if_pos c, if_pos ⟨c.1, by omega⟩]
    exact Sim.call0 fun r r' hr => Sim.must (Sim.call0 fun x x' hx => Sim.ret (eqv_mk (map_cons hp (map_cons (eqv_mk (map_snoc hx hr.L)) rfl))))
   ·rw [if_neg c, if_neg (fun h => c ⟨h.1, by omega⟩)]
    exact Sim.bad
  case expr =>
   simp only [body]
   (repeat' (first
   | exact Sim.bad
   | exact Sim.ret (by assumption)
   | exact Sim.ret (app_eqv (by assumption) (by assumption))
   | exact Sim.ret (mkJ_eqv (by assumption) (by assumption))
   | exact Sim.ret (at_eqv (by assumption))
   | exact Sim.ret (more_eqv (by assumption) (by assumption))
   | exact Sim.ret (lst_eqv rfl)
   | exact Sim.ret (lst_eqv (map_cons (by assumption) rfl))
   | exact Sim.ret (lst_eqv (map_cons (by assumption) (Tr.eqv.L (by assumption))))
   | exact Sim.ret (eqv_mk rfl)
   | exact Sim.ret (eqv_mk (Tr.eqv.L (by assumption)))
   | exact Sim.ret (eqv_mk (map_cons (by assumption) rfl))
   | exact Sim.ret (eqv_mk (map_cons (by assumption) (Tr.eqv.L (by assumption))))
   | exact Sim.ret (eqv_mk (map_cons (by assumption) (map_cons (by assumption) rfl)))
   | exact Sim.ret (eqv_mk (map_cons (by assumption) (map_cons (by assumption) (Tr.eqv.L (by assumption)))))
   | exact Sim.ret (eqv_mk (map_cons (by assumption) (map_cons (by assumption) (map_cons (by assumption) rfl))))
   | exact Sim.ret (eqv_mk (map_snoc (by assumption) (Tr.eqv.L (by assumption))))
   | exact Sim.ret (eqv_mk (map_cons (by assumption) (map_cons (eqv_mk (map_snoc (by assumption) (Tr.eqv.L (by assumption)))) rfl)))
   | exact Sim.ret (eqv_mk (map_cons (eqv_mk (map_cons (by assumption) (map_cons (by assumption) rfl))) rfl))
   | refine Sim.skip ?_ ?_
   | refine Sim.must ?_
   | refine Sim.opt ?_
   | refine Sim.token (fun t => ?_)
   | refine Sim.here (fun i => ?_)
   | refine Sim.eat (fun t => ?_)
   | refine Sim.test _ ?_ ?_
   | exact Sim.same (.refl _)
   | exact Sim.same (.letN _ _ _)
   | exact Sim.same (.joinR _ (by assumption))
   | exact Sim.same (.joinR _ (mkJ_eqv (by assumption) (by assumption)))
   | exact Sim.same (.postR (by assumption))
   | exact Sim.same (.postR (eqv_mk (map_cons (by assumption) rfl)))
   | exact Sim.same (.postR (eqv_mk (map_cons (by assumption) (map_cons (by assumption) rfl))))
   | exact Sim.same (.patR (by assumption))
   | exact Sim.same (.patR (eqv_mk (map_cons (by assumption) rfl)))
   | exact Sim.same (.tpostR (by assumption))
   | exact Sim.same (.tpostR (eqv_mk rfl))
   | exact Sim.same (.tpostR (eqv_mk (map_cons (by assumption) rfl)))
   | refine Sim.call0 (fun x x' hx => ?_)
   | refine Sim.call (.letN _ _ _) (fun x x' hx => ?_)))
   rw [hx.kind, hx.S]
   split
   ·exact Sim.eat fun _ => Sim.call0 fun y y' hy => Sim.ret (eqv_mk (map_snoc hy hx.L))
   ·split
    ·exact Sim.eat fun _ => Sim.call0 fun y y' hy => Sim.ret (eqv_mk (map_snoc hy hx.L))
    ·exact Sim.bad
  case joinR lv x =>
   have h0 := Tr.eqv.refl x
   simp only [body]
   (repeat' (first
   | exact Sim.bad
   | exact Sim.ret (by assumption)
   | exact Sim.ret (app_eqv (by assumption) (by assumption))
   | exact Sim.ret (mkJ_eqv (by assumption) (by assumption))
   | exact Sim.ret (at_eqv (by assumption))
   | exact Sim.ret (more_eqv (by assumption) (by assumption))
   | exact Sim.ret (lst_eqv rfl)
   | exact Sim.ret (lst_eqv (map_cons (by assumption) rfl))
   | exact Sim.ret (lst_eqv (map_cons (by assumption) (Tr.eqv.L (by assumption))))
   | exact Sim.ret (eqv_mk rfl)
   | exact Sim.ret (eqv_mk (Tr.eqv.L (by assumption)))
   | exact Sim.ret (eqv_mk (map_cons (by assumption) rfl))
   | exact Sim.ret (eqv_mk (map_cons (by assumption) (Tr.eqv.L (by assumption))))
   | exact Sim.ret (eqv_mk (map_cons (by assumption) (map_cons (by assumption) rfl)))
   | exact Sim.ret (eqv_mk (map_cons (by assumption) (map_cons (by assumption) (Tr.eqv.L (by assumption)))))
   | exact Sim.ret (eqv_mk (map_cons (by assumption) (map_cons (by assumption) (map_cons (by assumption) rfl))))
   | exact Sim.ret (eqv_mk (map_snoc (by assumption) (Tr.eqv.L (by assumption))))
   | exact Sim.ret (eqv_mk (map_cons (by assumption) (map_cons (eqv_mk (map_snoc (by assumption) (Tr.eqv.L (by assumption)))) rfl)))
   | exact Sim.ret (eqv_mk (map_cons (eqv_mk (map_cons (by assumption) (map_cons (by assumption) rfl))) rfl))
   | refine Sim.skip ?_ ?_
   | refine Sim.must ?_
   | refine Sim.opt ?_
   | refine Sim.token (fun t => ?_)
   | refine Sim.here (fun i => ?_)
   | refine Sim.eat (fun t => ?_)
   | refine Sim.test _ ?_ ?_
   | exact Sim.same (.refl _)
   | exact Sim.same (.letN _ _ _)
   | exact Sim.same (.joinR _ (by assumption))
   | exact Sim.same (.joinR _ (mkJ_eqv (by assumption) (by assumption)))
   | exact Sim.same (.postR (by assumption))
   | exact Sim.same (.postR (eqv_mk (map_cons (by assumption) rfl)))
   | exact Sim.same (.postR (eqv_mk (map_cons (by assumption) (map_cons (by assumption) rfl))))
   | exact Sim.same (.patR (by assumption))
   | exact Sim.same (.patR (eqv_mk (map_cons (by assumption) rfl)))
   | exact Sim.same (.tpostR (by assumption))
   | exact Sim.same (.tpostR (eqv_mk rfl))
   | exact Sim.same (.tpostR (eqv_mk (map_cons (by assumption) rfl)))
   | refine Sim.call0 (fun x x' hx => ?_)
   | refine Sim.call (.letN _ _ _) (fun x x' hx => ?_)))
  case postR x =>
   have h0 := Tr.eqv.refl x
   simp only [body]
   (repeat' (first
   | exact Sim.bad
   | exact Sim.ret (by assumption)
   | exact Sim.ret (app_eqv (by assumption) (by assumption))
   | exact Sim.ret (mkJ_eqv (by assumption) (by assumption))
   | exact Sim.ret (at_eqv (by assumption))
   | exact Sim.ret (more_eqv (by assumption) (by assumption))
   | exact Sim.ret (lst_eqv rfl)
   | exact Sim.ret (lst_eqv (map_cons (by assumption) rfl))
   | exact Sim.ret (lst_eqv (map_cons (by assumption) (Tr.eqv.L (by assumption))))
   | exact Sim.ret (eqv_mk rfl)
   | exact Sim.ret (eqv_mk (Tr.eqv.L (by assumption)))
   | exact Sim.ret (eqv_mk (map_cons (by assumption) rfl))
   | exact Sim.ret (eqv_mk (map_cons (by assumption) (Tr.eqv.L (by assumption))))
   | exact Sim.ret (eqv_mk (map_cons (by assumption) (map_cons (by assumption) rfl)))
   | exact Sim.ret (eqv_mk (map_cons (by assumption) (map_cons (by assumption) (Tr.eqv.L (by assumption)))))
   | exact Sim.ret (eqv_mk (map_cons (by assumption) (map_cons (by assumption) (map_cons (by assumption) rfl))))
   | exact Sim.ret (eqv_mk (map_snoc (by assumption) (Tr.eqv.L (by assumption))))
   | exact Sim.ret (eqv_mk (map_cons (by assumption) (map_cons (eqv_mk (map_snoc (by assumption) (Tr.eqv.L (by assumption)))) rfl)))
   | exact Sim.ret (eqv_mk (map_cons (eqv_mk (map_cons (by assumption) (map_cons (by assumption) rfl))) rfl))
   | refine Sim.skip ?_ ?_
   | refine Sim.must ?_
   | refine Sim.opt ?_
   | refine Sim.token (fun t => ?_)
   | refine Sim.here (fun i => ?_)
   | refine Sim.eat (fun t => ?_)
   | refine Sim.test _ ?_ ?_
   | exact Sim.same (.refl _)
   | exact Sim.same (.letN _ _ _)
   | exact Sim.same (.joinR _ (by assumption))
   | exact Sim.same (.joinR _ (mkJ_eqv (by assumption) (by assumption)))
   | exact Sim.same (.postR (by assumption))
   | exact Sim.same (.postR (eqv_mk (map_cons (by assumption) rfl)))
   | exact Sim.same (.postR (eqv_mk (map_cons (by assumption) (map_cons (by assumption) rfl))))
   | exact Sim.same (.patR (by assumption))
   | exact Sim.same (.patR (eqv_mk (map_cons (by assumption) rfl)))
   | exact Sim.same (.tpostR (by assumption))
   | exact Sim.same (.tpostR (eqv_mk rfl))
   | exact Sim.same (.tpostR (eqv_mk (map_cons (by assumption) rfl)))
   | refine Sim.call0 (fun x x' hx => ?_)
   | refine Sim.call (.letN _ _ _) (fun x x' hx => ?_)))
  case patR x =>
   have h0 := Tr.eqv.refl x
   simp only [body]
   (repeat' (first
   | exact Sim.bad
   | exact Sim.ret (by assumption)
   | exact Sim.ret (app_eqv (by assumption) (by assumption))
   | exact Sim.ret (mkJ_eqv (by assumption) (by assumption))
   | exact Sim.ret (at_eqv (by assumption))
   | exact Sim.ret (more_eqv (by assumption) (by assumption))
   | exact Sim.ret (lst_eqv rfl)
   | exact Sim.ret (lst_eqv (map_cons (by assumption) rfl))
   | exact Sim.ret (lst_eqv (map_cons (by assumption) (Tr.eqv.L (by assumption))))
   | exact Sim.ret (eqv_mk rfl)
   | exact Sim.ret (eqv_mk (Tr.eqv.L (by assumption)))
   | exact Sim.ret (eqv_mk (map_cons (by assumption) rfl))
   | exact Sim.ret (eqv_mk (map_cons (by assumption) (Tr.eqv.L (by assumption))))
   | exact Sim.ret (eqv_mk (map_cons (by assumption) (map_cons (by assumption) rfl)))
   | exact Sim.ret (eqv_mk (map_cons (by assumption) (map_cons (by assumption) (Tr.eqv.L (by assumption)))))
   | exact Sim.ret (eqv_mk (map_cons (by assumption) (map_cons (by assumption) (map_cons (by assumption) rfl))))
   | exact Sim.ret (eqv_mk (map_snoc (by assumption) (Tr.eqv.L (by assumption))))
   | exact Sim.ret (eqv_mk (map_cons (by assumption) (map_cons (eqv_mk (map_snoc (by assumption) (Tr.eqv.L (by assumption)))) rfl)))
   | exact Sim.ret (eqv_mk (map_cons (eqv_mk (map_cons (by assumption) (map_cons (by assumption) rfl))) rfl))
   | refine Sim.skip ?_ ?_
   | refine Sim.must ?_
   | refine Sim.opt ?_
   | refine Sim.token (fun t => ?_)
   | refine Sim.here (fun i => ?_)
   | refine Sim.eat (fun t => ?_)
   | refine Sim.test _ ?_ ?_
   | exact Sim.same (.refl _)
   | exact Sim.same (.letN _ _ _)
   | exact Sim.same (.joinR _ (by assumption))
   | exact Sim.same (.joinR _ (mkJ_eqv (by assumption) (by assumption)))
   | exact Sim.same (.postR (by assumption))
   | exact Sim.same (.postR (eqv_mk (map_cons (by assumption) rfl)))
   | exact Sim.same (.postR (eqv_mk (map_cons (by assumption) (map_cons (by assumption) rfl))))
   | exact Sim.same (.patR (by assumption))
   | exact Sim.same (.patR (eqv_mk (map_cons (by assumption) rfl)))
   | exact Sim.same (.tpostR (by assumption))
   | exact Sim.same (.tpostR (eqv_mk rfl))
   | exact Sim.same (.tpostR (eqv_mk (map_cons (by assumption) rfl)))
   | refine Sim.call0 (fun x x' hx => ?_)
   | refine Sim.call (.letN _ _ _) (fun x x' hx => ?_)))
  case tpostR x =>
   have h0 := Tr.eqv.refl x
   simp only [body]
   (repeat' (first
   | exact Sim.bad
   | exact Sim.ret (by assumption)
   | exact Sim.ret (app_eqv (by assumption) (by assumption))
   | exact Sim.ret (mkJ_eqv (by assumption) (by assumption))
   | exact Sim.ret (at_eqv (by assumption))
   | exact Sim.ret (more_eqv (by assumption) (by assumption))
   | exact Sim.ret (lst_eqv rfl)
   | exact Sim.ret (lst_eqv (map_cons (by assumption) rfl))
   | exact Sim.ret (lst_eqv (map_cons (by assumption) (Tr.eqv.L (by assumption))))
   | exact Sim.ret (eqv_mk rfl)
   | exact Sim.ret (eqv_mk (Tr.eqv.L (by assumption)))
   | exact Sim.ret (eqv_mk (map_cons (by assumption) rfl))
   | exact Sim.ret (eqv_mk (map_cons (by assumption) (Tr.eqv.L (by assumption))))
   | exact Sim.ret (eqv_mk (map_cons (by assumption) (map_cons (by assumption) rfl)))
   | exact Sim.ret (eqv_mk (map_cons (by assumption) (map_cons (by assumption) (Tr.eqv.L (by assumption)))))
   | exact Sim.ret (eqv_mk (map_cons (by assumption) (map_cons (by assumption) (map_cons (by assumption) rfl))))
   | exact Sim.ret (eqv_mk (map_snoc (by assumption) (Tr.eqv.L (by assumption))))
   | exact Sim.ret (eqv_mk (map_cons (by assumption) (map_cons (eqv_mk (map_snoc (by assumption) (Tr.eqv.L (by assumption)))) rfl)))
   | exact Sim.ret (eqv_mk (map_cons (eqv_mk (map_cons (by assumption) (map_cons (by assumption) rfl))) rfl))
   | refine Sim.skip ?_ ?_
   | refine Sim.must ?_
   | refine Sim.opt ?_
   | refine Sim.token (fun t => ?_)
   | refine Sim.here (fun i => ?_)
   | refine Sim.eat (fun t => ?_)
   | refine Sim.test _ ?_ ?_
   | exact Sim.same (.refl _)
   | exact Sim.same (.letN _ _ _)
   | exact Sim.same (.joinR _ (by assumption))
   | exact Sim.same (.joinR _ (mkJ_eqv (by assumption) (by assumption)))
   | exact Sim.same (.postR (by assumption))
   | exact Sim.same (.postR (eqv_mk (map_cons (by assumption) rfl)))
   | exact Sim.same (.postR (eqv_mk (map_cons (by assumption) (map_cons (by assumption) rfl))))
   | exact Sim.same (.patR (by assumption))
   | exact Sim.same (.patR (eqv_mk (map_cons (by assumption) rfl)))
   | exact Sim.same (.tpostR (by assumption))
   | exact Sim.same (.tpostR (eqv_mk rfl))
   | exact Sim.same (.tpostR (eqv_mk (map_cons (by assumption) rfl)))
   | refine Sim.call0 (fun x x' hx => ?_)
   | refine Sim.call (.letN _ _ _) (fun x x' hx => ?_)))
  all_goals simp only [body]
  all_goals (repeat' (first
   | exact Sim.bad
   | exact Sim.ret (by assumption)
   | exact Sim.ret (app_eqv (by assumption) (by assumption))
   | exact Sim.ret (mkJ_eqv (by assumption) (by assumption))
   | exact Sim.ret (at_eqv (by assumption))
   | exact Sim.ret (more_eqv (by assumption) (by assumption))
   | exact Sim.ret (lst_eqv rfl)
   | exact Sim.ret (lst_eqv (map_cons (by assumption) rfl))
   | exact Sim.ret (lst_eqv (map_cons (by assumption) (Tr.eqv.L (by assumption))))
   | exact Sim.ret (eqv_mk rfl)
   | exact Sim.ret (eqv_mk (Tr.eqv.L (by assumption)))
   | exact Sim.ret (eqv_mk (map_cons (by assumption) rfl))
   | exact Sim.ret (eqv_mk (map_cons (by assumption) (Tr.eqv.L (by assumption))))
   | exact Sim.ret (eqv_mk (map_cons (by assumption) (map_cons (by assumption) rfl)))
   | exact Sim.ret (eqv_mk (map_cons (by assumption) (map_cons (by assumption) (Tr.eqv.L (by assumption)))))
   | exact Sim.ret (eqv_mk (map_cons (by assumption) (map_cons (by assumption) (map_cons (by assumption) rfl))))
   | exact Sim.ret (eqv_mk (map_snoc (by assumption) (Tr.eqv.L (by assumption))))
   | exact Sim.ret (eqv_mk (map_cons (by assumption) (map_cons (eqv_mk (map_snoc (by assumption) (Tr.eqv.L (by assumption)))) rfl)))
   | exact Sim.ret (eqv_mk (map_cons (eqv_mk (map_cons (by assumption) (map_cons (by assumption) rfl))) rfl))
   | refine Sim.skip ?_ ?_
   | refine Sim.must ?_
   | refine Sim.opt ?_
   | refine Sim.token (fun t => ?_)
   | refine Sim.here (fun i => ?_)
   | refine Sim.eat (fun t => ?_)
   | refine Sim.test _ ?_ ?_
   | exact Sim.same (.refl _)
   | exact Sim.same (.letN _ _ _)
   | exact Sim.same (.joinR _ (by assumption))
   | exact Sim.same (.joinR _ (mkJ_eqv (by assumption) (by assumption)))
   | exact Sim.same (.postR (by assumption))
   | exact Sim.same (.postR (eqv_mk (map_cons (by assumption) rfl)))
   | exact Sim.same (.postR (eqv_mk (map_cons (by assumption) (map_cons (by assumption) rfl))))
   | exact Sim.same (.patR (by assumption))
   | exact Sim.same (.patR (eqv_mk (map_cons (by assumption) rfl)))
   | exact Sim.same (.tpostR (by assumption))
   | exact Sim.same (.tpostR (eqv_mk rfl))
   | exact Sim.same (.tpostR (eqv_mk (map_cons (by assumption) rfl)))
   | refine Sim.call0 (fun x x' hx => ?_)
   | refine Sim.call (.letN _ _ _) (fun x x' hx => ?_)))
 all_goals simp only [body]
 all_goals (repeat' (first
   | exact Sim.bad
   | exact Sim.ret (by assumption)
   | exact Sim.ret (app_eqv (by assumption) (by assumption))
   | exact Sim.ret (mkJ_eqv (by assumption) (by assumption))
   | exact Sim.ret (at_eqv (by assumption))
   | exact Sim.ret (more_eqv (by assumption) (by assumption))
   | exact Sim.ret (lst_eqv rfl)
   | exact Sim.ret (lst_eqv (map_cons (by assumption) rfl))
   | exact Sim.ret (lst_eqv (map_cons (by assumption) (Tr.eqv.L (by assumption))))
   | exact Sim.ret (eqv_mk rfl)
   | exact Sim.ret (eqv_mk (Tr.eqv.L (by assumption)))
   | exact Sim.ret (eqv_mk (map_cons (by assumption) rfl))
   | exact Sim.ret (eqv_mk (map_cons (by assumption) (Tr.eqv.L (by assumption))))
   | exact Sim.ret (eqv_mk (map_cons (by assumption) (map_cons (by assumption) rfl)))
   | exact Sim.ret (eqv_mk (map_cons (by assumption) (map_cons (by assumption) (Tr.eqv.L (by assumption)))))
   | exact Sim.ret (eqv_mk (map_cons (by assumption) (map_cons (by assumption) (map_cons (by assumption) rfl))))
   | exact Sim.ret (eqv_mk (map_snoc (by assumption) (Tr.eqv.L (by assumption))))
   | exact Sim.ret (eqv_mk (map_cons (by assumption) (map_cons (eqv_mk (map_snoc (by assumption) (Tr.eqv.L (by assumption)))) rfl)))
   | exact Sim.ret (eqv_mk (map_cons (eqv_mk (map_cons (by assumption) (map_cons (by assumption) rfl))) rfl))
   | refine Sim.skip ?_ ?_
   | refine Sim.must ?_
   | refine Sim.opt ?_
   | refine Sim.token (fun t => ?_)
   | refine Sim.here (fun i => ?_)
   | refine Sim.eat (fun t => ?_)
   | refine Sim.test _ ?_ ?_
   | exact Sim.same (.refl _)
   | exact Sim.same (.letN _ _ _)
   | exact Sim.same (.joinR _ (by assumption))
   | exact Sim.same (.joinR _ (mkJ_eqv (by assumption) (by assumption)))
   | exact Sim.same (.postR (by assumption))
   | exact Sim.same (.postR (eqv_mk (map_cons (by assumption) rfl)))
   | exact Sim.same (.postR (eqv_mk (map_cons (by assumption) (map_cons (by assumption) rfl))))
   | exact Sim.same (.patR (by assumption))
   | exact Sim.same (.patR (eqv_mk (map_cons (by assumption) rfl)))
   | exact Sim.same (.tpostR (by assumption))
   | exact Sim.same (.tpostR (eqv_mk rfl))
   | exact Sim.same (.tpostR (eqv_mk (map_cons (by assumption) rfl)))
   | refine Sim.call0 (fun x x' hx => ?_)
   | refine Sim.call (.letN _ _ _) (fun x x' hx => ?_)))
end
section
variable {u l : List Tk}
theorem tk_app (i : Nat) : tk (u ++ l) (i + u.length) = tk l i := by
 unfold tk
 rw [List.getD_eq_getElem?_getD, List.getD_eq_getElem?_getD, List.getElem?_append_right (by omega), Nat.add_sub_cancel]
theorem exec_sim {rec rec' : NT → Nat → Res} (hr : ∀ n i, i ≤ l.length → Fine l n i (rec n i)) (hq : ∀ n n' j, NT.eqv n n' → j ≤ l.length → Res.sim u.length (rec n j) (rec' n' (j + u.length))) : ∀ {p p' : Pg}, Sim u.length p p' → ∀ i, i ≤ l.length → Res.sim u.length (exec l rec p i) (exec (u ++ l) rec' p' (i + u.length)) := by
 intro p p' h
 induction h with
 | ret h => exact fun i hi => ⟨h, rfl⟩
 | bad => exact fun i hi => rfl
 | @call n n' k k' h hk ih =>
  intro i hi
  have h1 := hq n n' i h hi
  have h2 := (hr n i hi).2.1
  unfold exec
  cases e : rec n i with
  | error m =>
   rw [e] at h1
   cases e' : rec' n' (i + u.length) with
   | error m' => rw [e'] at h1; exact h1
   | ok xj => rw [e'] at h1; exact h1.elim
  | ok xj =>
   obtain ⟨x, j⟩ := xj
   rw [e] at h1 h2
   cases e' : rec' n' (i + u.length) with
   | error m' => rw [e'] at h1; exact h1.elim
   | ok xj' =>
    obtain ⟨x', j'⟩ := xj'
    rw [e'] at h1
    obtain ⟨h3, rfl⟩ := h1
    exact ih x x' h3 j h2
 | test p h h' ih ih' =>
  intro i hi
  unfold exec
  rw [tk_app]
  split
  ·exact ih i hi
  ·exact ih' i hi
 | @eat k k' h ih =>
  intro i hi
  unfold exec
  rw [tk_app]
  by_cases c : i < l.length
  ·rw [if_pos c, if_pos (by rw [List.length_append]; omega), show i + u.length + 1 = i + 1 + u.length by omega]
   exact ih _ (i + 1) c
  ·rw [if_neg c, if_neg (by rw [List.length_append]; omega)]
   exact rfl
 | here h ih =>
  intro i hi
  unfold exec
  exact ih i i hi
theorem run_sim : ∀ (n : Nat) (nt nt' : NT) (i : Nat), NT.eqv nt nt' → i ≤ l.length → Res.sim u.length (run l n nt i) (run (u ++ l) n nt' (i + u.length))
 | 0, nt, nt', i, h, hi => rfl
 | n + 1, nt, nt', i, h, hi => exec_sim (run_fine n) (fun a b j hab hj => run_sim n a b j hab hj) (body_sim h) i hi
/-- Tokens ahead change nothing, places aside. -/
theorem reads_sim {nt nt' : NT} (h : NT.eqv nt nt') {i : Nat} (hi : i ≤ l.length) : Res.sim u.length (reads l nt i) (reads (u ++ l) nt' (i + u.length)) := by
 rw [reads_run hi (Nat.le_max_left _ (fuel (u ++ l) nt' (i + u.length))), reads_run (by rw [List.length_append]; omega) (Nat.le_max_right (fuel l nt i) _)]
 exact run_sim _ nt nt' i h hi
theorem reads_ahead {nt : NT} {i j : Nat} {x : Tr} (hi : i ≤ l.length) (h : reads l nt i = .ok (x, j)) : ∃ x', reads (u ++ l) nt (i + u.length) = .ok (x', j + u.length) ∧ x.eqv x' := by
 have := reads_sim (u := u) (.refl nt) hi
 rw [h] at this
 cases e : reads (u ++ l) nt (i + u.length) with
 | error m => rw [e] at this; exact this.elim
 | ok xj =>
  obtain ⟨x', j'⟩ := xj
  rw [e] at this
  obtain ⟨h1, rfl⟩ := this
  exact ⟨x', rfl, h1⟩
end
end Go.Proofs.YthjmakjhidjbaaaGreat

/-
 Layer 8, plain: where tokens are wrong first hangs on nothing behind; two sources one behind the other. No program is named.
-/
namespace Go.Proofs.YthjmakjhidjbaaaGreat
set_option linter.unusedVariables false
set_option linter.unusedSimpArgs false
set_option maxHeartbeats 1000000

section
variable {ts us : List Tk}
theorem tk_lt {i : Nat} (h : i < ts.length) : tk ts i = ts[i] := by
 unfold tk
 rw [List.getD_eq_getElem?_getD, List.getElem?_eq_getElem h]
 rfl
theorem tk_left {i : Nat} (h : i < ts.length) : tk (ts ++ us) i = tk ts i := by
 unfold tk
 rw [List.getD_eq_getElem?_getD, List.getD_eq_getElem?_getD, List.getElem?_append_left h]
theorem items_first {m : Nat} (h : reads ts .items 0 = .error m) (hm : m < ts.length) : reads (ts ++ us) .items 0 = .error m := by
 rw [← h]
 refine reads_same (m := m) (fun j hj => ⟨tk_left (by omega), ?_⟩) (Nat.zero_le _) (Nat.zero_le _) ?_
 ·rw [List.length_append]; omega
 ·rw [h]; exact Nat.le_refl _
/-- Tokens of a source: none is the end. -/
def Toks (ts : List Tk) : Prop := ∀ t ∈ ts, t.kind ≠ 0
theorem Toks.at_ (h : Toks ts) {i : Nat} (hi : i < ts.length) : isK 0 (tk ts i) = false := by
 rw [tk_lt hi]
 unfold isK
 rw [beq_eq_false_iff_ne]
 exact h _ (List.getElem_mem hi)
theorem isK_endT {i : Nat} (hi : ts.length ≤ i) : isK 0 (tk ts i) = true := by rw [tk_end hi]; rfl
/-- items, rule by rule. -/
theorem items_end {i : Nat} (hi : ts.length ≤ i) (hl : i ≤ ts.length) : reads ts .items i = .ok (lst [], i) := by
 rw [reads_eq _ hl]
 unfold body exec
 rw [if_pos (isK_endT hi)]
 rfl
/-- Behind an item: where the next one begins. -/
def behind (ts : List Tk) (k : Nat) : Nat := if isS [59, 59] (tk ts k) then k + 1 else k
theorem isS_lt {s : List UInt8} {k : Nat} (h : isS s (tk ts k) = true) : k < ts.length := by
 rcases Nat.lt_or_ge k ts.length with c | c
 ·exact c
 ·rw [tk_end c] at h; cases h
theorem behind_le {k : Nat} (hk : k ≤ ts.length) : behind ts k ≤ ts.length ∧ k ≤ behind ts k := by
 unfold behind
 split
 ·rename_i h; have := isS_lt h; omega
 ·omega
theorem items_more (h : Toks ts) {i : Nat} (hi : i < ts.length) : reads ts .items i = (match reads ts .item i with
  | .error m => .error m
  | .ok (y, k) => (match reads ts .items (behind ts k) with | .error m => .error m | .ok (r, j) => .ok (lst (y :: r.L), j))) := by
 rw [reads_eq _ (Nat.le_of_lt hi)]
 show exec ts (reads ts) (.test (isK 0) (.ret (lst [])) (.call .item fun x => Pg.opt [59, 59] (.call .items fun r => .ret (lst (x :: r.L))))) i = _
 rw [exec, h.at_ hi]
 simp only [Bool.false_eq_true, if_false]
 rw [exec]
 cases e : reads ts .item i with
 | error m => rfl
 | ok xj =>
  obtain ⟨y, k⟩ := xj
  simp only
  unfold Pg.opt behind
  rw [exec]
  split
  ·rename_i c
   rw [exec, if_pos (isS_lt c), exec]
   cases reads ts .items (k + 1) with
   | error m => rfl
   | ok xj => rfl
  ·rw [exec]
   cases reads ts .items k with
   | error m => rfl
   | ok xj => rfl
/-- An item begins so. -/
theorem item_first {i : Nat} {x : Tr} {j : Nat} (hi : i ≤ ts.length) (h : reads ts .item i = .ok (x, j)) : isS [108, 101, 116] (tk ts i) = true ∨ isS [116, 121, 112, 101] (tk ts i) = true ∨ isS [101, 120, 99, 101, 112, 116, 105, 111, 110] (tk ts i) = true := by
 rw [reads_eq _ hi] at h
 simp only [body, Pg.skip, Pg.must, exec] at h
 cases c1 : isS [108, 101, 116] (tk ts i) with
 | true => exact Or.inl rfl
 | false =>
  cases c2 : isS [116, 121, 112, 101] (tk ts i) with
  | true => exact Or.inr (Or.inl rfl)
  | false =>
   cases c3 : isS [101, 120, 99, 101, 112, 116, 105, 111, 110] (tk ts i) with
   | true => exact Or.inr (Or.inr rfl)
   | false => rw [c1, c2, c3] at h; simp at h
theorem isS_closer {s : List UInt8} {t : Tk} (h : isS s t = true) (hs : s ∈ closers) : Closer t := by
 unfold isS at h
 rw [Bool.and_eq_true, beq_iff_eq, beq_iff_eq] at h
 have e : t = ⟨5, s, t.N⟩ := by cases t; simp at h; simp [h.1, h.2]
 rw [e]
 exact closer_sign hs _
theorem item_closer {i : Nat} {x : Tr} {j : Nat} (hi : i ≤ ts.length) (h : reads ts .item i = .ok (x, j)) : Closer (tk ts i) ∧ isS [59, 59] (tk ts i) = false := by
 have hn : ∀ s, s ≠ [59, 59] → isS s (tk ts i) = true → isS [59, 59] (tk ts i) = false := by
  intro s hs hh
  unfold isS at hh ⊢
  rw [Bool.and_eq_true, beq_iff_eq, beq_iff_eq] at hh
  rw [hh.1, hh.2]
  rw [Bool.and_eq_false_iff]
  right
  rw [beq_eq_false_iff_ne]
  exact hs
 rcases item_first hi h with c | c | c
 ·exact ⟨isS_closer c (by decide), hn _ (by decide) c⟩
 ·exact ⟨isS_closer c (by decide), hn _ (by decide) c⟩
 ·exact ⟨isS_closer c (by decide), hn _ (by decide) c⟩
/-- Two sources, one behind the other. -/
theorem items_join (h1 : Toks ts) (h2 : Toks us) {K : Tr} {e : Nat} (hu : reads us .items 0 = .ok (K, e)) : ∀ (n i : Nat), ts.length - i ≤ n → i ≤ ts.length → ∀ x j, reads ts .items i = .ok (x, j) → ∃ x' j', reads (ts ++ us) .items i = .ok (x', j') ∧ x'.L.map Tr.np = (x.L ++ K.L).map Tr.np := by
 have h12 : Toks (ts ++ us) := fun t ht => by
  rcases List.mem_append.1 ht with c | c
  ·exact h1 t c
  ·exact h2 t c
 have hlen : (ts ++ us).length = ts.length + us.length := List.length_append
 have last_ : ∀ x j, reads ts .items ts.length = .ok (x, j) → ∃ x' j', reads (ts ++ us) .items ts.length = .ok (x', j') ∧ x'.L.map Tr.np = (x.L ++ K.L).map Tr.np := by
  intro x j h
  rw [items_end (Nat.le_refl _) (Nat.le_refl _)] at h
  simp only [Except.ok.injEq, Prod.mk.injEq] at h
  obtain ⟨rfl, rfl⟩ := h
  obtain ⟨x', hx, he⟩ := reads_ahead (u := ts) (Nat.zero_le _) hu
  rw [Nat.zero_add] at hx
  exact ⟨x', _, hx, he.L.symm⟩
 intro n
 induction n with
 | zero =>
  intro i hn hi x j h
  have : i = ts.length := by omega
  subst this
  exact last_ x j h
 | succ n ih =>
  intro i hn hi x j h
  by_cases c : i < ts.length
  ·rw [items_more h1 c] at h
   rw [items_more h12 (by omega)]
   cases e1 : reads ts .item i with
   | error m => rw [e1] at h; cases h
   | ok yk =>
    obtain ⟨y, k⟩ := yk
    rw [e1] at h
    simp only at h
    have hf := reads_fine (ts := ts) .item hi
    rw [e1] at hf
    have hk : k ≤ ts.length := hf.2.1
    have hik : i < k := hf.2.2 y k rfl rfl
    have hb := behind_le hk
    have hit : reads (ts ++ us) .item i = .ok (y, k) ∧ behind (ts ++ us) k = behind ts k := by
     by_cases hus : us.length = 0
     ·have : us = [] := List.length_eq_zero_iff.1 hus
      subst this
      rw [List.append_nil]
      exact ⟨e1, rfl⟩
     ·rw [items_more h2 (by omega)] at hu
      cases e3 : reads us .item 0 with
      | error m => rw [e3] at hu; cases hu
      | ok zk =>
       obtain ⟨z, q⟩ := zk
       obtain ⟨hc, hn⟩ := item_closer (Nat.zero_le _) e3
       have hc' : tk (ts ++ us) ts.length = tk us 0 := by
        have := tk_app (u := ts) (l := us) 0
        rw [Nat.zero_add] at this
        exact this
       refine ⟨reads_stop hc (fun j hj => tk_left hj) (by omega) hc' (by intro c; cases c) hi e1, ?_⟩
       unfold behind
       rcases Nat.lt_or_ge k ts.length with d | d
       ·rw [tk_left d]
       ·have ek : k = ts.length := by omega
        rw [ek, hc', hn, tk_end (Nat.le_refl _)]
        rfl
    rw [hit.1]
    simp only
    rw [hit.2]
    cases e2 : reads ts .items (behind ts k) with
    | error m => rw [e2] at h; cases h
    | ok rj =>
     obtain ⟨r, j'⟩ := rj
     rw [e2] at h
     simp only [Except.ok.injEq, Prod.mk.injEq] at h
     obtain ⟨rfl, rfl⟩ := h
     obtain ⟨x', q, hx, hL⟩ := ih (behind ts k) (by omega) hb.1 r j' e2
     rw [hx]
     refine ⟨_, _, rfl, ?_⟩
     show (y :: x'.L).map Tr.np = (y :: r.L ++ K.L).map Tr.np
     rw [List.map_cons, hL]
     rfl
  ·have : i = ts.length := by omega
   subst this
   exact last_ x j h
end
end Go.Proofs.YthjmakjhidjbaaaGreat
