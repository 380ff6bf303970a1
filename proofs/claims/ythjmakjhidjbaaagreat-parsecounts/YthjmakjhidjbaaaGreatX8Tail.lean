/-
 Layer 8, plain: rules that go on with one part more, told with the parts so far; rules that join. No program is named.
-/
import Derived.Test.YthjmakjhidjbaaaGreatLibAB
namespace Go.Proofs.YthjmakjhidjbaaaGreat
set_option linter.unusedVariables false
set_option linter.unusedSimpArgs false
set_option maxHeartbeats 1000000

section
variable {ts : List Tk} {R : Res} {k : Nat} {T X : NT} {s : List UInt8} {p : Tk → Bool} {C : List Tr → Pg} {acc : List Tr}
theorem tail_call (hk : k ≤ ts.length) {b : Pg} (hb : body T = b) (h : R = exec ts (reads ts) (.call T fun r => C (acc ++ r.L)) k) : R = (match exec ts (reads ts) b k with | .error m => .error m | .ok (r, j) => exec ts (reads ts) (C (acc ++ r.L)) j) := by
 rw [h, ← hb, ← reads_eq T hk]
 simp only [exec]
 cases reads ts T k with
 | error m => rfl
 | ok xj => rfl
theorem tail_go {T : NT} {j : Nat} : (match exec ts (reads ts) (.call X fun x => .call T fun r => .ret (lst (x :: r.L))) j with | .error m => Except.error m | .ok (r, j) => exec ts (reads ts) (C (acc ++ r.L)) j) = exec ts (reads ts) (.call X fun x => .call T fun r => C ((acc ++ [x]) ++ r.L)) j := by
 simp only [exec]
 cases reads ts X j with
 | error m => rfl
 | ok xj =>
  obtain ⟨x, j⟩ := xj
  simp only
  cases reads ts T j with
  | error m => rfl
  | ok rj =>
   obtain ⟨r, j⟩ := rj
   show exec ts (reads ts) (C (acc ++ (x :: r.L))) j = exec ts (reads ts) (C ((acc ++ [x]) ++ r.L)) j
   rw [List.append_assoc, List.singleton_append]
theorem tail_skip (hb : body T = .skip s (.call X fun x => .call T fun r => .ret (lst (x :: r.L))) (.ret (lst []))) (hk : k ≤ ts.length) (h : R = exec ts (reads ts) (.call T fun r => C (acc ++ r.L)) k) (e : isS s (tk ts k) = true) : R = exec ts (reads ts) (.call X fun x => .call T fun r => C ((acc ++ [x]) ++ r.L)) (k + 1) := by
 rw [tail_call hk hb h]
 have : exec ts (reads ts) (.skip s (.call X fun x => .call T fun r => .ret (lst (x :: r.L))) (.ret (lst []))) k = exec ts (reads ts) (.call X fun x => .call T fun r => .ret (lst (x :: r.L))) (k + 1) := ex_skip rfl e
 rw [this]
 exact tail_go
theorem tail_skipN {y : Pg} (hb : body T = .skip s y (.ret (lst []))) (hk : k ≤ ts.length) (h : R = exec ts (reads ts) (.call T fun r => C (acc ++ r.L)) k) (e : isS s (tk ts k) = false) : R = exec ts (reads ts) (C acc) k := by
 rw [tail_call hk hb h]
 have : exec ts (reads ts) (.skip s y (.ret (lst []))) k = .ok (lst [], k) := ex_skipN rfl e
 rw [this]
 show exec ts (reads ts) (C (acc ++ [])) k = _
 rw [List.append_nil]
theorem tail_test (hb : body T = .test p (.call X fun x => .call T fun r => .ret (lst (x :: r.L))) (.ret (lst []))) (hk : k ≤ ts.length) (h : R = exec ts (reads ts) (.call T fun r => C (acc ++ r.L)) k) (e : p (tk ts k) = true) : R = exec ts (reads ts) (.call X fun x => .call T fun r => C ((acc ++ [x]) ++ r.L)) k := by
 rw [tail_call hk hb h]
 have : exec ts (reads ts) (.test p (.call X fun x => .call T fun r => .ret (lst (x :: r.L))) (.ret (lst []))) k = exec ts (reads ts) (.call X fun x => .call T fun r => .ret (lst (x :: r.L))) k := ex_yes rfl e
 rw [this]
 exact tail_go
theorem tail_testN {y : Pg} (hb : body T = .test p y (.ret (lst []))) (hk : k ≤ ts.length) (h : R = exec ts (reads ts) (.call T fun r => C (acc ++ r.L)) k) (e : p (tk ts k) = false) : R = exec ts (reads ts) (C acc) k := by
 rw [tail_call hk hb h]
 have : exec ts (reads ts) (.test p y (.ret (lst []))) k = .ok (lst [], k) := ex_no rfl e
 rw [this]
 show exec ts (reads ts) (C (acc ++ [])) k = _
 rw [List.append_nil]
/-- A rule that is one part and its rest. -/
theorem ex_open {T' : NT} (hb : body T = .call X fun x => .call T' fun r => .ret (lst (x :: r.L))) (hk : k ≤ ts.length) (h : R = exec ts (reads ts) (.call T fun r => C r.L) k) : R = exec ts (reads ts) (.call X fun x => .call T' fun r => C ([x] ++ r.L)) k := by
 have h' : R = exec ts (reads ts) (.call T fun r => C ([] ++ r.L)) k := h
 rw [tail_call hk hb h']
 exact tail_go
/-- A call that is a rule's whole end. -/
theorem ex_end (h : R = exec ts (reads ts) (.call T .ret) k) : R = reads ts T k := by
 rw [h]
 simp only [exec]
 cases reads ts T k with
 | error m => rfl
 | ok xj => rfl
end
/-- What stands behind a part of a list, and what may follow. -/
structure Tail (ts : List Tk) (n1 : NT) (sg : List UInt8) (tail : Nat → Res) : Prop where
 go : ∀ k, k ≤ ts.length → isS [59] (tk ts k) = true → isS sg (tk ts (k + 1)) = false → tail k = (match reads ts n1 (k + 1) with | .error m => .error m | .ok (x, m) => match tail m with | .error m => .error m | .ok (r, q) => .ok (lst (x :: r.L), q))
 last : ∀ k, k ≤ ts.length → isS [59] (tk ts k) = true → isS sg (tk ts (k + 1)) = true → tail k = .ok (lst [], k + 1)
 none : ∀ k, k ≤ ts.length → isS [59] (tk ts k) = false → tail k = .ok (lst [], k)
/-- The rest of a list, and what closes it. -/
def lgo (ts : List Tk) (sg : List UInt8) (tail : Nat → Res) (acc : List Tr) (k : Nat) : Res := match tail k with
 | .error m => .error m
 | .ok (r, q) => if isS sg (tk ts q) then .ok (lst (acc ++ r.L), q + 1) else .error q
section
variable {ts : List Tk} {n1 : NT} {sg : List UInt8} {tail : Nat → Res} {acc : List Tr} {k : Nat} {R : Res}
theorem lgo_go (h : Tail ts n1 sg tail) (hk : k ≤ ts.length) (e1 : isS [59] (tk ts k) = true) (e2 : isS sg (tk ts (k + 1)) = false) : lgo ts sg tail acc k = (match reads ts n1 (k + 1) with | .error m => .error m | .ok (x, m) => lgo ts sg tail (acc ++ [x]) m) := by
 unfold lgo
 rw [h.go k hk e1 e2]
 cases reads ts n1 (k + 1) with
 | error m => rfl
 | ok xm =>
  obtain ⟨x, m⟩ := xm
  simp only
  cases tail m with
  | error m => rfl
  | ok rq =>
   obtain ⟨r, q⟩ := rq
   show (if isS sg (tk ts q) = true then Except.ok (lst (acc ++ (x :: r.L)), q + 1) else .error q) = (if isS sg (tk ts q) = true then Except.ok (lst ((acc ++ [x]) ++ r.L), q + 1) else .error q)
   rw [List.append_assoc, List.singleton_append]
theorem lgo_last (h : Tail ts n1 sg tail) (hk : k ≤ ts.length) (e1 : isS [59] (tk ts k) = true) (e2 : isS sg (tk ts (k + 1)) = true) : lgo ts sg tail acc k = .ok (lst acc, k + 1 + 1) := by
 unfold lgo
 rw [h.last k hk e1 e2]
 show (if isS sg (tk ts (k + 1)) = true then Except.ok (lst (acc ++ []), k + 1 + 1) else .error (k + 1)) = _
 rw [e2, List.append_nil]
 rfl
theorem lgo_end (h : Tail ts n1 sg tail) (hk : k ≤ ts.length) (e1 : isS [59] (tk ts k) = false) : lgo ts sg tail acc k = if isS sg (tk ts k) then .ok (lst acc, k + 1) else .error k := by
 unfold lgo
 rw [h.none k hk e1]
 show (if isS sg (tk ts k) = true then Except.ok (lst (acc ++ []), k + 1) else .error k) = _
 rw [List.append_nil]
theorem ml_err {f : Tr → Nat → Res} {m : Nat} (h : R = (match reads ts n1 k with | .error m => .error m | .ok (x, j) => f x j)) (e : reads ts n1 k = .error m) : R = .error m := by rw [h, e]
theorem ml_ok {f : Tr → Nat → Res} {x : Tr} {j : Nat} (h : R = (match reads ts n1 k with | .error m => .error m | .ok (x, j) => f x j)) (e : reads ts n1 k = .ok (x, j)) : R = f x j := by rw [h, e]
/-- A list: one part, and the rest. -/
def lstR (ts : List Tk) (n1 : NT) (sg : List UInt8) (tail : Nat → Res) (k : Nat) : Res := match reads ts n1 k with
 | .error m => .error m
 | .ok (x, j) => lgo ts sg tail [x] j
/-- A list with its brackets. -/
def brR (ts : List Tk) (n1 : NT) (sg : List UInt8) (tail : Nat → Res) (kd : Int) (i : Nat) : Res := match lstR ts n1 sg tail (i + 1) with
 | .error m => .error m
 | .ok (l, q) => .ok (.mk kd i 0 [] l.L, q)
/-- A rule that goes on so. -/
theorem Tail.of {T : NT} (hb : body T = .skip [59] (.test (isS sg) (.ret (lst [])) (.call n1 fun x => .call T fun r => .ret (lst (x :: r.L)))) (.ret (lst []))) : Tail ts n1 sg (reads ts T) := by
 refine ⟨fun k hk e1 e2 => ?_, fun k hk e1 e2 => ?_, fun k hk e1 => ?_⟩
 ·rw [reads_eq T hk, hb]
  refine Eq.trans (ex_no (ex_skip rfl e1) e2) ?_
  simp only [exec]
  cases reads ts n1 (k + 1) with
  | error m => rfl
  | ok xm =>
   obtain ⟨x, m⟩ := xm
   simp only
   cases reads ts T m with
   | error m => rfl
   | ok rq => rfl
 ·rw [reads_eq T hk, hb]
  exact ex_yes (ex_skip rfl e1) e2
 ·rw [reads_eq T hk, hb]
  exact ex_skipN rfl e1
/-- Elements' rest. -/
def elT (ts : List Tk) (e : List UInt8) (p : Bool) (k : Nat) : Res := exec ts (reads ts) (.skip [59] (.call (.elems e p) fun r => .ret (lst r.L)) (.ret (lst []))) k
theorem elT_tail {e : List UInt8} {p : Bool} : Tail ts (elN p) e (elT ts e p) := by
 refine ⟨fun k hk e1 e2 => ?_, fun k hk e1 e2 => ?_, fun k hk e1 => ?_⟩
 ·have hl := isS_in e1
  refine Eq.trans (ex_skip (z := .ret (lst [])) rfl e1) ?_
  simp only [exec]
  rw [reads_eq (.elems e p) (i := k + 1) hl]
  show (match exec ts (reads ts) (.test (isS e) (.ret (lst [])) (.call (elN p) fun x => .skip [59] (.call (.elems e p) fun r => .ret (lst (x :: r.L))) (.ret (lst [x])))) (k + 1) with | .error m => Except.error m | .ok (x, j) => exec ts (reads ts) (.ret (lst x.L)) j) = _
  rw [← (ex_no (R := exec ts (reads ts) (.test (isS e) (.ret (lst [])) (.call (elN p) fun x => .skip [59] (.call (.elems e p) fun r => .ret (lst (x :: r.L))) (.ret (lst [x])))) (k + 1)) rfl e2).symm]
  simp only [exec]
  cases hx : reads ts (elN p) (k + 1) with
  | error m => rfl
  | ok xm =>
   obtain ⟨x, m⟩ := xm
   simp only
   unfold elT
   cases hs : isS [59] (tk ts m) with
   | true =>
    rw [← (ex_skip (R := exec ts (reads ts) (.skip [59] (.call (.elems e p) fun r => .ret (lst (x :: r.L))) (.ret (lst [x]))) m) rfl hs).symm, ← (ex_skip (R := exec ts (reads ts) (.skip [59] (.call (.elems e p) fun r => .ret (lst r.L)) (.ret (lst []))) m) rfl hs).symm]
    simp only [exec]
    cases reads ts (.elems e p) (m + 1) with
    | error m => rfl
    | ok rq => rfl
   | false =>
    rw [← (ex_skipN (R := exec ts (reads ts) (.skip [59] (.call (.elems e p) fun r => .ret (lst (x :: r.L))) (.ret (lst [x]))) m) rfl hs).symm, ← (ex_skipN (R := exec ts (reads ts) (.skip [59] (.call (.elems e p) fun r => .ret (lst r.L)) (.ret (lst []))) m) rfl hs).symm]
    rfl
 ·have hl := isS_in e1
  refine Eq.trans (ex_skip (z := .ret (lst [])) rfl e1) ?_
  simp only [exec]
  rw [reads_eq (.elems e p) (i := k + 1) hl]
  show (match exec ts (reads ts) (.test (isS e) (.ret (lst [])) (.call (elN p) fun x => .skip [59] (.call (.elems e p) fun r => .ret (lst (x :: r.L))) (.ret (lst [x])))) (k + 1) with | .error m => Except.error m | .ok (x, j) => exec ts (reads ts) (.ret (lst x.L)) j) = _
  rw [← (ex_yes (R := exec ts (reads ts) (.test (isS e) (.ret (lst [])) (.call (elN p) fun x => .skip [59] (.call (.elems e p) fun r => .ret (lst (x :: r.L))) (.ret (lst [x])))) (k + 1)) rfl e2).symm]
  rfl
 ·exact ex_skipN (y := .call (.elems e p) fun r => .ret (lst r.L)) rfl e1
end
end Go.Proofs.YthjmakjhidjbaaaGreat
