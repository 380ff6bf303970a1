/-
 Layer 8, plain: what stands in brackets, and signs between such: what is read first. No program is named.
-/
import Derived.Test.YthjmakjhidjbaaaGreatLibAC
namespace Go.Proofs.YthjmakjhidjbaaaGreat
set_option linter.unusedVariables false
set_option linter.unusedSimpArgs false
set_option maxHeartbeats 1000000

/-- The levels: what is loosest first. -/
def lvN : Nat → NT
 | 0 => .seq
 | 1 => .expr
 | 2 => .tup
 | L + 3 => .join L
/-- It goes on with that at a level. -/
def goesAt : Nat → Tk → Bool
 | 0, t => isS [59] t
 | 1, t => isS [58, 61] t || isS [60, 45] t
 | 2, t => isS [44] t
 | L + 3, t => isOne (signsAt L) t
/-- An opening bracket, or begin. -/
def opens (t : Tk) : Bool := isS [40] t || isS [98, 101, 103, 105, 110] t
theorem opens_cases {t : Tk} (h : opens t = true) : ∃ z, t = ⟨5, [40], z⟩ ∨ t = ⟨5, [98, 101, 103, 105, 110], z⟩ := by
 unfold opens at h
 rw [Bool.or_eq_true] at h
 refine ⟨t.N, ?_⟩
 rcases h with h | h
 ·left
  unfold isS at h
  rw [Bool.and_eq_true, beq_iff_eq, beq_iff_eq] at h
  cases t; simp at h; simp [h.1, h.2]
 ·right
  unfold isS at h
  rw [Bool.and_eq_true, beq_iff_eq, beq_iff_eq] at h
  cases t; simp at h; simp [h.1, h.2]
section
variable {ts : List Tk} {i j : Nat} {x : Tr}
theorem up_post (hi : i ≤ ts.length) (ho : opens (tk ts i) = true) (h : reads ts .atom i = .ok (x, j)) (h1 : isS [46] (tk ts j) = false) (h2 : isS [46, 40] (tk ts j) = false) : reads ts .post i = .ok (x, j) := by
 have hj : j ≤ ts.length := by have := (reads_fine (ts := ts) .atom hi).2.1; rw [h] at this; exact this
 rw [reads_eq _ hi]
 have hb : isS [33] (tk ts i) = false := by obtain ⟨z, e | e⟩ := opens_cases ho <;> rw [e] <;> rfl
 simp only [body, Pg.skip, exec, hb, h, Bool.false_eq_true, if_false]
 rw [reads_eq _ hj]
 simp only [body, Pg.skip, exec, h1, h2, Bool.false_eq_true, if_false]
theorem up_app (hi : i ≤ ts.length) (ho : opens (tk ts i) = true) (h : reads ts .post i = .ok (x, j)) (h1 : postAhead (tk ts j) = false) : reads ts .app i = .ok (x, j) := by
 have hj : j ≤ ts.length := by have := (reads_fine (ts := ts) .post hi).2.1; rw [h] at this; exact this
 rw [reads_eq _ hi]
 have hb : isS [114, 97, 105, 115, 101] (tk ts i) = false ∧ isK 4 (tk ts i) = false := by obtain ⟨z, e | e⟩ := opens_cases ho <;> rw [e] <;> exact ⟨rfl, rfl⟩
 simp only [body, Pg.skip, exec, hb.1, hb.2, h, Bool.false_eq_true, if_false]
 rw [reads_eq _ hj]
 simp only [body, Pg.skip, exec, h1, Bool.false_eq_true, if_false]
 rfl
theorem up_un (hi : i ≤ ts.length) (ho : opens (tk ts i) = true) (h : reads ts .app i = .ok (x, j)) : reads ts (.join 7) i = .ok (x, j) := by
 have hb : isOne [[45], [110, 111, 116]] (tk ts i) = false := by obtain ⟨z, e | e⟩ := opens_cases ho <;> rw [e] <;> rfl
 rw [reads_eq _ hi]
 simp only [body, exec, show (7 ≤ 7) = True from by simp, if_true]
 rw [reads_eq _ hi]
 simp only [body, exec, hb, h, Bool.false_eq_true, if_false]
theorem up_join {L : Nat} (hL : L < 7) (hi : i ≤ ts.length) (h : reads ts (.join (L + 1)) i = .ok (x, j)) (h1 : isOne (signsAt L) (tk ts j) = false) : reads ts (.join L) i = .ok (x, j) := by
 have hj : j ≤ ts.length := by have := (reads_fine (ts := ts) (.join (L + 1)) hi).2.1; rw [h] at this; exact this
 rw [reads_eq _ hi]
 simp only [body]
 rw [if_neg (by omega)]
 split
 ·simp only [exec, h]
  rw [reads_eq _ hj]
  simp only [body, exec, h1, Bool.false_eq_true, if_false]
 ·simp only [exec, h, h1, Bool.false_eq_true, if_false]
theorem up_tup (hi : i ≤ ts.length) (h : reads ts (.join 0) i = .ok (x, j)) (h1 : isS [44] (tk ts j) = false) : reads ts .tup i = .ok (x, j) := by
 rw [reads_eq _ hi]
 simp only [body, Pg.skip, exec, h, h1, Bool.false_eq_true, if_false]
theorem start_expr (ho : opens (tk ts i) = true) (hi : i ≤ ts.length) : reads ts .expr i = exec ts (reads ts) (.call .tup fun x => .here fun to => Pg.skip [58, 61] (.call .expr fun y => .ret (.mk 29 to 0 [58, 61] [x, y])) (.test (isS [60, 45]) (if x.kind = 12 then .eat fun _ => .call .expr fun y => .ret (.mk 13 to 0 x.S (x.L ++ [y])) else if x.kind = 14 then .eat fun _ => .call .expr fun y => .ret (.mk 15 to 0 [] (x.L ++ [y])) else .bad) (.ret x))) i := by
 rw [reads_eq _ hi]
 obtain ⟨z, e | e⟩ := opens_cases ho <;> (simp only [body, Pg.skip, exec]; rw [e]; rfl)
theorem up_expr (hi : i ≤ ts.length) (ho : opens (tk ts i) = true) (h : reads ts .tup i = .ok (x, j)) (h1 : isS [58, 61] (tk ts j) = false) (h2 : isS [60, 45] (tk ts j) = false) : reads ts .expr i = .ok (x, j) := by
 rw [start_expr ho hi]
 simp only [Pg.skip, exec, h, h1, h2, Bool.false_eq_true, if_false]
theorem up_seq (hi : i ≤ ts.length) (h : reads ts .expr i = .ok (x, j)) (h1 : isS [59] (tk ts j) = false) : reads ts .seq i = .ok (x, j) := by
 rw [reads_eq _ hi]
 simp only [body, Pg.skip, exec, h, h1, Bool.false_eq_true, if_false]
/-- A level up. -/
theorem up_level {L : Nat} (hL : L < 10) (hi : i ≤ ts.length) (ho : opens (tk ts i) = true) (h : reads ts (lvN (L + 1)) i = .ok (x, j)) (h1 : goesAt L (tk ts j) = false) : reads ts (lvN L) i = .ok (x, j) := by
 match L, hL, h, h1 with
 | 0, _, h, h1 => exact up_seq hi h h1
 | 1, _, h, h1 =>
  unfold goesAt at h1
  rw [Bool.or_eq_false_iff] at h1
  exact up_expr hi ho h h1.1 h1.2
 | 2, _, h, h1 => exact up_tup hi h h1
 | L + 3, hL, h, h1 => exact up_join (by omega) hi h h1
/-- Some levels up. -/
theorem up_levels (hi : i ≤ ts.length) (ho : opens (tk ts i) = true) : ∀ (n L : Nat), L + n ≤ 10 → reads ts (lvN (L + n)) i = .ok (x, j) → (∀ k, L ≤ k → k < L + n → goesAt k (tk ts j) = false) → reads ts (lvN L) i = .ok (x, j)
 | 0, L, hL, h, hg => h
 | n + 1, L, hL, h, hg => up_levels hi ho n L (by omega) (up_level (by omega) hi ho h (hg (L + n) (by omega) (by omega))) (fun k h1 h2 => hg k h1 (by omega))
end
/-- What a sign joins at a level. -/
def joinT : Nat → List UInt8 → Nat → Tr → Tr → Tr
 | 0, _, p, x, y => .mk 28 p 0 [] [x, y]
 | 1, _, p, x, y => .mk 29 p 0 [58, 61] [x, y]
 | _, s, p, x, y => mkJ s p x y
/-- That joins at a level. -/
def opAt : Nat → Tk → Bool
 | 0, t => isS [59] t
 | 1, t => isS [58, 61] t
 | 2, _ => false
 | L + 3, t => isOne (signsAt L) t
def leftL : Nat → Bool
 | 0 => false
 | 1 => false
 | 2 => false
 | L + 3 => leftAt L
theorem isOne_lt {ts : List Tk} {k : Nat} {l : List (List UInt8)} (h : isOne l (tk ts k) = true) : k < ts.length := by
 unfold isOne at h
 rw [List.any_eq_true] at h
 obtain ⟨s, _, hs⟩ := h
 exact isS_lt hs
theorem opAt_lt {ts : List Tk} {k : Nat} : ∀ {L : Nat}, opAt L (tk ts k) = true → k < ts.length
 | 0, h => isS_lt h
 | 1, h => isS_lt h
 | 2, h => by cases h
 | L + 3, h => isOne_lt h
section
variable {ts : List Tk} {i j q r : Nat} {x y z : Tr}
/-- Two that a sign joins. -/
theorem bin_right {L : Nat} (hL : L < 10) (hl : leftL L = false) (hi : i ≤ ts.length) (ho : opens (tk ts i) = true) (h : reads ts (lvN (L + 1)) i = .ok (x, j)) (hop : opAt L (tk ts j) = true) (hy : reads ts (lvN L) (j + 1) = .ok (y, q)) : reads ts (lvN L) i = .ok (joinT L (tk ts j).S j x y, q) := by
 have hj := opAt_lt hop
 match L, hL, hl, h, hop, hy with
 | 0, _, _, h, hop, hy =>
  have h' : reads ts .expr i = .ok (x, j) := h
  have hy' : reads ts .seq (j + 1) = .ok (y, q) := hy
  have hop' : isS [59] (tk ts j) = true := hop
  show reads ts .seq i = _
  rw [reads_eq _ hi]
  simp only [body, Pg.skip, exec, h', hop', hy', if_true, if_pos hj]
  rfl
 | 1, _, _, h, hop, hy =>
  have h' : reads ts .tup i = .ok (x, j) := h
  have hy' : reads ts .expr (j + 1) = .ok (y, q) := hy
  have hop' : isS [58, 61] (tk ts j) = true := hop
  show reads ts .expr i = _
  rw [start_expr ho hi]
  simp only [Pg.skip, exec, h', hop', hy', if_true, if_pos hj]
  rfl
 | 2, _, _, h, hop, hy => cases hop
 | L + 3, hL, hl, h, hop, hy =>
  have h' : reads ts (.join (L + 1)) i = .ok (x, j) := h
  have hy' : reads ts (.join L) (j + 1) = .ok (y, q) := hy
  have hop' : isOne (signsAt L) (tk ts j) = true := hop
  have hl' : leftAt L = false := hl
  show reads ts (.join L) i = _
  rw [reads_eq _ hi]
  simp only [body]
  rw [if_neg (by omega), if_neg (by rw [hl']; decide)]
  simp only [exec, h', hop', hy', if_true, if_pos hj]
  rfl
/-- From the left: what is joined so far, and what comes. -/
theorem joinR_stop {L : Nat} (hj : j ≤ ts.length) (h1 : isOne (signsAt L) (tk ts j) = false) : reads ts (.joinR L x) j = .ok (x, j) := by
 rw [reads_eq _ hj]
 simp only [body, exec, h1, Bool.false_eq_true, if_false]
theorem joinR_more {L : Nat} (hop : isOne (signsAt L) (tk ts j) = true) (hy : reads ts (.join (L + 1)) (j + 1) = .ok (y, q)) : reads ts (.joinR L x) j = reads ts (.joinR L (mkJ (tk ts j).S j x y)) q := by
 have hj := isOne_lt hop
 rw [reads_eq _ (Nat.le_of_lt hj)]
 simp only [body, exec, hop, hy, if_true, if_pos hj]
 cases reads ts (.joinR L (mkJ (tk ts j).S j x y)) q with
 | error m => rfl
 | ok xj => rfl
theorem join_left {L : Nat} (hL : L < 7) (hl : leftAt L = true) (hi : i ≤ ts.length) (h : reads ts (.join (L + 1)) i = .ok (x, j)) : reads ts (.join L) i = reads ts (.joinR L x) j := by
 rw [reads_eq _ hi]
 simp only [body]
 rw [if_neg (by omega), if_pos hl]
 simp only [exec, h]
 cases reads ts (.joinR L x) j with
 | error m => rfl
 | ok xj => rfl
theorem bin_left {L : Nat} (hL : L < 10) (hl : leftL L = true) (hi : i ≤ ts.length) (h : reads ts (lvN (L + 1)) i = .ok (x, j)) (hop : opAt L (tk ts j) = true) (hy : reads ts (lvN (L + 1)) (j + 1) = .ok (y, q)) (hq : goesAt L (tk ts q) = false) : reads ts (lvN L) i = .ok (joinT L (tk ts j).S j x y, q) := by
 have hj := opAt_lt hop
 match L, hL, hl, h, hop, hy, hq with
 | L + 3, hL, hl, h, hop, hy, hq =>
  have hq' : q ≤ ts.length := by have := (reads_fine (ts := ts) (lvN (L + 3 + 1)) (i := j + 1) hj).2.1; rw [hy] at this; exact this
  show reads ts (.join L) i = _
  rw [join_left (by omega) hl hi h, joinR_more hop hy, joinR_stop hq' hq]
  rfl
theorem bin_left2 {L : Nat} (hL : L < 10) (hl : leftL L = true) (hi : i ≤ ts.length) (h : reads ts (lvN (L + 1)) i = .ok (x, j)) (hop : opAt L (tk ts j) = true) (hy : reads ts (lvN (L + 1)) (j + 1) = .ok (y, q)) (hop' : opAt L (tk ts q) = true) (hz : reads ts (lvN (L + 1)) (q + 1) = .ok (z, r)) (hr : goesAt L (tk ts r) = false) : reads ts (lvN L) i = .ok (joinT L (tk ts q).S q (joinT L (tk ts j).S j x y) z, r) := by
 have hj := opAt_lt hop
 have hq := opAt_lt hop'
 match L, hL, hl, h, hop, hy, hop', hz, hr with
 | L + 3, hL, hl, h, hop, hy, hop', hz, hr =>
  have hr' : r ≤ ts.length := by have := (reads_fine (ts := ts) (lvN (L + 3 + 1)) (i := q + 1) hq).2.1; rw [hz] at this; exact this
  show reads ts (.join L) i = _
  rw [join_left (by omega) hl hi h, joinR_more hop hy, joinR_more hop' hz, joinR_stop hr' hr]
  rfl
end
/-- The signs that join. -/
def opsL : List (List UInt8) := [[59], [58, 61], [124, 124], [38, 38], [61], [60, 62], [60], [62], [60, 61], [62, 61], [94], [58, 58], [43], [45], [42], [47], [109, 111, 100]]
/-- A sign of a level goes on at no other. -/
theorem op_other : ∀ L, L < 10 → ∀ K, K < 10 → L ≠ K → ∀ s ∈ opsL, opAt L ⟨5, s, 0⟩ = true → goesAt K ⟨5, s, 0⟩ = false := by decide
/-- A sign that joins is no part of what it joins. -/
theorem op_quiet : ∀ s ∈ opsL, isS [46] ⟨5, s, 0⟩ = false ∧ isS [46, 40] ⟨5, s, 0⟩ = false ∧ postAhead ⟨5, s, 0⟩ = false := by decide
end Go.Proofs.YthjmakjhidjbaaaGreat
