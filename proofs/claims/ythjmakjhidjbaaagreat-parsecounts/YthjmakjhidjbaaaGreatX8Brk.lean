/-
 Layer 8, plain: brackets round what can be read change nothing of it; a let of one. No program is named.
-/
import Derived.Test.YthjmakjhidjbaaaGreatX8Bind
namespace Go.Proofs.YthjmakjhidjbaaaGreat
set_option linter.unusedVariables false
set_option linter.unusedSimpArgs false
set_option maxHeartbeats 1000000

/-- At that token it comes to nothing. -/
def Pg.deadAt (c : Tk) : Pg → Prop
 | .ret _ => False
 | .bad => True
 | .call n _ => hard n = true
 | .test p y n => (p c = true → deadAt c y) ∧ (p c = false → deadAt c n)
 | .eat _ => False
 | .here k => ∀ i, deadAt c (k i)
section
variable {ts : List Tk}
theorem exec_deadAt {rec : NT → Nat → Res} {c : Tk} {i : Nat} (hc : tk ts i = c) (hr : ∀ n, hard n = true → ∀ x j, rec n i ≠ .ok (x, j)) : ∀ (p : Pg), p.deadAt c → ∀ x j, exec ts rec p i ≠ .ok (x, j)
 | .ret x, h, y, j => h.elim
 | .bad, h, y, j => by intro c; cases c
 | .call n k, h, y, j => by
  intro e
  unfold exec at e
  cases g : rec n i with
  | error m => rw [g] at e; cases e
  | ok xj => exact hr n h xj.1 xj.2 g
 | .test p y n, h, z, j => by
  unfold exec
  rw [hc]
  cases d : p c with
  | true => exact exec_deadAt hc hr y (h.1 d) z j
  | false => exact exec_deadAt hc hr n (h.2 d) z j
 | .eat k, h, y, j => h.elim
 | .here k, h, y, j => by
  unfold exec
  exact exec_deadAt hc hr (k i) (h _) y j
/-- A closing bracket begins nothing, nor does a star. -/
theorem none_dead {s : List UInt8} (hs0 : s = [41] ∨ s = [42]) (z : Int) (n : NT) (h : hard n = true) : (body n).deadAt ⟨5, s, z⟩ := by
 have hk : ∀ k, k ≠ 5 → isK k ⟨5, s, z⟩ = false := fun k hk => by
  unfold isK
  rw [beq_eq_false_iff_ne]
  exact fun e => hk e.symm
 have hs : ∀ s', s' ≠ s → isS s' ⟨5, s, z⟩ = false := fun s' hs => by
  unfold isS
  rw [Bool.and_eq_false_iff]
  right
  rw [beq_eq_false_iff_ne]
  exact fun e => hs e.symm
 have p3 : isOne [[45], [110, 111, 116]] ⟨5, s, z⟩ = false := by rcases hs0 with rfl | rfl <;> rfl
 rcases hs0 with rfl | rfl
 all_goals cases n
 all_goals first
  | (simp [hard] at h; done)
  | (simp [body, Pg.deadAt, Pg.skip, Pg.must, Pg.opt, Pg.token, hard, hs, hk, p3]; done)
  | (simp only [body]; split <;> first | (simp [Pg.deadAt, hard]; done) | (split <;> simp [Pg.deadAt, hard]))
theorem run_none {i : Nat} {s : List UInt8} (hs0 : s = [41] ∨ s = [42]) {z : Int} (hc : tk ts i = ⟨5, s, z⟩) : ∀ (n : Nat) (nt : NT), hard nt = true → ∀ x j, run ts n nt i ≠ .ok (x, j)
 | 0, nt, h, x, j => by intro c; cases c
 | n + 1, nt, h, x, j => exec_deadAt hc (fun n' h' x' j' => run_none hs0 hc n n' h' x' j') (body nt) (none_dead hs0 z nt h) x j
theorem none_not {i : Nat} {nt : NT} {s : List UInt8} (hs0 : s = [41] ∨ s = [42]) (h : hard nt = true) {x : Tr} {j : Nat} (hr : reads ts nt i = .ok (x, j)) : isS s (tk ts i) = false := by
 cases c : isS s (tk ts i) with
 | false => rfl
 | true =>
  unfold isS at c
  rw [Bool.and_eq_true, beq_iff_eq, beq_iff_eq] at c
  have e : tk ts i = ⟨5, s, (tk ts i).N⟩ := by cases hh : tk ts i; rw [hh] at c; simp at c; simp [c.1, c.2]
  exact absurd hr (run_none hs0 e _ nt h x j)
theorem close_not {i : Nat} {nt : NT} (h : hard nt = true) {x : Tr} {j : Nat} (hr : reads ts nt i = .ok (x, j)) : isS [41] (tk ts i) = false := none_not (Or.inl rfl) h hr
theorem star_not {i : Nat} {nt : NT} (h : hard nt = true) {x : Tr} {j : Nat} (hr : reads ts nt i = .ok (x, j)) : isS [42] (tk ts i) = false := none_not (Or.inr rfl) h hr
end
/-- What a bracket, or begin, opens, and what closes it. -/
def pairs : List (List UInt8 × List UInt8) := [([40], [41]), ([98, 101, 103, 105, 110], [101, 110, 100])]
section
variable {A : List Tk} {x : Tr}
theorem closers_pair : ∀ p ∈ pairs, p.2 ∈ closers ∧ opens ⟨5, p.1, 0⟩ = true := by decide
/-- In brackets it is the same. -/
theorem brackets (u v : List Tk) {p : List UInt8 × List UInt8} (hp : p ∈ pairs) (h : reads A .seq 0 = .ok (x, A.length)) : ∃ x', reads (u ++ ⟨5, p.1, 0⟩ :: (A ++ ⟨5, p.2, 0⟩ :: v)) .atom u.length = .ok (x', u.length + A.length + 2) ∧ x.eqv x' := by
 have hA := (reads_fine (ts := A) .seq (Nat.zero_le _)).2.2
 have hA2 : 0 < A.length := hA x A.length h rfl
 have hn := close_not (nt := .seq) rfl h
 have h1 : reads (A ++ ⟨5, p.2, 0⟩ :: v) .seq 0 = .ok (x, A.length) := by
  refine reads_stop (closer_sign (closers_pair p hp).1 0) (fun j hj => tk_left hj) (by rw [List.length_append]; omega) ?_ (by intro c; cases c) (Nat.zero_le _) h
  have := tk_app (u := A) (l := ⟨5, p.2, 0⟩ :: v) 0
  rw [Nat.zero_add] at this
  exact this
 obtain ⟨x', h2, h3⟩ := reads_ahead (u := u ++ [⟨5, p.1, 0⟩]) (Nat.zero_le _) h1
 have e : (u ++ [⟨5, p.1, 0⟩]) ++ (A ++ ⟨5, p.2, 0⟩ :: v) = u ++ ⟨5, p.1, 0⟩ :: (A ++ ⟨5, p.2, 0⟩ :: v) := by simp
 have el : (u ++ [(⟨5, p.1, 0⟩ : Tk)]).length = u.length + 1 := by simp
 rw [e, el, Nat.zero_add] at h2
 refine ⟨x', ?_, h3⟩
 generalize hts : u ++ ⟨5, p.1, 0⟩ :: (A ++ ⟨5, p.2, 0⟩ :: v) = ts at h2 ⊢
 have hlen : ts.length = u.length + (A.length + (v.length + 1) + 1) := by rw [← hts]; simp
 have t0 : tk ts u.length = ⟨5, p.1, 0⟩ := by
  rw [← hts]
  have := tk_app (u := u) (l := ⟨5, p.1, 0⟩ :: (A ++ ⟨5, p.2, 0⟩ :: v)) 0
  rw [Nat.zero_add] at this
  exact this
 have t1 : tk ts (u.length + 1) = tk A 0 := by
  rw [← hts, ← e]
  have := tk_app (u := u ++ [⟨5, p.1, 0⟩]) (l := A ++ ⟨5, p.2, 0⟩ :: v) 0
  rw [Nat.zero_add, el] at this
  rw [this]
  exact tk_left hA2
 have t2 : tk ts (A.length + (u.length + 1)) = ⟨5, p.2, 0⟩ := by
  rw [← hts, ← e, ← el, tk_app]
  have := tk_app (u := A) (l := ⟨5, p.2, 0⟩ :: v) 0
  rw [Nat.zero_add] at this
  exact this
 rw [reads_eq _ (by omega)]
 rw [← t1] at hn
 simp only [pairs, List.mem_cons, List.not_mem_nil, or_false] at hp
 rcases hp with rfl | rfl
 ·simp only [body, Pg.skip, Pg.must, exec]
  rw [t0, show isK 1 ⟨5, [40], 0⟩ = false from rfl, show isK 2 ⟨5, [40], 0⟩ = false from rfl, show isK 3 ⟨5, [40], 0⟩ = false from rfl, show isK 4 ⟨5, [40], 0⟩ = false from rfl, show isS [116, 114, 117, 101] ⟨5, [40], 0⟩ = false from rfl, show isS [102, 97, 108, 115, 101] ⟨5, [40], 0⟩ = false from rfl, show isS [40] ⟨5, [40], 0⟩ = true from rfl]
  simp only [Bool.false_eq_true, if_false, if_true]
  rw [if_pos (by omega), hn]
  simp only [Bool.false_eq_true, if_false, h2, t2]
  rw [show isS [41] ⟨5, [41], 0⟩ = true from rfl]
  simp only [if_true]
  rw [if_pos (by omega)]
  congr 2
  omega
 ·simp only [body, Pg.skip, Pg.must, exec]
  rw [t0, show isK 1 ⟨5, [98, 101, 103, 105, 110], 0⟩ = false from rfl, show isK 2 ⟨5, [98, 101, 103, 105, 110], 0⟩ = false from rfl, show isK 3 ⟨5, [98, 101, 103, 105, 110], 0⟩ = false from rfl, show isK 4 ⟨5, [98, 101, 103, 105, 110], 0⟩ = false from rfl, show isS [116, 114, 117, 101] ⟨5, [98, 101, 103, 105, 110], 0⟩ = false from rfl, show isS [102, 97, 108, 115, 101] ⟨5, [98, 101, 103, 105, 110], 0⟩ = false from rfl, show isS [40] ⟨5, [98, 101, 103, 105, 110], 0⟩ = false from rfl, show isS [98, 101, 103, 105, 110] ⟨5, [98, 101, 103, 105, 110], 0⟩ = true from rfl]
  simp only [Bool.false_eq_true, if_false, if_true]
  rw [if_pos (by omega)]
  simp only [h2, t2]
  rw [show isS [101, 110, 100] ⟨5, [101, 110, 100], 0⟩ = true from rfl]
  simp only [if_true]
  rw [if_pos (by omega)]
  congr 2
  omega
end
/-- let _ = -/
def u3 : List Tk := [⟨5, [108, 101, 116], 0⟩, ⟨5, [95], 0⟩, ⟨5, [61], 0⟩]
def anyT : Tr := .mk 105 1 0 [] []
def letT (x : Tr) : Tr := .mk 205 0 0 [] [.mk 20 1 0 [] [anyT, x]]
section
variable {X : List Tk}
theorem u3_0 : tk (u3 ++ X) 0 = ⟨5, [108, 101, 116], 0⟩ := rfl
theorem u3_1 : tk (u3 ++ X) 1 = ⟨5, [95], 0⟩ := rfl
theorem u3_2 : tk (u3 ++ X) 2 = ⟨5, [61], 0⟩ := rfl
theorem u3_len : (u3 ++ X).length = X.length + 3 := by simp [u3]
theorem let_pat : reads (u3 ++ X) .pat 1 = .ok (anyT, 2) := by
 have hl := u3_len (X := X)
 have h1 : reads (u3 ++ X) .patom 1 = .ok (anyT, 2) := by
  rw [reads_eq _ (by omega)]
  simp only [body, Pg.skip, exec]
  rw [u3_1]
  exact (if_pos (show 1 < (u3 ++ X).length by omega) : (if 1 < (u3 ++ X).length then (Except.ok (Tr.mk 105 1 0 [] [], 1 + 1) : Res) else .error 1) = _)
 have h2 : reads (u3 ++ X) .papp 1 = .ok (anyT, 2) := by
  rw [reads_eq _ (by omega)]
  simp only [body, exec, h1]
  rw [u3_1]
  rfl
 have h3 : reads (u3 ++ X) .pcons 1 = .ok (anyT, 2) := by
  rw [reads_eq _ (by omega)]
  simp only [body, Pg.skip, exec, h2]
  rw [u3_2]
  rfl
 have h4 : reads (u3 ++ X) .ptup 1 = .ok (anyT, 2) := by
  rw [reads_eq _ (by omega)]
  simp only [body, Pg.skip, exec, h3]
  rw [u3_2]
  rfl
 have h5 : reads (u3 ++ X) .alt 1 = .ok (anyT, 2) := by
  rw [reads_eq _ (by omega)]
  simp only [body, Pg.skip, exec, h4]
  rw [u3_2]
  rfl
 have h6 : reads (u3 ++ X) (.patR anyT) 2 = .ok (anyT, 2) := by
  rw [reads_eq _ (by omega)]
  simp only [body, Pg.skip, exec]
  rw [u3_2]
  rfl
 rw [reads_eq _ (by omega)]
 simp only [body, exec, h5, h6]
theorem let_bind : reads (u3 ++ X) .bind 1 = (match reads (u3 ++ X) .seq 3 with | .error m => .error m | .ok (x, q) => .ok (.mk 20 1 0 [] [anyT, x], q)) := by
 have hl := u3_len (X := X)
 rw [reads_eq _ (by omega)]
 simp only [body, Pg.skip, exec, let_pat]
 rw [u3_2, show isS [61] ⟨5, [61], 0⟩ = true from rfl]
 simp only [if_true]
 rw [if_pos (show 2 < (u3 ++ X).length by omega)]
 rfl
theorem let_item : reads (u3 ++ X) .item 0 = (match reads (u3 ++ X) .seq 3 with | .error m => .error m | .ok (x, q) => (match reads (u3 ++ X) .ands q with | .error m => .error m | .ok (r, k) => .ok (.mk 205 0 0 [] (.mk 20 1 0 [] [anyT, x] :: r.L), k))) := by
 have hl := u3_len (X := X)
 have h1 : reads (u3 ++ X) (.letN 205 0) 1 = (match reads (u3 ++ X) .seq 3 with | .error m => .error m | .ok (x, q) => (match reads (u3 ++ X) .ands q with | .error m => .error m | .ok (r, k) => .ok (.mk 205 0 0 [] (.mk 20 1 0 [] [anyT, x] :: r.L), k))) := by
  rw [reads_eq _ (by omega)]
  simp only [body, Pg.skip, exec, let_bind]
  rw [u3_1, show isS [114, 101, 99] ⟨5, [95], 0⟩ = false from rfl]
  simp only [Bool.false_eq_true, if_false]
  cases reads (u3 ++ X) .seq 3 with
  | error m => rfl
  | ok xq =>
   simp only
   cases reads (u3 ++ X) .ands xq.2 with
   | error m => rfl
   | ok rk => rfl
 rw [reads_eq _ (by omega)]
 simp only [body, Pg.skip, exec]
 rw [u3_0, show isS [108, 101, 116] ⟨5, [108, 101, 116], 0⟩ = true from rfl]
 simp only [if_true]
 rw [if_pos (show 0 < (u3 ++ X).length by omega), h1]
 cases reads (u3 ++ X) .seq 3 with
 | error m => rfl
 | ok xq =>
  simp only
  cases reads (u3 ++ X) .ands xq.2 with
  | error m => rfl
  | ok rk => rfl
theorem ands_no {ts : List Tk} {q : Nat} (hq : q ≤ ts.length) (h : isS [97, 110, 100] (tk ts q) = false) : reads ts .ands q = .ok (lst [], q) := by
 rw [reads_eq _ hq]
 simp only [body, Pg.skip, exec, h, Bool.false_eq_true, if_false]
theorem ands_yes {ts : List Tk} {q : Nat} (h : isS [97, 110, 100] (tk ts q) = true) {r : Tr} {k : Nat} (hr : reads ts .ands q = .ok (r, k)) : r.L ≠ [] := by
 have hq := isS_lt h
 rw [reads_eq _ (Nat.le_of_lt hq)] at hr
 simp only [body, Pg.skip, exec, h, if_true, if_pos hq] at hr
 cases e : reads ts .bind (q + 1) with
 | error m => rw [e] at hr; cases hr
 | ok xj =>
  rw [e] at hr
  simp only at hr
  cases e2 : reads ts .ands xj.2 with
  | error m => rw [e2] at hr; cases hr
  | ok rj =>
   rw [e2] at hr
   simp only [Except.ok.injEq, Prod.mk.injEq] at hr
   rw [← hr.1]
   simp [lst, Tr.L]
/-- A let of one that is read to the end. -/
theorem let_wrap (ht : Toks X) {x : Tr} (h : reads (u3 ++ X) .seq 3 = .ok (x, X.length + 3)) : reads (u3 ++ X) .items 0 = .ok (lst [letT x], X.length + 3) := by
 have hl := u3_len (X := X)
 have ht3 : Toks (u3 ++ X) := fun t hh => by
  rcases List.mem_append.1 hh with c | c
  ·simp only [u3, List.mem_cons, List.not_mem_nil, or_false] at c
   rcases c with rfl | rfl | rfl <;> decide
  ·exact ht t c
 rw [items_more ht3 (by omega), let_item, h]
 simp only
 have e0 : tk (u3 ++ X) (X.length + 3) = endT := tk_end (by omega)
 rw [ands_no (by omega) (by rw [e0]; rfl)]
 simp only
 have e1 : behind (u3 ++ X) (X.length + 3) = X.length + 3 := by unfold behind; rw [e0]; rfl
 rw [e1, items_end (by omega) (by omega)]
 rfl
/-- .. and the other way round. -/
theorem let_inv (ht : Toks X) {r y : Tr} {e : Nat} (h : reads (u3 ++ X) .items 0 = .ok (r, e)) (hr : r.L = [y]) (hy : y.L.length = 1) : ∃ x k, reads (u3 ++ X) .seq 3 = .ok (x, k) ∧ behind (u3 ++ X) k = X.length + 3 ∧ y = letT x ∧ e = X.length + 3 := by
 have hl := u3_len (X := X)
 have ht3 : Toks (u3 ++ X) := fun t hh => by
  rcases List.mem_append.1 hh with c | c
  ·simp only [u3, List.mem_cons, List.not_mem_nil, or_false] at c
   rcases c with rfl | rfl | rfl <;> decide
  ·exact ht t c
 rw [items_more ht3 (by omega), let_item] at h
 cases hx : reads (u3 ++ X) .seq 3 with
 | error m => rw [hx] at h; cases h
 | ok xq =>
  obtain ⟨x, q⟩ := xq
  rw [hx] at h
  simp only at h
  have hq : q ≤ (u3 ++ X).length := by have := (reads_fine (ts := u3 ++ X) .seq (i := 3) (by omega)).2.1; rw [hx] at this; exact this
  cases hn : reads (u3 ++ X) .ands q with
  | error m => rw [hn] at h; cases h
  | ok rk =>
   obtain ⟨n, k⟩ := rk
   rw [hn] at h
   simp only at h
   have hk : k ≤ (u3 ++ X).length := by have := (reads_fine (ts := u3 ++ X) .ands hq).2.1; rw [hn] at this; exact this
   cases hi : reads (u3 ++ X) .items (behind (u3 ++ X) k) with
   | error m => rw [hi] at h; cases h
   | ok sj =>
    obtain ⟨s, j⟩ := sj
    rw [hi] at h
    simp only [Except.ok.injEq, Prod.mk.injEq] at h
    obtain ⟨h1, h2⟩ := h
    rw [← h1] at hr
    simp only [lst, Tr.L, List.cons.injEq] at hr
    obtain ⟨hr1, hr2⟩ := hr
    have hnn : n.L = [] := by
     rw [← hr1] at hy
     simp only [Tr.L, List.length_cons] at hy
     exact List.length_eq_zero_iff.1 (by simp only [Tr.L]; omega)
    have hand : isS [97, 110, 100] (tk (u3 ++ X) q) = false := by
     cases c : isS [97, 110, 100] (tk (u3 ++ X) q) with
     | false => rfl
     | true => exact absurd hnn (ands_yes c hn)
    rw [ands_no hq hand] at hn
    simp only [Except.ok.injEq, Prod.mk.injEq] at hn
    obtain ⟨rfl, rfl⟩ := hn
    have hb := behind_le hq
    have hbe : behind (u3 ++ X) q = X.length + 3 := by
     rcases Nat.lt_or_ge (behind (u3 ++ X) q) (u3 ++ X).length with c | c
     ·rw [items_more ht3 c] at hi
      cases g : reads (u3 ++ X) .item (behind (u3 ++ X) q) with
      | error m => rw [g] at hi; cases hi
      | ok a =>
       rw [g] at hi
       simp only at hi
       cases g2 : reads (u3 ++ X) .items (behind (u3 ++ X) a.2) with
       | error m => rw [g2] at hi; cases hi
       | ok b =>
        rw [g2] at hi
        simp only [Except.ok.injEq, Prod.mk.injEq] at hi
        have : s.L = [] := hr2
        rw [← hi.1] at this
        simp [lst, Tr.L] at this
     ·omega
    refine ⟨x, q, rfl, hbe, ?_, ?_⟩
    ·rw [← hr1]; rfl
    ·rw [hbe, items_end (by omega) (by omega)] at hi
     simp only [Except.ok.injEq, Prod.mk.injEq] at hi
     omega
end
end Go.Proofs.YthjmakjhidjbaaaGreat
