/-
 Layer 8, plain: brackets round a let's seq; two signs between three that stand in brackets. No program is named.
-/
import Derived.Test.YthjmakjhidjbaaaGreatX8Brk
namespace Go.Proofs.YthjmakjhidjbaaaGreat
set_option linter.unusedVariables false
set_option linter.unusedSimpArgs false
set_option maxHeartbeats 1000000

/-- In brackets, from i up to j. -/
structure At8 (ts : List Tk) (i j : Nat) (x : Tr) : Prop where
 le : i ≤ ts.length
 op : opens (tk ts i) = true
 rd : reads ts .atom i = .ok (x, j)
theorem goes_end : ∀ k, k < 10 → goesAt k endT = false := by decide
section
variable {ts : List Tk} {i j k : Nat} {x y z : Tr}
theorem At8.top (h : At8 ts i j x) (h1 : isS [46] (tk ts j) = false) (h2 : isS [46, 40] (tk ts j) = false) (h3 : postAhead (tk ts j) = false) : reads ts (lvN 10) i = .ok (x, j) := up_un h.le h.op (up_app h.le h.op (up_post h.le h.op h.rd h1 h2) h3)
theorem At8.level (h : At8 ts i j x) (h1 : isS [46] (tk ts j) = false) (h2 : isS [46, 40] (tk ts j) = false) (h3 : postAhead (tk ts j) = false) (L : Nat) (hL : L ≤ 10) (hg : ∀ k, L ≤ k → k < 10 → goesAt k (tk ts j) = false) : reads ts (lvN L) i = .ok (x, j) := by
 refine up_levels h.le h.op (10 - L) L (by omega) ?_ (fun k a b => hg k a (by omega))
 rw [show L + (10 - L) = 10 by omega]
 exact h.top h1 h2 h3
theorem At8.end_ (h : At8 ts i ts.length x) (L : Nat) (hL : L ≤ 10) : reads ts (lvN L) i = .ok (x, ts.length) := by
 have e : tk ts ts.length = endT := tk_end (Nat.le_refl _)
 exact h.level (by rw [e]; rfl) (by rw [e]; rfl) (by rw [e]; rfl) L hL (fun k _ hk => by rw [e]; exact goes_end k hk)
/-- Ahead of a sign of level K: up to any level that is tighter. -/
theorem At8.ahead (h : At8 ts i j x) {s : List UInt8} (hs : s ∈ opsL) (e : tk ts j = ⟨5, s, 0⟩) {K : Nat} (hK : K < 10) (ho : opAt K ⟨5, s, 0⟩ = true) (L : Nat) (hL : K < L) (hL2 : L ≤ 10) : reads ts (lvN L) i = .ok (x, j) := by
 obtain ⟨q1, q2, q3⟩ := op_quiet s hs
 exact h.level (by rw [e]; exact q1) (by rw [e]; exact q2) (by rw [e]; exact q3) L hL2 (fun k h1 h2 => by rw [e]; exact op_other K hK k h2 (by omega) s hs ho)
/-- Two, a sign between them: at the sign's level, and at each looser one. -/
theorem one_sign_at (hx : At8 ts i j x) {s : List UInt8} (hs : s ∈ opsL) (e : tk ts j = ⟨5, s, 0⟩) {K : Nat} (hK : K < 10) (ho : opAt K ⟨5, s, 0⟩ = true) (hy : At8 ts (j + 1) ts.length y) (L : Nat) (hL : L ≤ K) : reads ts (lvN L) i = .ok (joinT K s j x y, ts.length) := by
 have e0 : tk ts ts.length = endT := tk_end (Nat.le_refl _)
 have h1 : reads ts (lvN K) i = .ok (joinT K s j x y, ts.length) := by
  have hs' : (tk ts j).S = s := by rw [e]
  have ho' : opAt K (tk ts j) = true := by rw [e]; exact ho
  rw [← hs']
  cases hl : leftL K with
  | false => exact bin_right hK hl hx.le hx.op (hx.ahead hs e hK ho (K + 1) (by omega) (by omega)) ho' (hy.end_ K (by omega))
  | true => exact bin_left hK hl hx.le (hx.ahead hs e hK ho (K + 1) (by omega) (by omega)) ho' (hy.end_ (K + 1) (by omega)) (by rw [e0]; exact goes_end K hK)
 refine up_levels hx.le hx.op (K - L) L (by omega) ?_ (fun k _ hk => by rw [e0]; exact goes_end k (by omega))
 rw [show L + (K - L) = K by omega]
 exact h1
/-- Three, two signs between them. -/
theorem two_signs (hx : At8 ts i j x) {s s' : List UInt8} (hs : s ∈ opsL) (e : tk ts j = ⟨5, s, 0⟩) {K K' : Nat} (hK : K < 10) (ho : opAt K ⟨5, s, 0⟩ = true) (hy : At8 ts (j + 1) k y) (hs' : s' ∈ opsL) (e' : tk ts k = ⟨5, s', 0⟩) (hK' : K' < 10) (ho' : opAt K' ⟨5, s', 0⟩ = true) (hz : At8 ts (k + 1) ts.length z) :
  reads ts .seq i = .ok (if K' < K ∨ (K = K' ∧ leftL K = true) then joinT K' s' k (joinT K s j x y) z else joinT K s j x (joinT K' s' k y z), ts.length) := by
 have e0 : tk ts ts.length = endT := tk_end (Nat.le_refl _)
 have q1 : (tk ts j).S = s := by rw [e]
 have q2 : (tk ts k).S = s' := by rw [e']
 have o1 : opAt K (tk ts j) = true := by rw [e]; exact ho
 have o2 : opAt K' (tk ts k) = true := by rw [e']; exact ho'
 have up : ∀ T, ∀ L, L ≤ 10 → reads ts (lvN L) i = .ok (T, ts.length) → reads ts .seq i = .ok (T, ts.length) := fun T L hL h => up_levels hx.le hx.op L 0 (by omega) (by rw [Nat.zero_add]; exact h) (fun k _ hk => by rw [e0]; exact goes_end k (by omega))
 split
 ·rename_i hc
  rcases hc with hc | ⟨rfl, hl⟩
  ·-- the first sign is the tighter one
   have h1 : reads ts (lvN K) i = .ok (joinT K s j x y, k) := by
    rw [← q1]
    cases hl : leftL K with
    | false => exact bin_right hK hl hx.le hx.op (hx.ahead hs e hK ho (K + 1) (by omega) (by omega)) o1 (hy.ahead hs' e' hK' ho' K hc (by omega))
    | true => exact bin_left hK hl hx.le (hx.ahead hs e hK ho (K + 1) (by omega) (by omega)) o1 (hy.ahead hs' e' hK' ho' (K + 1) (by omega) (by omega)) (by rw [e']; exact op_other K' hK' K hK (by omega) s' hs' ho')
   have h2 : reads ts (lvN (K' + 1)) i = .ok (joinT K s j x y, k) := by
    refine up_levels hx.le hx.op (K - (K' + 1)) (K' + 1) (by omega) ?_ (fun m h3 h4 => by rw [e']; exact op_other K' hK' m (by omega) (by omega) s' hs' ho')
    rw [show K' + 1 + (K - (K' + 1)) = K by omega]
    exact h1
   refine up _ K' (by omega) ?_
   have h3 : reads ts (lvN K') i = .ok (joinT K' (tk ts k).S k (joinT K s j x y) z, ts.length) := by
    cases hl : leftL K' with
    | false => exact bin_right hK' hl hx.le hx.op h2 o2 (hz.end_ K' (by omega))
    | true => exact bin_left hK' hl hx.le h2 o2 (hz.end_ (K' + 1) (by omega)) (by rw [e0]; exact goes_end K' hK')
   rw [q2] at h3
   exact h3
  ·refine up _ K (by omega) ?_
   have h3 := bin_left2 hK hl hx.le (hx.ahead hs e hK ho (K + 1) (by omega) (by omega)) o1 (hy.ahead hs' e' hK' ho' (K + 1) (by omega) (by omega)) o2 (hz.end_ (K + 1) (by omega)) (by rw [e0]; exact goes_end K hK)
   rw [q1, q2] at h3
   exact h3
 ·rename_i hc
  refine up _ K (by omega) ?_
  have hge : K ≤ K' := by
   rcases Nat.lt_or_ge K' K with c | c
   ·exact absurd (Or.inl c) hc
   ·exact c
  have h1 : ∀ L, L ≤ K' → reads ts (lvN L) (j + 1) = .ok (joinT K' s' k y z, ts.length) := fun L hL => one_sign_at hy hs' e' hK' ho' hz L hL
  rw [← q1]
  cases hl : leftL K with
  | false => exact bin_right hK hl hx.le hx.op (hx.ahead hs e hK ho (K + 1) (by omega) (by omega)) o1 (h1 K hge)
  | true =>
   have hne : K ≠ K' := fun c => hc (Or.inr ⟨c, hl⟩)
   exact bin_left hK hl hx.le (hx.ahead hs e hK ho (K + 1) (by omega) (by omega)) o1 (h1 (K + 1) (by omega)) (by rw [e0]; exact goes_end K hK)
end
theorem joinT_eqv {L : Nat} {s : List UInt8} {p p' : Nat} {x x' y y' : Tr} (hx : x.eqv x') (hy : y.eqv y') : (joinT L s p x y).eqv (joinT L s p' x' y') := by
 unfold joinT
 split
 ·exact eqv_mk (map_cons hx (map_cons hy rfl))
 ·exact eqv_mk (map_cons hx (map_cons hy rfl))
 ·exact mkJ_eqv hx hy
theorem Tr.eqv.symm {x y : Tr} (h : x.eqv y) : y.eqv x := Eq.symm h
theorem Tr.eqv.trans {x y z : Tr} (h : x.eqv y) (h' : y.eqv z) : x.eqv z := Eq.trans h h'
theorem u3_not : ∀ t ∈ u3, isS [59, 59] t = false := by decide
/-- Tokens in brackets. -/
def br (p : List UInt8 × List UInt8) (A : List Tk) : List Tk := ⟨5, p.1, 0⟩ :: (A ++ [⟨5, p.2, 0⟩])
theorem br_len (p : List UInt8 × List UInt8) (A : List Tk) : (br p A).length = A.length + 2 := by simp [br]
theorem tk_mid (u v : List Tk) (t : Tk) : tk (u ++ t :: v) u.length = t := by
 have := tk_app (u := u) (l := t :: v) 0
 rw [Nat.zero_add] at this
 exact this
theorem At8.of {ts u v A : List Tk} {x : Tr} {p : List UInt8 × List UInt8} (hp : p ∈ pairs) (h : reads A .seq 0 = .ok (x, A.length)) {n m : Nat} (hts : ts = u ++ (br p A ++ v)) (hn : u.length = n) (hm : n + A.length + 2 = m) : ∃ x', At8 ts n m x' ∧ x.eqv x' := by
 subst hn
 subst hm
 obtain ⟨x', h1, h2⟩ := brackets u v hp h
 have e : u ++ (br p A ++ v) = u ++ ⟨5, p.1, 0⟩ :: (A ++ ⟨5, p.2, 0⟩ :: v) := by simp [br]
 rw [e] at hts
 subst hts
 refine ⟨x', ⟨by rw [List.length_append]; omega, ?_, h1⟩, h2⟩
 rw [tk_mid]
 exact (closers_pair p hp).2
def P0 : List UInt8 × List UInt8 := ([40], [41])
theorem P0_in : P0 ∈ pairs := by decide
/-- One sign between two in brackets. -/
theorem one_plain {A B : List Tk} {x y : Tr} (hA : reads A .seq 0 = .ok (x, A.length)) (hB : reads B .seq 0 = .ok (y, B.length)) {s : List UInt8} (hs : s ∈ opsL) {K : Nat} (hK : K < 10) (ho : opAt K ⟨5, s, 0⟩ = true) (u : List Tk) : ∃ x' y' p, reads (u ++ (br P0 A ++ ⟨5, s, 0⟩ :: br P0 B)) .seq u.length = .ok (joinT K s p x' y', u.length + (A.length + B.length + 5)) ∧ x.eqv x' ∧ y.eqv y' := by
 have hl : (u ++ (br P0 A ++ ⟨5, s, 0⟩ :: br P0 B)).length = u.length + (A.length + B.length + 5) := by simp [br_len]; omega
 generalize hts : u ++ (br P0 A ++ ⟨5, s, 0⟩ :: br P0 B) = ts at hl ⊢
 obtain ⟨x', a1, a2⟩ := At8.of (ts := ts) (u := u) (v := ⟨5, s, 0⟩ :: br P0 B) P0_in hA hts.symm rfl rfl
 obtain ⟨y', b1, b2⟩ := At8.of (ts := ts) (u := u ++ (br P0 A ++ [⟨5, s, 0⟩])) (v := []) (n := u.length + A.length + 2 + 1) (m := ts.length) P0_in hB (by rw [← hts]; simp) (by simp [br_len]; omega) (by omega)
 refine ⟨x', y', u.length + A.length + 2, ?_, a2, b2⟩
 rw [← hl]
 refine one_sign_at (L := 0) a1 hs ?_ hK ho b1 (Nat.zero_le _)
 have := tk_mid (u ++ br P0 A) (br P0 B) ⟨5, s, 0⟩
 rw [show u ++ br P0 A ++ ⟨5, s, 0⟩ :: br P0 B = ts by rw [← hts]; simp, show (u ++ br P0 A).length = u.length + A.length + 2 by simp [br_len]; omega] at this
 exact this
/-- Two signs between three in brackets. -/
theorem two_plain {A B C : List Tk} {x y z : Tr} (hA : reads A .seq 0 = .ok (x, A.length)) (hB : reads B .seq 0 = .ok (y, B.length)) (hC : reads C .seq 0 = .ok (z, C.length)) {s s' : List UInt8} (hs : s ∈ opsL) (hs' : s' ∈ opsL) {K K' : Nat} (hK : K < 10) (ho : opAt K ⟨5, s, 0⟩ = true) (hK' : K' < 10) (ho' : opAt K' ⟨5, s', 0⟩ = true) (u : List Tk) :
  ∃ x' y' z' p q, reads (u ++ (br P0 A ++ ⟨5, s, 0⟩ :: (br P0 B ++ ⟨5, s', 0⟩ :: br P0 C))) .seq u.length = .ok (if K' < K ∨ (K = K' ∧ leftL K = true) then joinT K' s' q (joinT K s p x' y') z' else joinT K s p x' (joinT K' s' q y' z'), u.length + (A.length + B.length + C.length + 8)) ∧ x.eqv x' ∧ y.eqv y' ∧ z.eqv z' := by
 have hl : (u ++ (br P0 A ++ ⟨5, s, 0⟩ :: (br P0 B ++ ⟨5, s', 0⟩ :: br P0 C))).length = u.length + (A.length + B.length + C.length + 8) := by simp [br_len]; omega
 generalize hts : u ++ (br P0 A ++ ⟨5, s, 0⟩ :: (br P0 B ++ ⟨5, s', 0⟩ :: br P0 C)) = ts at hl ⊢
 obtain ⟨x', a1, a2⟩ := At8.of (ts := ts) (u := u) (v := ⟨5, s, 0⟩ :: (br P0 B ++ ⟨5, s', 0⟩ :: br P0 C)) P0_in hA hts.symm rfl rfl
 obtain ⟨y', b1, b2⟩ := At8.of (ts := ts) (u := u ++ (br P0 A ++ [⟨5, s, 0⟩])) (v := ⟨5, s', 0⟩ :: br P0 C) (n := u.length + A.length + 2 + 1) (m := u.length + A.length + 2 + 1 + B.length + 2) P0_in hB (by rw [← hts]; simp) (by simp [br_len]; omega) (by omega)
 obtain ⟨z', c1, c2⟩ := At8.of (ts := ts) (u := u ++ (br P0 A ++ ⟨5, s, 0⟩ :: (br P0 B ++ [⟨5, s', 0⟩]))) (v := []) (n := u.length + A.length + 2 + 1 + B.length + 2 + 1) (m := ts.length) P0_in hC (by rw [← hts]; simp) (by simp [br_len]; omega) (by omega)
 have t1 : tk ts (u.length + A.length + 2) = ⟨5, s, 0⟩ := by
  have := tk_mid (u ++ br P0 A) (br P0 B ++ ⟨5, s', 0⟩ :: br P0 C) ⟨5, s, 0⟩
  rw [show u ++ br P0 A ++ ⟨5, s, 0⟩ :: (br P0 B ++ ⟨5, s', 0⟩ :: br P0 C) = ts by rw [← hts]; simp, show (u ++ br P0 A).length = u.length + A.length + 2 by simp [br_len]; omega] at this
  exact this
 have t2 : tk ts (u.length + A.length + 2 + 1 + B.length + 2) = ⟨5, s', 0⟩ := by
  have := tk_mid (u ++ (br P0 A ++ ⟨5, s, 0⟩ :: br P0 B)) (br P0 C) ⟨5, s', 0⟩
  rw [show u ++ (br P0 A ++ ⟨5, s, 0⟩ :: br P0 B) ++ ⟨5, s', 0⟩ :: br P0 C = ts by rw [← hts]; simp, show (u ++ (br P0 A ++ ⟨5, s, 0⟩ :: br P0 B)).length = u.length + A.length + 2 + 1 + B.length + 2 by simp [br_len]; omega] at this
  exact this
 refine ⟨x', y', z', u.length + A.length + 2, u.length + A.length + 2 + 1 + B.length + 2, ?_, a2, b2, c2⟩
 rw [← hl]
 exact two_signs a1 hs t1 hK ho b1 hs' t2 hK' ho' c1
/-- What binds more is read first. -/
theorem binds_plain {A B C : List Tk} {x y z : Tr} (tA : Toks A) (tB : Toks B) (tC : Toks C) (hA : reads A .seq 0 = .ok (x, A.length)) (hB : reads B .seq 0 = .ok (y, B.length)) (hC : reads C .seq 0 = .ok (z, C.length)) {s s' : List UInt8} (hs : s ∈ opsL) (hs' : s' ∈ opsL) {K K' : Nat} (hK : K < 10) (ho : opAt K ⟨5, s, 0⟩ = true) (hK' : K' < 10) (ho' : opAt K' ⟨5, s', 0⟩ = true) :
  ∃ r r' e e', reads (u3 ++ (br P0 A ++ ⟨5, s, 0⟩ :: (br P0 B ++ ⟨5, s', 0⟩ :: br P0 C))) .items 0 = .ok (r, e) ∧ reads (u3 ++ (if K' < K ∨ (K = K' ∧ leftL K = true) then br P0 (br P0 A ++ ⟨5, s, 0⟩ :: br P0 B) ++ ⟨5, s', 0⟩ :: br P0 C else br P0 A ++ ⟨5, s, 0⟩ :: br P0 (br P0 B ++ ⟨5, s', 0⟩ :: br P0 C))) .items 0 = .ok (r', e') ∧ r.L.map Tr.np = r'.L.map Tr.np := by
 have tb : ∀ A, Toks A → Toks (br P0 A) := fun A h t ht => by
  simp only [br, List.mem_cons, List.mem_append, List.not_mem_nil, or_false] at ht
  rcases ht with rfl | ht | rfl
  ·decide
  ·exact h t ht
  ·decide
 have tj : ∀ A B s, Toks A → Toks B → Toks (A ++ ⟨5, s, 0⟩ :: B) := fun A B s h h' t ht => by
  simp only [List.mem_cons, List.mem_append] at ht
  rcases ht with ht | rfl | ht
  ·exact h t ht
  ·show (5 : Int) ≠ 0
   decide
  ·exact h' t ht
 have hu : u3.length = 3 := rfl
 obtain ⟨x1, y1, z1, p1, q1, h1, e1, e2, e3⟩ := two_plain hA hB hC hs hs' hK ho hK' ho' u3
 rw [hu, show 3 + (A.length + B.length + C.length + 8) = (br P0 A ++ ⟨5, s, 0⟩ :: (br P0 B ++ ⟨5, s', 0⟩ :: br P0 C)).length + 3 by simp [br_len]; omega] at h1
 have w1 := let_wrap (tj _ _ s (tb _ tA) (tj _ _ s' (tb _ tB) (tb _ tC))) h1
 split
 ·rename_i hc
  rw [if_pos hc] at w1
  obtain ⟨x2, y2, p2, h2, f1, f2⟩ := one_plain hA hB hs hK ho []
  simp only [List.nil_append, List.length_nil, Nat.zero_add] at h2
  rw [show A.length + B.length + 5 = (br P0 A ++ ⟨5, s, 0⟩ :: br P0 B).length by simp [br_len]; omega] at h2
  obtain ⟨x3, z3, p3, h3, g1, g2⟩ := one_plain h2 hC hs' hK' ho' u3
  rw [hu, show 3 + ((br P0 A ++ ⟨5, s, 0⟩ :: br P0 B).length + C.length + 5) = (br P0 (br P0 A ++ ⟨5, s, 0⟩ :: br P0 B) ++ ⟨5, s', 0⟩ :: br P0 C).length + 3 by simp [br_len]; omega] at h3
  have w2 := let_wrap (tj _ _ s' (tb _ (tj _ _ s (tb _ tA) (tb _ tB))) (tb _ tC)) h3
  refine ⟨_, _, _, _, w1, w2, ?_⟩
  show ([letT _] : List Tr).map Tr.np = ([letT _] : List Tr).map Tr.np
  refine map_cons (eqv_mk (map_cons (eqv_mk (map_cons rfl (map_cons (joinT_eqv ?_ ?_) rfl))) rfl)) rfl
  ·exact (joinT_eqv (e1.symm.trans f1) (e2.symm.trans f2)).trans g1
  ·exact e3.symm.trans g2
 ·rename_i hc
  rw [if_neg hc] at w1
  obtain ⟨y2, z2, p2, h2, f1, f2⟩ := one_plain hB hC hs' hK' ho' []
  simp only [List.nil_append, List.length_nil, Nat.zero_add] at h2
  rw [show B.length + C.length + 5 = (br P0 B ++ ⟨5, s', 0⟩ :: br P0 C).length by simp [br_len]; omega] at h2
  obtain ⟨x3, y3, p3, h3, g1, g2⟩ := one_plain hA h2 hs hK ho u3
  rw [hu, show 3 + (A.length + (br P0 B ++ ⟨5, s', 0⟩ :: br P0 C).length + 5) = (br P0 A ++ ⟨5, s, 0⟩ :: br P0 (br P0 B ++ ⟨5, s', 0⟩ :: br P0 C)).length + 3 by simp [br_len]; omega] at h3
  have w2 := let_wrap (tj _ _ s (tb _ tA) (tb _ (tj _ _ s' (tb _ tB) (tb _ tC)))) h3
  refine ⟨_, _, _, _, w1, w2, ?_⟩
  show ([letT _] : List Tr).map Tr.np = ([letT _] : List Tr).map Tr.np
  refine map_cons (eqv_mk (map_cons (eqv_mk (map_cons rfl (map_cons (joinT_eqv ?_ ?_) rfl))) rfl)) rfl
  ·exact e1.symm.trans g1
  ·exact (joinT_eqv (e2.symm.trans f1) (e3.symm.trans f2)).trans g2
/-- Brackets round a let's seq, or begin and end. -/
theorem brackets_plain {A : List Tk} (tA : Toks A) {r y : Tr} {e : Nat} (h : reads (u3 ++ A) .items 0 = .ok (r, e)) (hr : r.L = [y]) (hy : y.L.length = 1) (hn : ∀ t ∈ A, isS [59, 59] t = false) {p : List UInt8 × List UInt8} (hp : p ∈ pairs) : ∃ r' e', reads (u3 ++ br p A) .items 0 = .ok (r', e') ∧ r.L.map Tr.np = r'.L.map Tr.np := by
 have hl := u3_len (X := A)
 obtain ⟨x, k, h1, h2, h3, h4⟩ := let_inv tA h hr hy
 have hk : k ≤ (u3 ++ A).length := by have := (reads_fine (ts := u3 ++ A) .seq (i := 3) (by omega)).2.1; rw [h1] at this; exact this
 have hk2 : k = A.length + 3 := by
  have hb : isS [59, 59] (tk (u3 ++ A) k) = false := by
   rcases Nat.lt_or_ge k (u3 ++ A).length with c | c
   ·rw [tk_lt c]
    have hm := List.getElem_mem c
    rcases List.mem_append.1 hm with d | d
    ·exact u3_not _ d
    ·exact hn _ d
   ·rw [tk_end c]; rfl
  unfold behind at h2
  rw [hb] at h2
  exact h2
 subst hk2
 have hs := reads_sim (u := u3) (l := A) (.refl .seq) (Nat.zero_le _)
 rw [show 0 + u3.length = 3 from rfl, h1] at hs
 cases hx : reads A .seq 0 with
 | error m => rw [hx] at hs; exact hs.elim
 | ok xj =>
  obtain ⟨x0, j0⟩ := xj
  rw [hx] at hs
  obtain ⟨s1, s2⟩ := hs
  have hj : j0 = A.length := by
   have : A.length + 3 = j0 + u3.length := s2
   have e3 : u3.length = 3 := rfl
   omega
  subst hj
  obtain ⟨x', a1, a2⟩ := At8.of (ts := u3 ++ br p A) (u := u3) (v := []) (n := 3) (m := (u3 ++ br p A).length) hp hx (by simp) rfl (by rw [u3_len, br_len]; omega)
  have w := let_wrap (X := br p A) (fun t ht => by
   simp only [br, List.mem_cons, List.mem_append, List.not_mem_nil, or_false] at ht
   rcases ht with rfl | ht | rfl
   ·show (5 : Int) ≠ 0; decide
   ·exact tA t ht
   ·show (5 : Int) ≠ 0; decide) (x := x') (by
   have := a1.end_ 0 (Nat.zero_le _)
   rw [u3_len] at this
   exact this)
  refine ⟨_, _, w, ?_⟩
  rw [hr, h3]
  show ([letT _] : List Tr).map Tr.np = ([letT _] : List Tr).map Tr.np
  exact map_cons (eqv_mk (map_cons (eqv_mk (map_cons rfl (map_cons (s1.symm.trans a2) rfl))) rfl)) rfl
/-- What a seq begins with, an opening bracket, is read as an atom. -/
theorem down_atom {ts : List Tk} {i j : Nat} {x : Tr} (hi : i ≤ ts.length) (ho : opens (tk ts i) = true) (h : reads ts .seq i = .ok (x, j)) : ∃ y k, reads ts .atom i = .ok (y, k) := by
 cases c : reads ts .atom i with
 | ok yk => exact ⟨yk.1, yk.2, rfl⟩
 | error m =>
  exfalso
  have h1 : reads ts .post i = .error m := by
   rw [reads_eq _ hi]
   have hb : isS [33] (tk ts i) = false := by obtain ⟨z, e | e⟩ := opens_cases ho <;> rw [e] <;> rfl
   simp only [body, Pg.skip, exec, hb, c, Bool.false_eq_true, if_false]
  have h2 : reads ts .app i = .error m := by
   rw [reads_eq _ hi]
   have hb : isS [114, 97, 105, 115, 101] (tk ts i) = false ∧ isK 4 (tk ts i) = false := by obtain ⟨z, e | e⟩ := opens_cases ho <;> rw [e] <;> exact ⟨rfl, rfl⟩
   simp only [body, Pg.skip, exec, hb.1, hb.2, h1, Bool.false_eq_true, if_false]
  have h3 : reads ts (.join 7) i = .error m := by
   have hb : isOne [[45], [110, 111, 116]] (tk ts i) = false := by obtain ⟨z, e | e⟩ := opens_cases ho <;> rw [e] <;> rfl
   rw [reads_eq _ hi]
   simp only [body, exec, show (7 ≤ 7) = True from by simp, if_true]
   rw [reads_eq _ hi]
   simp only [body, exec, hb, h2, Bool.false_eq_true, if_false]
  have h4 : ∀ n, n ≤ 7 → reads ts (.join (7 - n)) i = .error m := by
   intro n
   induction n with
   | zero => exact fun _ => h3
   | succ n ih =>
    intro hn
    have e := ih (by omega)
    rw [reads_eq _ hi]
    simp only [body]
    rw [if_neg (by omega)]
    rw [show 7 - n = 7 - (n + 1) + 1 by omega] at e
    split <;> simp only [exec, e]
  have h5 : reads ts .tup i = .error m := by
   rw [reads_eq _ hi]
   simp only [body, exec, show reads ts (.join 0) i = .error m from h4 7 (Nat.le_refl _)]
  have h6 : reads ts .expr i = .error m := by
   rw [start_expr ho hi]
   simp only [exec, h5]
  rw [reads_eq _ hi] at h
  simp only [body, exec, h6] at h
  cases h
theorem u3_kind : ∀ t ∈ u3, t.kind ≠ 0 := by decide
/-- A let that is read has a seq. -/
theorem let_seq {X : List Tk} (ht : Toks X) {r : Tr} {e : Nat} (h : reads (u3 ++ X) .items 0 = .ok (r, e)) : ∃ x k, reads (u3 ++ X) .seq 3 = .ok (x, k) := by
 have hl := u3_len (X := X)
 have ht3 : Toks (u3 ++ X) := fun t hm => by
  rcases List.mem_append.1 hm with d | d
  ·exact u3_kind t d
  ·exact ht t d
 rw [items_more ht3 (by omega), let_item] at h
 cases hs : reads (u3 ++ X) .seq 3 with
 | error m => rw [hs] at h; cases h
 | ok xk => exact ⟨xk.1, xk.2, rfl⟩
/-- What can be read behind a let, and in brackets behind it, is a seq to its end. -/
theorem in_brackets2 {A : List Tk} (tA : Toks A) {r y r' : Tr} {e e' : Nat} (h : reads (u3 ++ A) .items 0 = .ok (r, e)) (hr : r.L = [y]) (hy : y.L.length = 1) (h' : reads (u3 ++ br P0 A) .items 0 = .ok (r', e')) : ∃ x, reads A .seq 0 = .ok (x, A.length) := by
 have hl := u3_len (X := A)
 have hu : u3.length = 3 := rfl
 obtain ⟨x, k, h1, h2, _, _⟩ := let_inv tA h hr hy
 have hs := reads_sim (u := u3) (l := A) (.refl .seq) (Nat.zero_le _)
 rw [show 0 + u3.length = 3 from rfl, h1] at hs
 cases hx : reads A .seq 0 with
 | error m => rw [hx] at hs; exact hs.elim
 | ok xj =>
  obtain ⟨x0, j0⟩ := xj
  rw [hx] at hs
  obtain ⟨s1, s2⟩ := hs
  have hk : k = j0 + 3 := s2
  subst hk
  have hj : j0 ≤ A.length := by have := (reads_fine (ts := A) .seq (Nat.zero_le _)).2.1; rw [hx] at this; exact this
  by_cases hjl : j0 = A.length
  ·rw [hjl]; exact ⟨x0, rfl⟩
  ·exfalso
   unfold behind at h2
   cases c : isS [59, 59] (tk (u3 ++ A) (j0 + 3)) with
   | false => rw [c] at h2; simp only [Bool.false_eq_true, if_false] at h2; omega
   | true =>
    have c' : isS [59, 59] (tk A j0) = true := by rw [← tk_app (u := u3) (l := A) j0]; exact c
    have tB : Toks (br P0 A) := fun t ht => by
     simp only [br, List.mem_cons, List.mem_append, List.not_mem_nil, or_false] at ht
     rcases ht with rfl | ht | rfl
     ·show (5 : Int) ≠ 0; decide
     ·exact tA t ht
     ·show (5 : Int) ≠ 0; decide
    obtain ⟨x1, k1, g1⟩ := let_seq tB h'
    have hlb := u3_len (X := br P0 A)
    have hbl := br_len P0 A
    have t0 : tk (u3 ++ br P0 A) 3 = ⟨5, [40], 0⟩ := by
     have := tk_mid u3 (A ++ [⟨5, P0.2, 0⟩]) ⟨5, P0.1, 0⟩
     rw [hu] at this
     exact this
    obtain ⟨y2, k2, g2⟩ := down_atom (by omega) (by rw [t0]; rfl) g1
    have g3 : reads (A ++ [⟨5, [41], 0⟩]) .seq 0 = .ok (x0, j0) := by
     rw [← hx]
     refine reads_same (m := j0) (fun q hq => ⟨tk_left (by omega), ?_⟩) (Nat.zero_le _) (Nat.zero_le _) (by rw [hx]; exact Nat.le_refl _)
     rw [List.length_append]; omega
    obtain ⟨x3, g4, _⟩ := reads_ahead (u := u3 ++ [⟨5, [40], 0⟩]) (Nat.zero_le _) g3
    have el : (u3 ++ [(⟨5, [40], 0⟩ : Tk)]).length = 4 := rfl
    have ee : (u3 ++ [(⟨5, [40], 0⟩ : Tk)]) ++ (A ++ [⟨5, [41], 0⟩]) = u3 ++ br P0 A := by simp [br, P0]
    rw [ee, el, Nat.zero_add] at g4
    have t1 : tk (u3 ++ br P0 A) 4 = tk A 0 := by
     rw [← ee]
     have := tk_app (u := u3 ++ [(⟨5, [40], 0⟩ : Tk)]) (l := A ++ [⟨5, [41], 0⟩]) 0
     rw [el, Nat.zero_add] at this
     rw [this]
     exact tk_left (by omega)
    have t2 : tk (u3 ++ br P0 A) (j0 + 4) = tk A j0 := by
     rw [← ee]
     have := tk_app (u := u3 ++ [(⟨5, [40], 0⟩ : Tk)]) (l := A ++ [⟨5, [41], 0⟩]) j0
     rw [el] at this
     rw [this]
     exact tk_left (by omega)
    have n1 : isS [41] (tk (u3 ++ br P0 A) 4) = false := by rw [t1]; exact close_not (nt := .seq) rfl hx
    have n2 : isS [41] (tk (u3 ++ br P0 A) (j0 + 4)) = false := by
     rw [t2]
     unfold isS at c' ⊢
     rw [Bool.and_eq_true, beq_iff_eq, beq_iff_eq] at c'
     rw [c'.1, c'.2]
     rfl
    rw [reads_eq _ (by omega)] at g2
    simp only [body, Pg.skip, Pg.must, exec] at g2
    rw [t0, show isK 1 ⟨5, [40], 0⟩ = false from rfl, show isK 2 ⟨5, [40], 0⟩ = false from rfl, show isK 3 ⟨5, [40], 0⟩ = false from rfl, show isK 4 ⟨5, [40], 0⟩ = false from rfl, show isS [116, 114, 117, 101] ⟨5, [40], 0⟩ = false from rfl, show isS [102, 97, 108, 115, 101] ⟨5, [40], 0⟩ = false from rfl, show isS [40] ⟨5, [40], 0⟩ = true from rfl] at g2
    simp only [Bool.false_eq_true, if_false, if_true] at g2
    rw [if_pos (by omega), show 3 + 1 = 4 from rfl, n1] at g2
    simp only [Bool.false_eq_true, if_false, g4, n2] at g2
    cases g2
theorem in_brackets {A : List Tk} (tA : Toks A) {r y r' y' : Tr} {e e' : Nat} (h : reads (u3 ++ A) .items 0 = .ok (r, e)) (hr : r.L = [y]) (hy : y.L.length = 1) (h' : reads (u3 ++ br P0 A) .items 0 = .ok (r', e')) (hr' : r'.L = [y']) (hy' : y'.L.length = 1) : ∃ x, reads A .seq 0 = .ok (x, A.length) := in_brackets2 tA h hr hy h'

end Go.Proofs.YthjmakjhidjbaaaGreat
