/-
  Several small texts in one; each tells at its head what it proves, and on what condition.
-/
import Derived.Test.YthjmakjhidjbaaaGreatLibAG

/-
 Layer 8, the program's parser: nodes that have no place yet. No condition but that they lie in memory.
-/
namespace Go.Proofs.YthjmakjhidjbaaaGreat
open Go.ChangeShapes Go.WideShapes Go.ChangeAt Go.RowKit Go.Deep
set_option linter.unusedVariables false
set_option linter.unusedSimpArgs false
set_option maxHeartbeats 2000000
set_option maxRecDepth 20000

/-- As Got8, of a node without place, number and name. -/
def GotK (c : PC) (kf : Tr → Int) (r : Res) (w : World) (e : Ending) (w' : World) : Prop :=
 match r with
 | .ok (x, j) => ∃ (ao : Option Addr) (cp : Nat), e = .returned (.agg #[.int .i64 (kf x), .int .i64 0, .int .i64 0, .string ⟨#[]⟩, .slice ao x.L.length cp]) ∧ RL c.pl (fun g => w.heap.size ≤ g) w' x.L ao ∧ PS c w' j ∧ OnlyB c.b w w'
 | .error m => e = .panicked [faultQ (c.pl m)] ∧ OnlyB c.b w w'
section
variable {c : PC} {w0 w w' : World} {i j q : Nat} {k p N : Int} {s : ByteArray} {v : Value} {L : List ND} {ao : Option Addr} {kf : Tr → Int}
theorem St.stopK (h : St c w0 w i) {m : Nat} (ho : OnlyB c.b w w') {R : Res} (hR : R = .error m) : GotK c kf R w0 (.panicked [faultQ (c.pl m)]) w' := by
 subst hR
 exact ⟨rfl, h.on.trans ho⟩
theorem St.retK (h : St c w0 w i) {x : Tr} {cp : Nat} (hx : Has c w0 w x.L ao) {R : Res} (hR : R = .ok (x, i)) {e : Ending} (he : e = .returned (.agg #[.int .i64 (kf x), .int .i64 0, .int .i64 0, .string ⟨#[]⟩, .slice ao x.L.length cp])) : GotK c kf R w0 e (fill5 w w0.heap.size (kf x) 0 0 ⟨#[]⟩ (.slice ao x.L.length cp)) := by
 subst hR he
 refine ⟨_, _, rfl, (hx.fill5 (fun g hg => by omega) _ _ _ _ _).mono (fun g hg _ => by omega), ?_, h.on.fill5 (Nat.le_refl _) _ _ _ _ _⟩
 exact h.ps.keep (S := fun k => k = w0.heap.size) ⟨rfl, rfl, rfl, by unfold fill5; simp only [nblk_setCell]; exact Nat.le_refl _, fun k _ hk => fill5_blk w hk _ _ _ _ _⟩ (by have := h.b0; omega) (by have := h.g0; omega)
theorem Mk.retK (h : Mk c w0 w i q k p N s v L) {x : Tr} (hx : x.L = L.map ND.t) {R : Res} (hR : R = .ok (x, i)) {e : Ending} (he : e = .returned (.agg #[.int .i64 (kf x), .int .i64 0, .int .i64 0, .string ⟨#[]⟩, v])) : GotK c kf R w0 e (fill5 w w0.heap.size (kf x) 0 0 ⟨#[]⟩ v) := by
 obtain ⟨ao, cp, rfl⟩ := h.slice
 have e1 : L.length = x.L.length := by rw [hx, List.length_map]
 rw [e1] at he ⊢
 exact h.st.retK (cp := cp) (by rw [hx]; exact h.v.tree.1.mono (fun g hg _ => hg.1)) hR he
/-- Told, with a block more. -/
theorem St.retA (h : St c w0 w i) {x : Tr} {cp : Nat} (hx : Has c w0 w x.L ao) (o : Obj) {R : Res} (hR : R = .ok (x, i)) {e : Ending} (he : e = .returned (.agg #[.int .i64 x.kind, .int .i64 (c.pl x.pl), .int .i64 x.N, .string ⟨x.S.toArray⟩, .slice ao x.L.length cp])) : Got8 c R w0 e ((fill5 w w0.heap.size x.kind (c.pl x.pl) x.N ⟨x.S.toArray⟩ (.slice ao x.L.length cp)).alloc o) := by
 rw [← fill5_alloc _ _ h.size]
 exact (h.alloc _).ret (cp := cp) (RL.alloc hx _) hR he
theorem St.rowA (h : St c w0 w i) (o : Obj) (a b d : Int) (s : ByteArray) (v : Value) : B5 ((fill5 w w0.heap.size a b d s v).alloc o) w0.heap.size a b d s v := (h.z.fill a b d s v).alloc o
end
theorem con_kind {ts : List Tk} {i : Nat} (hi : i ≤ ts.length) (k : Int) : reads ts (.con k) i = (match reads ts (.con 207) i with | .error m => .error m | .ok (x, j) => .ok (.mk k x.pl x.N x.S x.L, j)) := by
 rw [reads_eq (.con k) hi, reads_eq (.con 207) hi]
 have hb : ∀ k, exec ts (reads ts) (body (.con k)) i = exec ts (reads ts) (.token 4 fun t => .skip [111, 102] (.call .ty fun x => .ret (.mk k i 0 t.S [x])) (.ret (.mk k i 0 t.S []))) i := fun k => rfl
 rw [hb k, hb 207]
 cases hk : isK 4 (tk ts i) with
 | false =>
  have e : ∀ k, exec ts (reads ts) (.token 4 fun t => .skip [111, 102] (.call .ty fun x => .ret (.mk k i 0 t.S [x])) (.ret (.mk k i 0 t.S []))) i = .error i := fun k => ex_tokenN rfl hk
  rw [e, e]
 | true =>
  have e : ∀ k, exec ts (reads ts) (.token 4 fun t => .skip [111, 102] (.call .ty fun x => .ret (.mk k i 0 t.S [x])) (.ret (.mk k i 0 t.S []))) i = exec ts (reads ts) (.skip [111, 102] (.call .ty fun x => .ret (.mk k i 0 (tk ts i).S [x])) (.ret (.mk k i 0 (tk ts i).S []))) (i + 1) := fun k => ex_token rfl hk (by decide)
  rw [e, e]
  cases hs : isS [111, 102] (tk ts (i + 1)) with
  | false =>
   have e2 : ∀ k, exec ts (reads ts) (.skip [111, 102] (.call .ty fun x => .ret (.mk k i 0 (tk ts i).S [x])) (.ret (.mk k i 0 (tk ts i).S []))) (i + 1) = .ok (.mk k i 0 (tk ts i).S [], i + 1) := fun k => ex_skipN rfl hs
   rw [e2, e2]
   rfl
  | true =>
   have e2 : ∀ k, exec ts (reads ts) (.skip [111, 102] (.call .ty fun x => .ret (.mk k i 0 (tk ts i).S [x])) (.ret (.mk k i 0 (tk ts i).S []))) (i + 1) = exec ts (reads ts) (.call .ty fun x => .ret (.mk k i 0 (tk ts i).S [x])) (i + 1 + 1) := fun k => ex_skip rfl hs
   rw [e2, e2]
   cases hx : reads ts .ty (i + 1 + 1) with
   | error m =>
    have e3 : ∀ k, exec ts (reads ts) (.call .ty fun x => .ret (.mk k i 0 (tk ts i).S [x])) (i + 1 + 1) = .error m := fun k => ex_err rfl hx
    rw [e3, e3]
   | ok xj =>
    obtain ⟨x, j⟩ := xj
    have e3 : ∀ k, exec ts (reads ts) (.call .ty fun x => .ret (.mk k i 0 (tk ts i).S [x])) (i + 1 + 1) = .ok (.mk k i 0 (tk ts i).S [x], j) := fun k => ex_ok rfl hx
    rw [e3, e3]
    rfl
/-- A record's labels, or a variant's constructors. -/
theorem lab_eq {ts : List Tk} {R : Res} {i : Nat} {f : List Tr → Tr} (h : R = exec ts (reads ts) (.call .lab fun x => .call .labs fun r => .must [125] (.ret (f (x :: r.L)))) i) : R = (match lstR ts .lab [125] (reads ts .labs) i with | .error m => .error m | .ok (l, q) => .ok (f l.L, q)) := by
 unfold lstR lgo
 cases hx : reads ts .lab i with
 | error m => exact ex_err h hx
 | ok xj =>
  obtain ⟨x, j⟩ := xj
  have h1 := ex_ok h hx
  simp only
  cases hr : reads ts .labs j with
  | error m => exact ex_err h1 hr
  | ok rq =>
   obtain ⟨r, q⟩ := rq
   have h2 := ex_ok h1 hr
   simp only
   cases hs : isS [125] (tk ts q) with
   | true => rw [ex_ret (ex_must h2 hs)]; rfl
   | false => rw [ex_mustN h2 hs]; rfl
theorem items_yes {ts : List Tk} {R : Res} {k : Nat} {C : List Tr → Pg} {acc : List Tr} (hk : k ≤ ts.length) (h : R = exec ts (reads ts) (.call .items fun r => C (acc ++ r.L)) k) (e : isK 0 (tk ts k) = false) : R = exec ts (reads ts) (.call .item fun x => .opt [59, 59] (.call .items fun r => C ((acc ++ [x]) ++ r.L))) k := by
 have hb : reads ts .items k = exec ts (reads ts) (.call .item fun x => .opt [59, 59] (.call .items fun r => .ret (lst (x :: r.L)))) k := by
  rw [reads_eq _ hk]
  exact ex_no (p := isK 0) (y := .ret (lst [])) rfl e
 have go : ∀ (x : Tr) (j : Nat), (match exec ts (reads ts) (.call .items fun r => .ret (lst (x :: r.L))) j with | .error m => Except.error m | .ok (r, j) => exec ts (reads ts) (C (acc ++ r.L)) j) = exec ts (reads ts) (.call .items fun r => C ((acc ++ [x]) ++ r.L)) j := fun x j => by
  simp only [exec]
  cases reads ts .items j with
  | error m => rfl
  | ok rj =>
   obtain ⟨r, j⟩ := rj
   show exec ts (reads ts) (C (acc ++ (x :: r.L))) j = exec ts (reads ts) (C ((acc ++ [x]) ++ r.L)) j
   rw [List.append_assoc, List.singleton_append]
 have h0 : R = (match exec ts (reads ts) (.call .item fun x => .opt [59, 59] (.call .items fun r => .ret (lst (x :: r.L)))) k with | .error m => Except.error m | .ok (r, j) => exec ts (reads ts) (C (acc ++ r.L)) j) := by
  rw [← hb, h]
  simp only [exec]
  cases reads ts .items k with
  | error m => rfl
  | ok z => rfl
 rw [h0]
 cases hx : reads ts .item k with
 | error m =>
  have e1 : exec ts (reads ts) (.call .item fun x => .opt [59, 59] (.call .items fun r => .ret (lst (x :: r.L)))) k = .error m := ex_err rfl hx
  rw [e1]
  exact (ex_err rfl hx).symm
 | ok xj =>
  obtain ⟨x, j⟩ := xj
  have e1 : exec ts (reads ts) (.call .item fun x => .opt [59, 59] (.call .items fun r => .ret (lst (x :: r.L)))) k = exec ts (reads ts) (.opt [59, 59] (.call .items fun r => .ret (lst (x :: r.L)))) j := ex_ok rfl hx
  rw [e1]
  refine Eq.trans ?_ (ex_ok rfl hx).symm
  cases hs : isS [59, 59] (tk ts j) with
  | true =>
   have e2 : exec ts (reads ts) (.opt [59, 59] (.call .items fun r => .ret (lst (x :: r.L)))) j = exec ts (reads ts) (.call .items fun r => .ret (lst (x :: r.L))) (j + 1) := ex_opt rfl hs
   rw [e2, go]
   exact (ex_opt rfl hs).symm
  | false =>
   have e2 : exec ts (reads ts) (.opt [59, 59] (.call .items fun r => .ret (lst (x :: r.L)))) j = exec ts (reads ts) (.call .items fun r => .ret (lst (x :: r.L))) j := ex_optN rfl hs
   rw [e2, go]
   exact (ex_optN rfl hs).symm
theorem items_no {ts : List Tk} {R : Res} {k : Nat} {C : List Tr → Pg} {acc : List Tr} (hk : k ≤ ts.length) (h : R = exec ts (reads ts) (.call .items fun r => C (acc ++ r.L)) k) (e : isK 0 (tk ts k) = true) : R = exec ts (reads ts) (C acc) k := by
 have hb : reads ts .items k = .ok (lst [], k) := by
  rw [reads_eq _ hk]
  exact ex_yes (p := isK 0) (z := .call .item fun x => .opt [59, 59] (.call .items fun r => .ret (lst (x :: r.L)))) rfl e
 have := ex_ok h hb
 rw [this]
 show exec ts (reads ts) (C (acc ++ [])) k = _
 rw [List.append_nil]
end Go.Proofs.YthjmakjhidjbaaaGreat

/-
 Layer 8, the program's parser: rules' methods. Condition: the rules that they are made of do as the grammar says.
-/
namespace Go.Proofs.YthjmakjhidjbaaaGreat
open Go.ChangeShapes Go.WideShapes Go.ChangeAt Go.RowKit Go.Deep
set_option linter.unusedVariables false
set_option linter.unusedSimpArgs false
set_option maxHeartbeats 2000000
set_option maxRecDepth 20000
attribute [local go_sem ↓] Go.wp_at_zero Go.wp_at_succ

section
variable {c : PC} {w : World} {i : Nat}
theorem items_lst {ts : List Tk} {x : Tr} {i j : Nat} (h : reads ts .items i = .ok (x, j)) : x = lst x.L := by
 unfold reads at h
 cases hn : fuel ts .items i with
 | zero => rw [hn] at h; cases h
 | succ n =>
  rw [hn] at h
  have hs : Sat ts (run ts n) (body .items) i (fun x _ => x = lst x.L) := .test (.ret rfl) (fun y q e => by
   unfold exec at e
   cases hx : run ts n .item i with
   | error m => rw [hx] at e; cases e
   | ok xj =>
    obtain ⟨x', j'⟩ := xj
    rw [hx] at e
    refine (Sat.opt (Q := fun x _ => x = lst x.L) (fun _ => ?_) ?_) y q e
    all_goals
     intro y q e
     unfold exec at e
     split at e
     ·cases e
     ·simp only [exec, Except.ok.injEq, Prod.mk.injEq] at e
      rw [← e.1]
      rfl)
  exact hs x j h
theorem def_shape {ts : List Tk} {p : Nat} {S : List UInt8} {i j : Nat} {x : Tr} (h : .ok (x, j) = exec ts (reads ts) (.skip [123] (.call .lab fun x => .call .labs fun r => .must [125] (.ret (.mk 208 p 0 S (x :: r.L)))) (.opt [124] (.call (.con 207) fun x => .call .cons fun r => .ret (.mk 206 p 0 S (x :: r.L))))) i) : x.pl = p ∧ x.N = 0 ∧ x.S = S := by
 have hs : Sat ts (reads ts) (.skip [123] (.call .lab fun x => .call .labs fun r => .must [125] (.ret (.mk 208 p 0 S (x :: r.L)))) (.opt [124] (.call (.con 207) fun x => .call .cons fun r => .ret (.mk 206 p 0 S (x :: r.L))))) i (fun x _ => x.pl = p ∧ x.N = 0 ∧ x.S = S) := by
  refine .skip (fun _ => ?_) (.opt (fun _ => ?_) ?_)
  all_goals
   intro y q e
   unfold exec at e
   split at e
   ·cases e
   ·unfold exec at e
    split at e
    ·cases e
    ·first
     | (simp only [exec, Except.ok.injEq, Prod.mk.injEq] at e; rw [← e.1]; exact ⟨rfl, rfl, rfl⟩)
     | (refine Sat.must (Q := fun x _ => x.pl = p ∧ x.N = 0 ∧ x.S = S) (fun _ => ?_) y q e; intro y q e; simp only [exec, Except.ok.injEq, Prod.mk.injEq] at e; rw [← e.1]; exact ⟨rfl, rfl, rfl⟩)
 exact hs x j h.symm
theorem con_at {ts : List Tk} {R : Res} {i : Nat} (hi : i + 1 ≤ ts.length) (h : R = exec ts (reads ts) (.call (.con 210) fun x => .ret (x.at_ i)) (i + 1)) : R = (match reads ts (.con 207) (i + 1) with | .error m => .error m | .ok (x, j) => .ok (.mk 210 i x.N x.S x.L, j)) := by
 have hk := con_kind (ts := ts) hi 210
 cases hx : reads ts (.con 207) (i + 1) with
 | error m => rw [hx] at hk; exact ex_err h hk
 | ok xj =>
  obtain ⟨x, j⟩ := xj
  rw [hx] at hk
  exact ex_ok h hk
theorem items_start {ts : List Tk} {R : Res} (h : R = reads ts .items 0) : R = exec ts (reads ts) (.call .items fun r => (fun l => .ret (lst l)) (([] : List ND).map ND.t ++ r.L)) 0 := by
 rw [h]
 simp only [exec]
 cases hx : reads ts .items 0 with
 | error m => rfl
 | ok xj =>
  obtain ⟨x, j⟩ := xj
  have := items_lst hx
  show Except.ok (x, j) = Except.ok (lst x.L, j)
  rw [← this]

end
end Go.Proofs.YthjmakjhidjbaaaGreat
