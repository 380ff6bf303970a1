/-
 A region that draws its order and whose last operation turns what an earlier one read: a condition on the world that holds behind every operation but the last one lets reads be taken first, if the last one waits for them. No program is named.
-/
import Derived.OrdersHeld
import Derived.Deep.RegionHeld
import Derived.Test.YtnebhiaeechpaaaDoorM10Mem
namespace Go.Proofs.YtnebhiaeechpaaaDoor
/-! The rules by which an operation and its frame are laid open, with short names. -/
theorem q1 {α : Type _} {xs : List α} {i : Nat} (h : i < xs.toArray.size) : xs.toArray[i] = xs[i]'(by simpa using h) := rfl
theorem q2 {α : Type _} {a : α} {l : List α} (h : 0 < (a :: l).length) : (a :: l)[0]'h = a := rfl
theorem q3 {α : Type _} {a : α} {l : List α} {i : Nat} (h : i + 1 < (a :: l).length) : (a :: l)[i + 1]'h = l[i]'(Nat.lt_of_succ_lt_succ h) := rfl
theorem q4 {α : Type _} {xs : List α} {i : Nat} {a : α} : xs.toArray.setIfInBounds i a = (xs.set i a).toArray := List.setIfInBounds_toArray ..
theorem q5 {α : Type _} {a b : α} {l : List α} : (a :: l).set 0 b = b :: l := rfl
theorem q6 {α : Type _} {a b : α} {l : List α} {i : Nat} : (a :: l).set (i + 1) b = a :: l.set i b := rfl
section
variable {P : Program} {ops : Array Oper} {Q : Exit → Act → World → Prop} {md : Region.Mode} {S : World → Prop} {kz : Nat}

/-- Whatever order is picked from here on; and S holds behind each operation but number kz. -/
def AnyTill (P : Program) (md : Region.Mode) (ops : Array Oper) (Q : Exit → Act → World → Prop) (S : World → Prop) (kz : Nat) : Nat → Array Bool → Act → World → Prop
 | 0, done, a, w => Region.ready md ops done = [] ∧ Q .normal a w
 | n + 1, done, a, w => (Region.ready md ops done = [] → Q .normal a w) ∧
  ∀ k ∈ Region.ready md ops done, wpOp P ops Q k (fun b u => (k ≠ kz → S u) ∧ AnyTill P md ops Q S kz n (done.setIfInBounds k true) b u) a w
theorem AnyTill.any : ∀ {n : Nat} {done : Array Bool} {a : Act} {w : World}, AnyTill P md ops Q S kz n done a w → wpAny P md ops Q n done a w
 | 0, _, _, _, h => h
 | _ + 1, _, _, _, h => ⟨h.1, fun k hk => wpOp_mono (fun _ _ h' => h'.2.any) (h.2 k hk)⟩
/-- Operation kz waits for operation i. -/
def waitsFor (md : Region.Mode) (ops : Array Oper) (kz i : Nat) : Bool := match ops[kz]? with
 | none => true
 | some o => o.after.any fun e => Region.binds md e && e.on == i
theorem waits_not {i : Nat} {done : Array Bool} (h : waitsFor md ops kz i = true) (hi : i ∈ Region.ready md ops done) : ¬ kz ∈ Region.ready md ops done := by
 intro hk
 obtain ⟨_, o, ho, hall⟩ := mem_ready.1 hk
 have h0 := (mem_ready.1 hi).1
 unfold waitsFor at h
 rw [ho] at h
 obtain ⟨e, he, hc⟩ : ∃ e, e ∈ o.after ∧ (Region.binds md e && e.on == i) = true := by
  rw [Array.any_eq_true] at h
  obtain ⟨n, hn, hc⟩ := h
  exact ⟨_, Array.getElem_mem hn, hc⟩
 rw [Bool.and_eq_true, beq_iff_eq] at hc
 have h1 := hall e he hc.1
 rw [hc.2] at h1
 rcases Nat.lt_or_ge i done.size with hl | hl
 ·simp [hl] at h0 h1
  rw [h0] at h1; cases h1
 ·simp [Array.getElem?_eq_none hl] at h1
/-- Number i first: it gives v in every world that meets S; who could come ahead of it lets it be; and kz waits for it. -/
theorem AnyTill.first {i : Nat} {oi : Oper} {v : Value} (hi : ops[i]? = some oi) (hsel : ∀ (j : Nat) (o : Oper) cs b, ops[j]? = some o → o.op ≠ .select cs b)
  (hQ : ∀ c a w, Q (.panic c) (a.put oi.dst v) w → Q (.panic c) a w) (hw : waitsFor md ops kz i = true) :
  ∀ (n : Nat) {done : Array Bool} {a : Act} {w : World},
   (∀ j oj, ops[j]? = some oj → j ≠ i → done.getD j true = false → (∀ e ∈ oj.after, Region.binds md e = true → e.on ≠ i) → oi.apart ops oj = true) →
   i ∈ Region.ready md ops done → YieldsIf P ops S oi v a → S w →
   AnyTill P md ops Q S kz n (done.setIfInBounds i true) (a.put oi.dst v) w → AnyTill P md ops Q S kz (n + 1) done a w := by
 intro n
 induction n with
 | zero =>
  intro done a w _ hr hy hS H
  refine ⟨fun h => (by rw [h] at hr; cases hr), fun k hk => ?_⟩
  by_cases e : k = i
  ·subst e
   exact hy.wpOp hi hS ⟨fun _ => hS, H⟩
  ·have h1 := ready_mono hk e
   rw [H.1] at h1
   cases h1
 | succ n ih =>
  intro done a w hap hr hy hS H
  refine ⟨fun h => (by rw [h] at hr; cases hr), fun k hk => ?_⟩
  by_cases e : k = i
  ·subst e
   exact hy.wpOp hi hS ⟨fun _ => hS, H⟩
  ·have hne : k ≠ kz := fun e2 => waits_not hw hr (e2 ▸ hk)
   obtain ⟨hun, ok, hok, hall⟩ := mem_ready.1 hk
   have hno : ∀ x ∈ ok.after, Region.binds md x = true → x.on ≠ i := fun x hx hb hxi => by
    have h1 := hall x hx hb
    have h0 := (mem_ready.1 hr).1
    rw [hxi] at h1
    rcases Nat.lt_or_ge i done.size with hl | hl
    ·simp [hl] at h0 h1
     rw [h0] at h1; cases h1
    ·simp [Array.getElem?_eq_none hl] at h1
   have step := wpOp_putIf hok (hap k ok hok e hun hno) (fun cs b => hsel i oi cs b hi) (fun cs b => hsel k ok cs b hok) hQ hy (H.2 k (ready_mono hk e))
   refine wpOp_mono (fun b u h3 => ⟨h3.2.1, ih (fun j oj hj hji hun' hno' => hap j oj hj hji ?_ hno') (ready_mono hr (Ne.symm e)) h3.1 (h3.2.1 hne) ?_⟩) step
   ·by_cases ekj : k = j
    ·subst ekj; exact hun
    ·rw [getD_set_ne true ekj] at hun'; exact hun'
   ·rw [Array.setIfInBounds_comm _ _ e]
    exact h3.2.2
theorem AnyTill.take {i : Nat} {oi : Oper} {v : Value} {n : Nat} {done : Array Bool} {a : Act} {w : World} (hi : ops[i]? = some oi)
  (hs : Region.noSelect ops = true) (hf : Region.free md ops done i = true) (hr : (Region.ready md ops done).contains i = true) (hw : waitsFor md ops kz i = true)
  (hQ : ∀ c a w, Q (.panic c) (a.put oi.dst v) w → Q (.panic c) a w) (hy : YieldsIf P ops S oi v a) (hS : S w)
  (h : AnyTill P md ops Q S kz n (done.setIfInBounds i true) (a.put oi.dst v) w) : AnyTill P md ops Q S kz (n + 1) done a w :=
 AnyTill.first hi (Region.noSelect_spec hs) hQ hw n (Region.free_spec hi hf) (by simpa using hr) hy hS h
/-- As take, what is found by running left to itself. -/
theorem AnyTill.tk {i : Nat} {oi : Oper} {v : Value} {n : Nat} {done : Array Bool} {a : Act} {w : World} (hS : S w)
  (hy : ∀ w, S w → (execOp a.eval oi).run P w = .ok (.value v) w)
  (h : AnyTill P md ops Q S kz n (done.setIfInBounds i true) (a.put oi.dst v) w)
  (hi : ops[i]? = some oi := by exact rfl) (hs : Region.noSelect ops = true := by kernel_rfl) (hf : Region.free md ops done i = true := by kernel_rfl) (hr : (Region.ready md ops done).contains i = true := by kernel_rfl) (hw : waitsFor md ops kz i = true := by kernel_rfl)
  (hQ : ∀ c a w, Q (.panic c) (a.put oi.dst v) w → Q (.panic c) a w := by exact fun _ _ _ h => h) (hwn : Region.wanted oi (yielded ops a.tmps) = true := by rfl) : AnyTill P md ops Q S kz (n + 1) done a w :=
 AnyTill.take hi hs hf hr hw hQ (Or.inl ⟨hwn, hy⟩) hS h
/-- One alone may come up. -/
theorem AnyTill.one {i : Nat} {o : Oper} {n : Nat} {done : Array Bool} {a : Act} {w : World} (hr : Region.ready md ops done = [i]) (ho : ops[i]? = some o)
  (h : ∀ K : Act → World → Prop, Shut (∀ b u, (i ≠ kz → S u) → AnyTill P md ops Q S kz n (done.setIfInBounds i true) b u → K b u) → if Region.wanted o (yielded ops a.tmps) = true then Oper.wp P o a w K Q else K (a.put o.dst undef) w) :
  AnyTill P md ops Q S kz (n + 1) done a w := by
 refine ⟨fun h0 => (by rw [hr] at h0; cases h0), fun k hk => ?_⟩
 rw [hr] at hk
 have e : k = i := by simpa using hk
 subst e
 exact wpOp_step ho (fun K hK => h K (fun b u h1 h2 => hK b u ⟨h1, h2⟩))
/-- One of two may come up. -/
theorem AnyTill.two {i j : Nat} {o o' : Oper} {n : Nat} {done : Array Bool} {a : Act} {w : World} (hr : Region.ready md ops done = [i, j]) (ho : ops[i]? = some o) (ho' : ops[j]? = some o')
  (h : ∀ K : Act → World → Prop, Shut (∀ b u, (i ≠ kz → S u) → AnyTill P md ops Q S kz n (done.setIfInBounds i true) b u → K b u) → if Region.wanted o (yielded ops a.tmps) = true then Oper.wp P o a w K Q else K (a.put o.dst undef) w)
  (h' : ∀ K : Act → World → Prop, Shut (∀ b u, (j ≠ kz → S u) → AnyTill P md ops Q S kz n (done.setIfInBounds j true) b u → K b u) → if Region.wanted o' (yielded ops a.tmps) = true then Oper.wp P o' a w K Q else K (a.put o'.dst undef) w) :
  AnyTill P md ops Q S kz (n + 1) done a w := by
 refine ⟨fun h0 => (by rw [hr] at h0; cases h0), fun k hk => ?_⟩
 rw [hr] at hk
 have e : k = i ∨ k = j := by simpa using hk
 rcases e with e | e
 ·subst e
  exact wpOp_step ho (fun K hK => h K (fun b u h1 h2 => hK b u ⟨h1, h2⟩))
 ·subst e
  exact wpOp_step ho' (fun K hK => h' K (fun b u h1 h2 => hK b u ⟨h1, h2⟩))
theorem AnyTill.done {done : Array Bool} {a : Act} {w : World} (hr : Region.ready md ops done = []) (h : Q .normal a w) : ∀ n, AnyTill P md ops Q S kz n done a w
 | 0 => ⟨hr, h⟩
 | _ + 1 => ⟨fun _ => h, by rw [hr]; simp⟩
theorem region_till {id : Nat} {a : Act} {w : World} (hm : P.follows .mixedOrders = true) (hS : S w.drew)
  (h : S w.drew → AnyTill P .any ops Q S kz ops.size (Array.replicate ops.size false) a w.drew) : (Code.region id ops true).wp P Q a w :=
 wp_region_any hm (h hS).any
end
end Go.Proofs.YtnebhiaeechpaaaDoor
