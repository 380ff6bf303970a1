/-
  Layer 4: two states of one arena answer alike; so what lays and collects is told by the blocks alone, and is the same for the program and for the document's own. No program is named here.
-/
import Derived.Test.YtjnlfnecmiklhaaL4Mach
import Derived.Test.YtjnlfnecmiklhaaRefAllocAny
import Derived.Test.YtjnlfnecmiklhaaPlainColl
namespace Go.Proofs.Ytjnlfnecmiklhaa
open Go.RowKit Go.Deep
set_option linter.unusedVariables false
set_option maxHeartbeats 1000000

/-- A state of an arena whose blocks are those. -/
structure Good (s : St) (r : RS) : Prop where
  rep : Rep s r
  lo : ∀ i, 0 ≤ s.C i
  hi : ∀ i, s.C i ≤ 18446744073709551615
  n1 : 2 ≤ s.n
  n2 : s.n ≤ 32768
  t2 : s.top ≤ s.base + s.n
theorem Good.of {w : World} {p : Pl} {s : St} {r : RS} (h : Ar w p s) (hr : Rep s r) : Good s r := ⟨hr, h.lo, h.hi, h.n1, h.n2, h.t2⟩
section
variable {s s' : St} {r : RS}
theorem Good.t1 (h : Good s r) : s.base ≤ s.top := by have := h.rep.top; omega
theorem agree_find (h : Good s r) (h' : Good s' r) (x : Int) : s.find x = s'.find x := by
  by_cases c1 : ∃ (i : Nat) (b : Blk), r.L[i]? = some b ∧ (b.ad : Int) = addrW x
  · obtain ⟨i, b, hb, e⟩ := c1
    rw [h.rep.find_blk' hb e, h'.rep.find_blk' hb e]
  · have hn : ∀ (i : Nat) (b : Blk), r.L[i]? = some b → (b.ad : Int) ≠ addrW x := fun i b hb e => c1 ⟨i, b, hb, e⟩
    by_cases c2 : ∃ (i : Nat) (b : Blk), r.L[i]? = some b ∧ Rep.hit b (addrW x)
    · obtain ⟨i, b, hb, e⟩ := c2
      rw [h.rep.find_hit hn hb e, h'.rep.find_hit hn hb e]
    · have hm : ∀ (i : Nat) (b : Blk), r.L[i]? = some b → ¬ Rep.hit b (addrW x) := fun i b hb e => c2 ⟨i, b, hb, e⟩
      rw [h.rep.find_none h.lo h.hi hn hm, h'.rep.find_none h'.lo h'.hi hn hm]
theorem agree_n (h : Good s r) (h' : Good s' r) : s.n = s'.n := by rw [h.rep.n, h'.rep.n]
theorem agree_base (h : Good s r) (h' : Good s' r) : s.base = s'.base := by rw [h.rep.base, h'.rep.base]
theorem agree_top (h : Good s r) (h' : Good s' r) : s.top = s'.top := by rw [h.rep.top, h'.rep.top, agree_base h h']
theorem agree_at (h : Good s r) (h' : Good s' r) {x : Int} (g : (s.find x).1 ≠ 0) : s.tagAt (s.find x).1 = s'.tagAt (s'.find x).1 ∧ s.sizeAt (s.find x).1 = s'.sizeAt (s'.find x).1 := by
  obtain ⟨k, b, hb, e⟩ := h.rep.block g
  rw [← agree_find h h' x, e, (h.rep.tagAt hb).1, (h.rep.tagAt hb).2, (h'.rep.tagAt hb).1, (h'.rep.tagAt hb).2]
  exact ⟨rfl, rfl⟩
theorem agree_tag (h : Good s r) (h' : Good s' r) (x : Int) : s.tag x = s'.tag x := by
  unfold St.tag
  by_cases g : (s.find x).1 = 0
  · rw [if_pos g, if_pos (by rw [← agree_find h h' x]; exact g)]
  · rw [if_neg g, if_neg (by rw [← agree_find h h' x]; exact g)]; exact (agree_at h h' g).1
theorem agree_size (h : Good s r) (h' : Good s' r) (x : Int) : s.size x = s'.size x := by
  unfold St.size
  by_cases g : (s.find x).1 = 0
  · rw [if_pos g, if_pos (by rw [← agree_find h h' x]; exact g)]
  · rw [if_neg g, if_neg (by rw [← agree_find h h' x]; exact g)]; exact (agree_at h h' g).2
theorem agree_fieldE (h : Good s r) (h' : Good s' r) (x i : Int) : s.fieldE x i = s'.fieldE x i := by
  unfold St.fieldE
  by_cases g : (s.find x).1 = 0
  · rw [if_pos g, if_pos (by rw [← agree_find h h' x]; exact g)]
  · have g' : ¬ (s'.find x).1 = 0 := by rw [← agree_find h h' x]; exact g
    rw [if_neg g, (agree_at h h' g).2, if_neg g']
/-- Which field is asked for. -/
theorem field_is (h : Good s r) {x i : Int} (g : s.fieldE x i = 0) : ∃ (k : Nat) (b : Blk) (v : Int), r.L[k]? = some b ∧ (s.find x).1 = b.ad ∧ 0 ≤ i ∧ i.toNat < b.F.length ∧ b.F[i.toNat]? = some v ∧ leadI s r x = some k := by
  unfold St.fieldE at g
  split at g
  · omega
  · rename_i g1
    obtain ⟨k, b, hb, e⟩ := h.rep.block g1
    split at g
    · omega
    · rename_i g2
      rw [e, (h.rep.tagAt hb).2] at g2
      have hl : i.toNat < b.F.length := by omega
      refine ⟨k, b, b.F[i.toNat], hb, e, by omega, hl, List.getElem?_eq_getElem hl, ?_⟩
      unfold leadI
      rw [if_neg g1]
      have hk := (List.getElem?_eq_some_iff.1 hb)
      obtain ⟨hk1, hk2⟩ := hk
      rw [List.findIdx?_eq_some_iff_getElem]
      refine ⟨hk1, by rw [hk2, e]; simp, fun j hj => ?_⟩
      have hjl : j < r.L.length := by omega
      simp only [decide_eq_true_eq]
      rw [e]
      intro hc
      have := h.rep.inj (i := j) (k := k) (b := r.L[j]) (c := b) (List.getElem?_eq_getElem hjl) hb (by omega)
      omega
theorem agree_get (h : Good s r) (h' : Good s' r) (x i : Int) : s.get x i = s'.get x i := by
  unfold St.get
  rw [← agree_fieldE h h' x i]
  by_cases g : s.fieldE x i = 0
  · rw [if_pos g, if_pos g]
    obtain ⟨k, b, v, hb, e, i0, hl, hv, _⟩ := field_is h g
    rw [← agree_find h h' x, e]
    have e1 : ((b.ad : Int) + i).toNat = b.ad + i.toNat := by omega
    rw [e1, h.rep.fld k b hb i.toNat v hv, h'.rep.fld k b hb i.toNat v hv]
  · rw [if_neg g, if_neg g]
theorem agree_allocE (h : Good s r) (h' : Good s' r) (t z : Int) : s.allocE t z = s'.allocE t z := by unfold St.allocE; rw [agree_base h h', agree_n h h', agree_top h h']
theorem agree_allocW (h : Good s r) (h' : Good s' r) (t z : Int) : s.allocW t z = s'.allocW t z := by unfold St.allocW; rw [agree_allocE h h', agree_top h h']
theorem agree_after (h : Good s r) (h' : Good s' r) (t z : Int) : r.after s t z = r.after s' t z := by unfold RS.after RS.alloc; rw [agree_allocE h h', agree_top h h']
theorem agree_leadI (h : Good s r) (h' : Good s' r) (x : Int) : leadI s r x = leadI s' r x := by unfold leadI; rw [agree_find h h']
theorem agree_visit (h : Good s r) (h' : Good s' r) : visit s r = visit s' r := by funext G x; unfold visit; rw [agree_leadI h h']
theorem agree_reach (h : Good s r) (h' : Good s' r) (xs : List Int) : reachG s r xs = reachG s' r xs := by
  have e1 : visits s r = visits s' r := by funext G ys; unfold visits; rw [agree_visit h h']
  have e2 : scan1 s r = scan1 s' r := by funext G k; unfold scan1; rw [e1]
  unfold reachG scans; rw [e1, e2]
theorem agree_newW (h : Good s r) (h' : Good s' r) (B : Nat) (G : List Nat) : newW s r B G = newW s' r B G := by funext x; unfold newW; rw [agree_leadI h h', agree_find h h']
theorem agree_collR (h : Good s r) (h' : Good s' r) (xs : List Int) : collR s r xs = collR s' r xs := by
  have e1 : newB s r = newB s' r := by funext B G k; unfold newB; rw [agree_newW h h']
  unfold collR; rw [e1, agree_reach h h']
theorem agree_collW (h : Good s r) (h' : Good s' r) (xs : List Int) (x : Int) : collW s r xs x = collW s' r xs x := by unfold collW; rw [agree_newW h h', agree_reach h h']
end
/-- A state whose blocks are those. -/
noncomputable def pick (r : RS) : St := by
  classical
  exact if h : ∃ s, Good s r then h.choose else ⟨0, 0, 0, fun _ => 0, fun _ => false⟩
theorem pick_good {s : St} {r : RS} (h : Good s r) : Good (pick r) r := by
  have hx : ∃ s, Good s r := ⟨s, h⟩
  unfold pick
  rw [dif_pos hx]
  exact hx.choose_spec
/-- What a field is made. -/
noncomputable def RS.setR (r : RS) (x i v : Int) : RS := if (pick r).fieldE x i = 0 then (match leadI (pick r) r x with | none => r | some k => r.put k (blkAt r k) i.toNat v) else r
theorem put_rep {s : St} {r : RS} (h : Good s r) (x i v : Int) : Rep (s.put x i v) (r.setR x i v) := by
  unfold RS.setR
  rw [← agree_fieldE h (pick_good h), ← agree_leadI h (pick_good h)]
  by_cases g : s.fieldE x i = 0
  · obtain ⟨k, b, u, hb, e, i0, hl, _, hk⟩ := field_is h g
    rw [if_pos g, hk]
    have hbk : blkAt r k = b := by unfold blkAt; rw [List.getD_eq_getElem?_getD, hb]; rfl
    have ei : ((i.toNat : Nat) : Int) = i := by omega
    have := (rep_put (v := v) (i := i.toNat) h.rep hb e hl).2
    rw [ei] at this
    show Rep _ (r.put k (blkAt r k) i.toNat v)
    rw [hbk]; exact this
  · rw [if_neg g]
    have : s.put x i v = s := by unfold St.put; rw [if_neg g]
    rw [this]; exact h.rep
/-- What lays and collects, told by the blocks, and how often there was a collection. -/
noncomputable def MM : Mach (RS × Int) where
  al := fun a t z X E W Y a' =>
    if (pick a.1).allocE t z = 10 then
      (if (a.1.n : Int) < (lenG a.1 (reachG (pick a.1) a.1 (listX X 8)) : Nat) + z + 1 then E = 10 ∧ a' = a
       else E = 0 ∧ W = (pick (collR (pick a.1) a.1 (listX X 8))).allocW t z ∧ Y = (fun i => collW (pick a.1) a.1 (listX X 8) (X i)) ∧ a' = ((collR (pick a.1) a.1 (listX X 8)).after (pick (collR (pick a.1) a.1 (listX X 8))) t z, wrap64 (a.2 + 1)))
    else E = (pick a.1).allocE t z ∧ (E = 0 → W = (pick a.1).allocW t z ∧ Y = X) ∧ a' = (a.1.after (pick a.1) t z, a.2)
  fo := fun a X Y a' => Y = (fun i => collW (pick a.1) a.1 (listX X 8) (X i)) ∧ a' = (collR (pick a.1) a.1 (listX X 8), wrap64 (a.2 + 1))
  gv := fun a x k => (pick a.1).get x k
  ge := fun a x k => (pick a.1).fieldE x k
  se := fun a x k v E a' => E = (pick a.1).fieldE x k ∧ a' = (a.1.setR x k v, a.2)
  sz := fun a x => (pick a.1).size x
theorem MM_al {a : RS × Int} {t z : Int} {X : Nat → Int} {E E' W W' : Int} {Y Y' : Nat → Int} {b b' : RS × Int} (h : MM.al a t z X E W Y b) (h' : MM.al a t z X E' W' Y' b') : E = E' ∧ b = b' ∧ (E = 0 → W = W' ∧ Y = Y') := by
  simp only [MM] at h h'
  split at h
  · rename_i g
    rw [if_pos g] at h'
    split at h
    · rename_i g2
      rw [if_pos g2] at h'
      obtain ⟨rfl, rfl⟩ := h
      obtain ⟨rfl, rfl⟩ := h'
      exact ⟨rfl, rfl, fun h => by omega⟩
    · rename_i g2
      rw [if_neg g2] at h'
      obtain ⟨rfl, rfl, rfl, rfl⟩ := h
      obtain ⟨rfl, rfl, rfl, rfl⟩ := h'
      exact ⟨rfl, rfl, fun _ => ⟨rfl, rfl⟩⟩
  · rename_i g
    rw [if_neg g] at h'
    obtain ⟨e1, e2, rfl⟩ := h
    obtain ⟨e1', e2', rfl⟩ := h'
    have ee : E = E' := e1.trans e1'.symm
    refine ⟨ee, rfl, fun h => ?_⟩
    obtain ⟨k1, k2⟩ := e2 h
    obtain ⟨k1', k2'⟩ := e2' (ee ▸ h)
    exact ⟨k1.trans k1'.symm, k2.trans k2'.symm⟩
theorem MM_step {st : St4} {a b b' : RS × Int} {X Y Y' : Nat → Int} {E E' : Int} (h : stepR MM st a X E b Y) (h' : stepR MM st a X E' b' Y') : E = E' ∧ b = b' ∧ Y = Y' := by
  unfold stepR at h h'
  by_cases c0 : st.k = 0
  · rw [if_pos c0] at h h'
    obtain ⟨W, Z, h1, rfl⟩ := h
    obtain ⟨W', Z', h1', rfl⟩ := h'
    obtain ⟨e1, e2, e3⟩ := MM_al h1 h1'
    refine ⟨e1, e2, ?_⟩
    subst e1
    by_cases e0 : E = 0
    · obtain ⟨rfl, rfl⟩ := e3 e0; rfl
    · rw [if_neg e0, if_neg e0]
  · rw [if_neg c0] at h h'
    by_cases c1 : st.k = 1 ∨ st.k = 2 ∨ st.k = 5
    · rw [if_pos c1] at h h'
      by_cases c2 : MM.sz a (X (placeN st.b)) ≤ 0
      · rw [if_pos c2] at h h'
        obtain ⟨rfl, rfl, rfl⟩ := h
        obtain ⟨rfl, rfl, rfl⟩ := h'
        exact ⟨rfl, rfl, rfl⟩
      · rw [if_neg c2] at h h'
        by_cases c3 : st.k = 5
        · rw [if_pos c3] at h h'
          obtain ⟨rfl, rfl, rfl⟩ := h
          obtain ⟨rfl, rfl, rfl⟩ := h'
          exact ⟨rfl, rfl, rfl⟩
        · rw [if_neg c3] at h h'
          obtain ⟨⟨rfl, rfl⟩, rfl⟩ := h
          obtain ⟨⟨rfl, rfl⟩, rfl⟩ := h'
          exact ⟨rfl, rfl, rfl⟩
    · rw [if_neg c1] at h h'
      by_cases c2 : st.k = 3
      · rw [if_pos c2] at h h'
        obtain ⟨⟨rfl, rfl⟩, rfl⟩ := h
        obtain ⟨⟨rfl, rfl⟩, rfl⟩ := h'
        exact ⟨rfl, rfl, rfl⟩
      · rw [if_neg c2] at h h'
        by_cases c3 : st.k = 4
        · rw [if_pos c3] at h h'
          obtain ⟨rfl, rfl, rfl⟩ := h
          obtain ⟨rfl, rfl, rfl⟩ := h'
          exact ⟨rfl, rfl, rfl⟩
        · rw [if_neg c3] at h h'
          obtain ⟨rfl, rfl, rfl⟩ := h
          obtain ⟨rfl, rfl, rfl⟩ := h'
          exact ⟨rfl, rfl, rfl⟩
/-- The same steps do the same. -/
theorem MM_play {f : Bool} {T : Nat → St4} {a0 : RS × Int} : ∀ {n : Nat} {E E' : Nat → Int} {a a' : RS × Int} {X X' : Nat → Int}, playR MM f T a0 n E a X → playR MM f T a0 n E' a' X' → (∀ i, i < n → E i = E' i) ∧ a = a' ∧ X = X'
  | 0, _, _, _, _, _, _, ⟨e1, e2⟩, ⟨e1', e2'⟩ => ⟨fun i hi => by omega, e1.trans e1'.symm, e2.trans e2'.symm⟩
  | n + 1, _, _, _, _, _, _, ⟨a1, X1, h1, h2⟩, ⟨a1', X1', h1', h2'⟩ => by
    obtain ⟨e1, rfl, rfl⟩ := MM_play h1 h1'
    obtain ⟨a2, X2, k1, k2⟩ := h2
    obtain ⟨a2', X2', k1', k2'⟩ := h2'
    have e2 : a2 = a2' ∧ X2 = X2' := by
      cases f with
      | false =>
        obtain ⟨q1, q2⟩ : a2 = a1 ∧ X2 = X1 := k1
        obtain ⟨q1', q2'⟩ : a2' = a1 ∧ X2' = X1 := k1'
        exact ⟨q1.trans q1'.symm, q2.trans q2'.symm⟩
      | true =>
        obtain ⟨q1, q2⟩ : MM.fo a1 X1 X2 a2 := k1
        obtain ⟨q1', q2'⟩ : MM.fo a1 X1 X2' a2' := k1'
        exact ⟨q2.trans q2'.symm, q1.trans q1'.symm⟩
    obtain ⟨rfl, rfl⟩ := e2
    obtain ⟨e3, e4, e5⟩ := MM_step k2 k2'
    refine ⟨fun i hi => ?_, e4, e5⟩
    by_cases c : i = n
    · subst c; exact e3
    · exact e1 i (by omega)
end Go.Proofs.Ytjnlfnecmiklhaa
