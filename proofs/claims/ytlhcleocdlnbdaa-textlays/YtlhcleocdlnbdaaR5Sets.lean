/-
  Layer 5: a block's fields are made another row of words, one by one, in the document's own arena. Condition: it lies in memory.
-/
import Derived.Test.YtlhcleocdlnbdaaR5Byte
import Derived.Test.YtlhcleocdlnbdaaR4Mem
import Derived.Test.YtlhcleocdlnbdaaLibC
namespace Go.Proofs.Ytlhcleocdlnbdaa
open Go.ChangeShapes Go.WideShapes Go.ChangeAt Go.RowKit Go.Deep
set_option linter.unusedVariables false
set_option maxHeartbeats 1000000

theorem find_sum {s : St} {x : Int} (g : (s.find x).1 ≠ 0) : (s.find x).1 + (s.find x).2 = addrW x := by
  unfold St.find at g ⊢
  split
  · simp
  · rename_i c
    rw [if_neg c] at g
    split
    · rename_i c2; rw [if_pos c2] at g; exact absurd rfl g
    · rename_i c2
      rw [if_neg c2] at g
      split
      · simp
      · rename_i c3; rw [if_neg c3] at g; exact absurd rfl g
/-- Block k holds other fields. -/
def RS.withF (r : RS) (k : Nat) (b : Blk) (G : List Int) : RS := ⟨r.n, r.which, r.L.set k ⟨b.ad, b.tag, G⟩⟩
theorem withF_at {r : RS} {k : Nat} (hk : k < r.L.length) (b : Blk) (G : List Int) : (r.withF k b G).L[k]? = some ⟨b.ad, b.tag, G⟩ := by
  show (r.L.set k _)[k]? = _
  rw [List.getElem?_set_self hk]
theorem withF_self {r : RS} {k : Nat} {b : Blk} (hk : r.L[k]? = some b) : r.withF k b b.F = r := by
  obtain ⟨hl, e⟩ := List.getElem?_eq_some_iff.1 hk
  unfold RS.withF
  have : r.L.set k ⟨b.ad, b.tag, b.F⟩ = r.L := by
    show r.L.set k b = r.L
    rw [← e, List.set_getElem_self]
  rw [this]
theorem withF_len (r : RS) (k : Nat) (b : Blk) (G : List Int) : (r.withF k b G).L.length = r.L.length := by show (r.L.set k _).length = _; rw [List.length_set]
theorem withF_put (r : RS) (k : Nat) (b : Blk) (G : List Int) (j : Nat) (v : Int) : (r.withF k b G).put k ⟨b.ad, b.tag, G⟩ j v = r.withF k b (G.set j v) := by
  unfold RS.put RS.withF
  simp
/-- The first j words of one row, the others of another one. -/
def mixG (f F : List Int) (j : Nat) : List Int := f.take j ++ F.drop j
theorem mixG_zero (f F : List Int) : mixG f F 0 = F := by unfold mixG; simp
theorem mixG_all {f F : List Int} (h : f.length = F.length) : mixG f F F.length = f := by unfold mixG; rw [List.drop_length, List.append_nil, ← h, List.take_length]
theorem mixG_len {f F : List Int} (h : f.length = F.length) (j : Nat) : (mixG f F j).length = F.length := by unfold mixG; simp; omega
theorem mixG_set {f F : List Int} (h : f.length = F.length) {j : Nat} (hj : j < F.length) : (mixG f F j).set j (f.getD j 0) = mixG f F (j + 1) := by
  unfold mixG
  have h1 : (f.take j).length = j := by rw [List.length_take]; omega
  have hf : j < f.length := by omega
  have e1 : F.drop j = F[j] :: F.drop (j + 1) := List.drop_eq_getElem_cons hj
  have e2 : f.take (j + 1) = f.take j ++ [f[j]] := by rw [List.take_add_one, List.getElem?_eq_getElem hf]; rfl
  have e3 : f.getD j 0 = f[j] := by rw [List.getD_eq_getElem?_getD, List.getElem?_eq_getElem hf]; rfl
  rw [List.set_append_right _ _ (by omega), h1, Nat.sub_self, e1, e2, e3, List.set_cons_zero, List.append_assoc]
  rfl
theorem good_withF {s : St} {r : RS} {k : Nat} {b : Blk} {G : List Int} {x v : Int} {j : Nat} (hg : Good s (r.withF k b G)) (hk : k < r.L.length) (hx : (b.ad : Int) = addrW x) (hj : j < G.length) (hv : R64 v) : s.fieldE x j = 0 ∧ Good (s.put x j v) (r.withF k b (G.set j v)) := by
  have hb := withF_at hk b G
  have hf := hg.rep.find_blk' hb hx
  obtain ⟨he, hr⟩ := rep_put (v := v) (i := j) hg.rep hb (by rw [hf]) hj
  rw [withF_put] at hr
  have gp := good_put hg x j v hv
  exact ⟨he, hr, gp.lo, gp.hi, gp.n1, gp.n2, gp.t2⟩
theorem good_unique {s : St} {r r' : RS} (gp : Good s r) (hr : Rep s r') : r' = r := by
  have t2 := gp.t2
  have n2 := gp.n2
  have n1 := gp.n1
  have hb := gp.rep.base
  have hw := gp.rep.wh
  have hn := gp.rep.n
  have hb2 : s.base ≤ s.n := by
    rcases Nat.le_one_iff_eq_zero_or_eq_one.1 hw with e | e
    · rw [hb, e]; simp
    · rw [hb, e, hn]; simp
  exact rep_unique hr gp.rep (by omega) (by omega)
theorem good_both {w : World} {s : St} {rb : Nat} {r : RS} {a : Option Addr} {cap : Nat} {V : Nat → Value} (h : Rf w rb r a cap V) (hg : Good s r) (h4 : 4 ≤ rb) : Both w ⟨0, 1, 2, 3⟩ s rb r a cap V :=
  ⟨good_ar hg w, h, hg.rep, by show 0 < rb; omega, by show 1 < rb; omega, by show 2 < rb; omega, by show 3 < rb; omega⟩
/-- Block k holds the fields G now, in a memory that has grown out of w0. -/
structure Setting (w0 : World) (rb : Nat) (r : RS) (k : Nat) (b : Blk) (a : Option Addr) (cap : Nat) (V0 : Nat → Value) (G : List Int) (w : World) : Prop where
  rf : ∃ V s, Rf w rb (r.withF k b G) a cap V ∧ Good s (r.withF k b G) ∧ Fresh w0.heap.size r.L.length V0 r.L.length V
  on : Only (Rown rb a) w0 w
theorem Fresh.trans {B B' m : Nat} {V V' V'' : Nat → Value} (h : Fresh B m V m V') (h' : Fresh B' m V' m V'') (hb : B ≤ B') : Fresh B m V m V'' := fun i hi => by
  rcases h' i hi with ⟨h1, e⟩ | h1
  · rcases h i hi with ⟨h2, e2⟩ | h2
    · exact Or.inl ⟨hi, e.trans e2⟩
    · exact Or.inr (fun ad n c he => h2 ad n c (by rw [← e]; exact he))
  · exact Or.inr (fun ad n c he => Nat.le_trans hb (h1 ad n c he))
theorem rset_text {w0 w : World} {rb : Nat} {r : RS} {k : Nat} {b : Blk} {a : Option Addr} {cap : Nat} {V0 : Nat → Value} {G : List Int} {x v : Int} {j : Nat} (h : Setting w0 rb r k b a cap V0 G w) (h4 : 4 ≤ rb) (hk : k < r.L.length) (hx : (b.ad : Int) = addrW x) (h0 : 0 ≤ x) (h1 : x ≤ 18446744073709551615) (hj : j < G.length) (hv : R64 v) :
    Calls Try.prog 34 #[.pointer (some ⟨rb, 0, none⟩), .int .u64 x, .int .i64 j, .int .u64 v] w fun e w' => e = .returned (.int .i64 0) ∧ Setting w0 rb r k b a cap V0 (G.set j v) w' ∧ Only (Rown rb a) w w' := by
  obtain ⟨⟨V, s, rf, hg, fr⟩, on⟩ := h
  obtain ⟨he, gp⟩ := good_withF (x := x) (v := v) (j := j) hg hk hx hj hv
  refine (rset_fresh x j v w (good_both rf hg h4) h0 h1).mono ?_
  rintro e w' ⟨rfl, r', V', rf', rep', on', fr'⟩
  rw [good_unique gp rep'] at rf' fr'
  rw [withF_len, withF_len] at fr'
  exact ⟨by rw [he], ⟨⟨V', _, rf', gp, fr.trans fr' on.size⟩, on.trans on'⟩, on'⟩
theorem Setting.start {w : World} {rb : Nat} {r : RS} {k : Nat} {b : Blk} {a : Option Addr} {cap : Nat} {V : Nat → Value} {s : St} (h : Rf w rb r a cap V) (hg : Good s r) (hk : r.L[k]? = some b) : Setting w rb r k b a cap V b.F w := by
  have e := withF_self hk
  exact ⟨⟨V, s, by rw [e]; exact h, by rw [e]; exact hg, Fresh.refl _ _ _⟩, Only.refl _ _⟩
theorem Setting.below {w0 w w' : World} {rb : Nat} {r : RS} {k : Nat} {b : Blk} {a : Option Addr} {cap : Nat} {V0 : Nat → Value} {G : List Int} (h : Setting w0 rb r k b a cap V0 G w) (hb : Below w.heap.size w w') : Setting w0 rb r k b a cap V0 G w' := by
  obtain ⟨⟨V, s, rf, hg, fr⟩, on⟩ := h
  have o : Only (fun _ => False) w w' := Only.of_below hb
  exact ⟨⟨V, s, rf.frame o (fun _ _ => id), hg, fr⟩, on.trans (Only.of_below hb)⟩
theorem rf_rown {w : World} {rb : Nat} {r : RS} {a : Option Addr} {cap : Nat} {V : Nat → Value} (h : Rf w rb r a cap V) {q : Nat} (hq : Rown rb a q) : q < w.heap.size := (rf_lt h).1 q hq
end Go.Proofs.Ytlhcleocdlnbdaa
