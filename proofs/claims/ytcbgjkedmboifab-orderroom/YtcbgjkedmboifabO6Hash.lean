/-
  Layer 6: what the document's own Hash tells. Condition: the document's own arena lies in memory.
-/
import Derived.Test.YtcbgjkedmboifabO6Queue
import Derived.Test.YtcbgjkedmboifabO6CmpA
import Derived.Test.YtcbgjkedmboifabLibB
import Derived.Deep.CutRange
namespace Go.Proofs.Ytcbgjkedmboifab
open Go.ChangeShapes Go.WideShapes Go.ChangeAt Go.RowKit Go.Deep
set_option linter.unusedVariables false
set_option maxHeartbeats 2000000

variable {w w' : World} {p : Pl} {s : St} {rb : Nat} {r : RS} {a : Option Addr} {cap : Nat} {V : Nat → Value}
/-- What Hash tells. -/
def hashC (nd : Int → Nd) (x room : Int) : Int × Int := if (goH nd mixW room 24 [x] (intW 7)).2 = 0 then (doV 6 (goH nd mixW room 24 [x] (intW 7)).1 (intW 1073741823), 0) else (0, (goH nd mixW room 24 [x] (intW 7)).2)
/-- Where the loop over the queue is. -/
def HashAt (nd : Int → Nd) (room : Int) (res : Int × Int) (w : World) (hv qv nv : Value) (wr : World) : Prop :=
  ∃ (Q : List Int) (n : Nat) (h : Int), n ≤ 24 ∧ n ≤ Q.length ∧ nv = .int .i64 n ∧ hv = .int .u64 h ∧ R64 h ∧ WQ wr w.heap.size qv Q ∧ (∀ x, x ∈ Q → R64 x) ∧ Q.length ≤ 4096 * n + 1 ∧ res = goH nd mixW room (24 - n) (Q.drop n) h ∧ Below w.heap.size w wr
theorem wq_first (w : World) (x : Int) : WQ (w.alloc (.cells #[.int .u64 x] 30)) w.heap.size (.slice (some ⟨w.heap.size, 0, none⟩) 1 1) [x] :=
  ⟨w.heap.size, 1, #[.int .u64 x], rfl, Nat.le_refl _, blk_alloc_new _ _, rfl, Nat.le_refl _, by unfold maxLen; omega, fun i hi => by
    have : i = 0 := by simpa using hi
    subst this; rfl⟩
theorem numW_rng (x : Int) (h0 : 0 ≤ x) (h1 : x ≤ 18446744073709551615) : -9223372036854775808 ≤ numW x ∧ numW x ≤ 9223372036854775807 := by unfold numW; split <;> omega
section
variable {nd : Int → Nd} {room h x : Int} {m : Nat} {q : List Int}
theorem goH_wrong {E : Int} (e : (nd x).wrong = E) (hE : E ≠ 0) : goH nd mixW room (m + 1) (x :: q) h = (0, E) := by rw [goH, e, if_pos hE]
theorem goH_num {z : Int} (e : nd x = .num z) : goH nd mixW room (m + 1) (x :: q) h = goH nd mixW room m q (mixW h z) := by
  rw [goH, e, if_neg (fun c => c rfl), if_neg (by intro c; exact absurd c.1 (by show ¬ some (0 : Int) = some 1; decide))]
  show goH nd mixW room m (q ++ []) _ = _
  rw [List.append_nil]; rfl
theorem goH_txt {l : List Int} (e : nd x = .txt l) : goH nd mixW room (m + 1) (x :: q) h = goH nd mixW room m q ((l.take 64).foldl mixW (mixW h 3)) := by
  rw [goH, e, if_neg (fun c => c rfl), if_neg (by intro c; exact absurd c.2.1 (by show ¬ some (1 : Int) = some 0; decide))]
  show goH nd mixW room m (q ++ []) _ = _
  rw [List.append_nil]; rfl
theorem goH_full {t : Int} {F : List Int} (e : nd x = .blk t F) (hr : room < (q.length + F.length : Nat)) : goH nd mixW room (m + 1) (x :: q) h = (0, 11) := by
  rw [goH, e, if_neg (fun c => c rfl), if_pos ⟨rfl, rfl, hr⟩]
theorem goH_blk {t : Int} {F : List Int} (e : nd x = .blk t F) (hr : ¬ room < (q.length + F.length : Nat)) : goH nd mixW room (m + 1) (x :: q) h = goH nd mixW room m (q ++ F) (mixW h (5 * t + F.length)) := by
  rw [goH, e, if_neg (fun c => c rfl), if_neg (fun c => hr c.2.2)]; rfl
end
/-- A row of words grows, as one step. -/
theorem append_any {w w' : World} {ops : Array Oper} {rest : List Oper} {o : Oper} {a : Act} {Q : Exit → Act → World → Prop} {v u v' : Value} (hgd : o.guard = none) (d x : Operand)
    (ho : o.op = .call { callee := .builtin .append, args := #[d, x], argTypes := #[37, 37] }) (hd : a.eval d = v) (hx : a.eval x = u) (hr : Sem.run Try.prog (Builtin.append_ #[37, 37] o.type #[v, u]) w = .ok v' w')
    (h : wpList Try.prog ops Q rest (a.put o.dst v') w') : wpList Try.prog ops Q (o :: rest) a w := by
  refine wpList_plain hgd fun K hK => ?_
  unfold Oper.wp execOp
  simp only [ho, resolve, invoke, builtin, Sem.run_bind, Sem.run_pure, Result.andThen_ok, List.map_toArray, List.map_cons, List.map_nil, hd, hx, hr]
  exact hK _ _ h
/-- Whatever row is put behind: fields of a block. -/
theorem grow_words {w : World} {B : Nat} {v : Value} {qs F : List Int} (ty : TypeId) (vx : Option Addr) (cx : Nat) (h : WQ w B v qs) (hB : B ≤ w.heap.size) (hx : 0 < F.length → ∃ gf, vx = some ⟨gf, 0, none⟩ ∧ Own w gf F.length (fun i => F.getD i 0)) (hl : qs.length + F.length < 100000000) :
    ∃ g' c' w', Sem.run Try.prog (Builtin.append_ #[37, 37] ty #[v, .slice vx F.length cx]) w = .ok (.slice (some ⟨g', 0, none⟩) (qs.length + F.length) c') w' ∧ WQ w' B (.slice (some ⟨g', 0, none⟩) (qs.length + F.length) c') (qs ++ F) ∧ Below B w w' := by
  by_cases hF : 0 < F.length
  · obtain ⟨gf, rfl, ho⟩ := hx hF
    obtain ⟨v', w', h1, h2, h3⟩ := run_append_words ty h hB gf cx (fun i hi => ho.cell hi) hF hl
    obtain ⟨g', c', cur', e, hr⟩ := h2
    rw [List.length_append] at e
    subst e
    exact ⟨g', c', w', h1, ⟨g', c', cur', by rw [List.length_append], hr⟩, h3⟩
  · have e : F = [] := List.length_eq_zero_iff.1 (by omega)
    subst e
    obtain ⟨i0, hi, hz0, hz1, hz2⟩ := info_parts infoW
    obtain ⟨g, cap, cur, rfl, hb, hg, hs, hc, hm, hcells⟩ := h
    refine ⟨g, cap, w, ?_, by rw [List.append_nil]; exact ⟨g, cap, cur, rfl, hb, hg, hs, hc, hm, hcells⟩, Below.refl _ _⟩
    have hl0 : ∀ (x : Addr), (loadCells x 0).run Try.prog w = .ok #[] w := fun x => by simpa using run_loadCells_list (P := Try.prog) w x [] (by simp)
    cases vx <;> simp [Builtin.append_, run_underlying Try.underlying37, sizeOf, typeInfo, hi, hz1, Builtin.lenOf, Builtin.firstCells, hc, storeCells, hl0]
/-- Where the loop over a text's bytes is. -/
def TextAt (l : List Int) (h3 : Int) (hv iv : Value) : Prop := ∃ (i : Nat) (hh : Int), i ≤ l.length ∧ i ≤ 64 ∧ iv = .int .i64 i ∧ hv = .int .u64 hh ∧ R64 hh ∧ hh = (l.take i).foldl mixW h3
end Go.Proofs.Ytcbgjkedmboifab
