/-
  Layer 4's statements: what lays and collects, told by what may be asked of it; how it lies in memory beside what play holds. No program but play's own small functions.
-/
import Derived.Test.YtjnlfnecmiklhaaL3Words
import Derived.Deep.AppendLies
import Derived.Deep.RegionHeld3
import Derived.Deep.CutRange
import Derived.BigQuiet
namespace Go.Proofs.Ytjnlfnecmiklhaa
open Go.ChangeShapes Go.WideShapes Go.ChangeAt Go.RowKit Go.Deep
set_option linter.unusedVariables false
set_option maxHeartbeats 1000000

/-- What may be asked of what lays and collects, by its states. -/
structure Mach (τ : Type) where
  al : τ → Int → Int → (Nat → Int) → Int → Int → (Nat → Int) → τ → Prop
  fo : τ → (Nat → Int) → (Nat → Int) → τ → Prop
  gv : τ → Int → Int → Int
  ge : τ → Int → Int → Int
  se : τ → Int → Int → Int → Int → τ → Prop
  sz : τ → Int → Int
/-- A function value. -/
structure FV where
  (fn : Nat)
  (first cap : Array Value)
def FV.val (f : FV) : Value := .func (.func f.fn) f.first f.cap
def FV.Ok (f : FV) : Prop := ∀ (args : Array Value) (w : World), (callFunc f.fn args).run Try.prog w = .ok (.enter f.fn args) w
def R64 (x : Int) : Prop := 0 ≤ x ∧ x ≤ 18446744073709551615
def RI (x : Int) : Prop := -9223372036854775808 ≤ x ∧ x ≤ 9223372036854775807
def RX (X : Nat → Int) : Prop := ∀ i, i < 8 → R64 (X i)
structure Doer (τ : Type) where
  (va vf vg vs vz : FV)
  M : Mach τ
  I : World → τ → Prop
  own : τ → Nat → Prop
/-- What the held words' row may be behind a call: the same row, or a new one; never one of the machine's own. -/
def HeldAs (own' : Nat → Prop) (n g : Nat) (w' : World) (X' : Nat → Int) (now : Value) : Prop := ∃ g' c', now = .slice (some ⟨g', 0, none⟩) 8 c' ∧ Own w' g' 8 X' ∧ ¬ own' g' ∧ (g' = g ∨ n ≤ g') ∧ RX X'
structure Does {τ : Type} (d : Doer τ) : Prop where
  ok : d.va.Ok ∧ d.vf.Ok ∧ d.vg.Ok ∧ d.vs.Ok ∧ d.vz.Ok
  frame : ∀ {w w' : World} {a : τ} {S : Nat → Prop}, d.I w a → Only S w w' → (∀ q, d.own a q → ¬ S q) → d.I w' a
  lt : ∀ {w : World} {a : τ}, d.I w a → ∀ q, d.own a q → q < w.heap.size
  alloc : ∀ (w : World) (a : τ) (g c : Nat) (X : Nat → Int) (t z : Int), d.I w a → Own w g 8 X → ¬ d.own a g → RX X → RI t → RI z →
    Calls Try.prog d.va.fn (d.va.first ++ (#[.int .i64 t, .int .i64 z, .slice (some ⟨g, 0, none⟩) 8 c] ++ d.va.cap)) w fun e w' => ∃ E W X' a' now, e = .returned (.tuple #[.int .u64 W, now, .int .i64 E]) ∧ d.M.al a t z X E W X' a' ∧ d.I w' a' ∧ Only (d.own a) w w' ∧ (∀ q, d.own a' q → d.own a q ∨ w.heap.size ≤ q) ∧ R64 W ∧ (E = 0 → HeldAs (d.own a') w.heap.size g w' X' now)
  force : ∀ (w : World) (a : τ) (g c : Nat) (X : Nat → Int), d.I w a → Own w g 8 X → ¬ d.own a g → RX X →
    Calls Try.prog d.vf.fn (d.vf.first.push (.slice (some ⟨g, 0, none⟩) 8 c) ++ d.vf.cap) w fun e w' => ∃ X' a' now, e = .returned now ∧ d.M.fo a X X' a' ∧ d.I w' a' ∧ Only (d.own a) w w' ∧ (∀ q, d.own a' q → d.own a q ∨ w.heap.size ≤ q) ∧ HeldAs (d.own a') w.heap.size g w' X' now
  get : ∀ (w : World) (a : τ) (x k : Int), d.I w a → R64 x → RI k →
    Calls Try.prog d.vg.fn (d.vg.first ++ (#[.int .u64 x, .int .i64 k] ++ d.vg.cap)) w fun e w' => e = .returned (.tuple #[.int .u64 (d.M.gv a x k), .int .i64 (d.M.ge a x k)]) ∧ ∃ m, w' = w.drewN m
  getR : ∀ {w : World} {a : τ} (x k : Int), d.I w a → R64 (d.M.gv a x k)
  set : ∀ (w : World) (a : τ) (x k v : Int), d.I w a → R64 x → RI k → R64 v →
    Calls Try.prog d.vs.fn (d.vs.first ++ (#[.int .u64 x, .int .i64 k, .int .u64 v] ++ d.vs.cap)) w fun e w' => ∃ E a', e = .returned (.int .i64 E) ∧ d.M.se a x k v E a' ∧ d.I w' a' ∧ Only (d.own a) w w' ∧ (∀ q, d.own a' q → d.own a q ∨ w.heap.size ≤ q)
  size : ∀ (w : World) (a : τ) (x : Int), d.I w a → R64 x →
    Calls Try.prog d.vz.fn (d.vz.first.push (.int .u64 x) ++ d.vz.cap) w fun e w' => e = .returned (.int .i64 (d.M.sz a x)) ∧ ∃ m, w' = w.drewN m
  sizeR : ∀ {w : World} {a : τ} (x : Int), d.I w a → -1 ≤ d.M.sz a x ∧ d.M.sz a x ≤ 100000
/-- A step. -/
structure St4 where
  (k a b c : Int)
def placeN (n : Int) : Nat := (n % 8).toNat
theorem placeN_lt (n : Int) : placeN n < 8 := by unfold placeN; omega
def putX (X : Nat → Int) (p : Nat) (v : Int) (i : Nat) : Int := if i = p then v else X i
section
variable {τ : Type}
/-- What a step does. -/
def stepR (M : Mach τ) (st : St4) (a : τ) (X : Nat → Int) (E : Int) (a' : τ) (X' : Nat → Int) : Prop :=
  if st.k = 0 then ∃ W Y, M.al a st.a st.b X E W Y a' ∧ X' = (if E = 0 then putX Y (placeN st.c) W else X)
  else if st.k = 1 ∨ st.k = 2 ∨ st.k = 5 then
    (if M.sz a (X (placeN st.b)) ≤ 0 then E = 0 ∧ a' = a ∧ X' = X
     else if st.k = 5 then E = M.ge a (X (placeN st.b)) ((st.a % 18446744073709551616) % M.sz a (X (placeN st.b))) ∧ a' = a ∧ X' = putX X (placeN st.c) (M.gv a (X (placeN st.b)) ((st.a % 18446744073709551616) % M.sz a (X (placeN st.b))))
     else M.se a (X (placeN st.b)) ((st.a % 18446744073709551616) % M.sz a (X (placeN st.b))) (if st.k = 1 then X (placeN st.c) else intW st.a) E a' ∧ X' = X)
  else if st.k = 3 then M.fo a X X' a' ∧ E = 0
  else if st.k = 4 then E = 0 ∧ a' = a ∧ X' = putX X (placeN st.c) 1
  else E = 0 ∧ a' = a ∧ X' = X
/-- .. with a collection ahead of it, where that is asked for. -/
def stepF (M : Mach τ) (f : Bool) (st : St4) (a : τ) (X : Nat → Int) (E : Int) (a' : τ) (X' : Nat → Int) : Prop :=
  ∃ a1 X1, (if f then M.fo a X X1 a1 else a1 = a ∧ X1 = X) ∧ stepR M st a1 X1 E a' X'
/-- What n steps do. -/
def playR (M : Mach τ) (f : Bool) (T : Nat → St4) (a0 : τ) : Nat → (Nat → Int) → τ → (Nat → Int) → Prop
  | 0, _, a, X => a = a0 ∧ X = fun _ => 1
  | n + 1, E, a, X => ∃ a1 X1, playR M f T a0 n E a1 X1 ∧ stepF M f (T n) a1 X1 (E n) a X
end
/-- A slice of steps lies in memory. -/
structure SS4 (w : World) (al : Option Addr) (m c : Nat) (T : Nat → St4) : Prop where
  nil : al = none → m = 0 ∧ c = 0
  cell : ∀ i, i < m → ∃ x, al = some x ∧ w.cell? (x.add (i * 4)) = some (.int .i64 (T i).k) ∧ w.cell? ⟨(x.add (i * 4)).block, (x.add (i * 4)).off + 1, none⟩ = some (.int .i64 (T i).a) ∧ w.cell? ⟨(x.add (i * 4)).block, (x.add (i * 4)).off + 2, none⟩ = some (.int .i64 (T i).b) ∧ w.cell? ⟨(x.add (i * 4)).block, (x.add (i * 4)).off + 3, none⟩ = some (.int .i64 (T i).c)
  rng : ∀ i, i < m → RI (T i).k ∧ RI (T i).a ∧ RI (T i).b ∧ RI (T i).c
theorem place_any (n : Int) (w : World) (h : RI n) : Calls Try.prog 31 #[.int .i64 n] w fun e w' => e = .returned (.int .i64 (placeN n)) ∧ w' = w := by
  obtain ⟨h1, h2⟩ := h
  go_enter Try.func31, Try.ntmps31
  go_wp2
  go_ret
  refine ⟨congrArg Ending.returned (?_ : Value.int .i64 (wrap64 ((IntKind.u64.wrap n).tmod 8)) = _), rfl⟩
  have e : wrap64 ((IntKind.u64.wrap n).tmod 8) = (placeN n : Int) := by
    have e1 : IntKind.u64.wrap n = n % 18446744073709551616 := by rw [IntKind.wrap_u64]
    rw [e1, Int.tmod_eq_emod_of_nonneg (by omega)]
    unfold placeN wrap64
    omega
  rw [e]
def rowE (E : Nat → Int) (n : Nat) : List Value := (List.range n).map fun j => .int .i64 (E j)
theorem rowE_succ (E : Nat → Int) (n : Nat) : rowE E (n + 1) = rowE E n ++ [.int .i64 (E n)] := by unfold rowE; rw [List.range_succ, List.map_append]; rfl
theorem rowE_congr {E E' : Nat → Int} {n : Nat} (h : ∀ i, i < n → E i = E' i) : rowE E n = rowE E' n := by
  unfold rowE
  exact List.map_congr_left (fun k hk => by rw [h k (List.mem_range.1 hk)])
theorem row_keep {w w' : World} {B : Nat} {e : TypeId} {sz : Nat} {v : Value} {n : Nat} {xs : List Value} (h : w.ownsRow B e sz v n xs) (hk : ∀ g, v.ownBlock = some g → w'.heap[g]? = w.heap[g]?) : w'.ownsRow B e sz v n xs := by
  refine ⟨h.1, ?_⟩
  rcases h.2 with h2 | ⟨g, c, cur, hv, hge, hh, rest⟩
  · exact .inl h2
  · exact .inr ⟨g, c, cur, hv, hge, (hk g (by rw [hv]; rfl)).trans hh, rest⟩
theorem row_blk {w : World} {B g n c : Nat} {e : TypeId} {sz : Nat} {xs : List Value} (h : w.ownsRow B e sz (.slice (some ⟨g, 0, none⟩) n c) n xs) : ∃ cur, w.heap[g]? = some (.cells cur e (0, 0)) ∧ B ≤ g := by
  rcases h.2 with ⟨e', _⟩ | ⟨g', cap, cur, e', hb, hg, _⟩
  · cases e'
  · simp only [Value.slice.injEq, Option.some.injEq, Addr.mk.injEq, and_true, true_and] at e'
    obtain ⟨rfl, rfl⟩ := e'
    exact ⟨cur, hg, hb⟩
theorem ty_two {w : World} {g g' : Nat} {cur cur' : Array Value} {t t' : TypeId} (h : w.heap[g]? = some (.cells cur t (0, 0))) (h' : w.heap[g']? = some (.cells cur' t' (0, 0))) (ht : t ≠ t') : g ≠ g' := by
  rintro rfl
  rw [h] at h'
  simp at h'
  exact ht h'.2
theorem Own.blk {w : World} {g m : Nat} {X : Nat → Int} (h : Own w g m X) : ∃ cur, w.heap[g]? = some (.cells cur 54 (0, 0)) := by obtain ⟨cur, hc, _⟩ := h; exact ⟨cur, hc⟩
/-- How all lies in memory between two operations of play: the machine, the held words, what went wrong so far, what was handed in. -/
structure PB {τ : Type} (d : Doer τ) (w0 : World) (a0 : τ) (w : World) (a : τ) (g : Nat) (X : Nat → Int) (ge ce j : Nat) (E : Nat → Int) : Prop where
  i : d.I w a
  held : Own w g 8 X
  rx : RX X
  hg : ¬ d.own a g
  errs : w.ownsRow w0.heap.size 58 1 (.slice (some ⟨ge, 0, none⟩) j ce) j (rowE E j)
  he : ¬ d.own a ge
  db : w.heap[w0.heap.size]? = some (.cells #[.func (.func d.va.fn) d.va.first d.va.cap, .func (.func d.vf.fn) d.vf.first d.vf.cap, .func (.func d.vg.fn) d.vg.first d.vg.cap, .func (.func d.vs.fn) d.vs.first d.vs.cap, .func (.func d.vz.fn) d.vz.first d.vz.cap] 38 (0, 0))
  hdb : ¬ d.own a w0.heap.size
  on : Only (d.own a0) w0 w
  ow : ∀ q, d.own a q → d.own a0 q ∨ w0.heap.size ≤ q
  lo : w0.heap.size ≤ g
/-- The step that is being done lies in a block of its own. -/
structure SB {τ : Type} (d : Doer τ) (w : World) (a : τ) (sb : Nat) (st : St4) : Prop where
  blk : w.heap[sb]? = some (.cells #[.int .i64 st.k, .int .i64 st.a, .int .i64 st.b, .int .i64 st.c] 62 (0, 0))
  no : ¬ d.own a sb
section
variable {τ : Type} {d : Doer τ} {w0 w w' : World} {a0 a a' : τ} {g ge ce j sb : Nat} {X : Nat → Int} {E : Nat → Int} {st : St4} {al : Option Addr} {m c : Nat} {T : Nat → St4}
theorem only_own (h : Only (d.own a0) w0 w) (k : Only (d.own a) w w') (ow : ∀ q, d.own a q → d.own a0 q ∨ w0.heap.size ≤ q) : Only (d.own a0) w0 w' := by
  refine ⟨k.os.trans h.os, k.tape.trans h.tape, k.output.trans h.output, Nat.le_trans h.size k.size, fun q hq hs => (k.block q (Nat.lt_of_lt_of_le hq h.size) (fun hc => ?_)).trans (h.block q hq hs)⟩
  rcases ow q hc with e | e
  · exact hs e
  · omega
/-- Behind a call of the machine: the held words' row is what it was, if it is still held. -/
theorem PB.called (h : PB d w0 a0 w a g X ge ce j E) (hI : d.I w' a') (k : Only (d.own a) w w') (hn : ∀ q, d.own a' q → d.own a q ∨ w.heap.size ≤ q) : PB d w0 a0 w' a' g X ge ce j E := by
  have no : ∀ q, q < w.heap.size → ¬ d.own a q → ¬ d.own a' q := fun q hq h1 h2 => by
    rcases hn q h2 with e | e
    · exact h1 e
    · omega
  obtain ⟨ce', hce, _⟩ := row_blk h.errs
  refine ⟨hI, h.held.frame k h.hg, h.rx, no _ h.held.lt h.hg, row_keep h.errs (fun q hq => ?_), no _ (lt_of_some hce) h.he, (k.block _ (lt_of_some h.db) h.hdb).trans h.db, no _ (lt_of_some h.db) h.hdb, only_own h.on k h.ow, fun q hq => ?_, h.lo⟩
  · have : ge = q := by simpa [Value.ownBlock] using hq
    subst this
    exact k.block _ (lt_of_some hce) h.he
  · rcases hn q hq with e | e
    · exact h.ow q e
    · exact Or.inr (Nat.le_trans h.on.size e)
theorem PB.holds {now : Value} {X' : Nat → Int} {n : Nat} (h : PB d w0 a0 w a g X ge ce j E) (hH : HeldAs (d.own a) n g w X' now) (hn : w0.heap.size ≤ n) : ∃ g' c', now = .slice (some ⟨g', 0, none⟩) 8 c' ∧ PB d w0 a0 w a g' X' ge ce j E := by
  obtain ⟨g', c', e, ho, hg, hat, hrx⟩ := hH
  refine ⟨g', c', e, { h with held := ho, rx := hrx, hg := hg, lo := ?_ }⟩
  rcases hat with e2 | e2
  · rw [e2]; exact h.lo
  · omega
theorem SB.called (h : SB d w a sb st) (k : Only (d.own a) w w') (hn : ∀ q, d.own a' q → d.own a q ∨ w.heap.size ≤ q) : SB d w' a' sb st :=
  ⟨(k.block _ (lt_of_some h.blk) h.no).trans h.blk, fun hc => by
    rcases hn sb hc with e | e
    · exact h.no e
    · have := lt_of_some h.blk; omega⟩
theorem SB.cells (h : SB d w a sb st) : w.cell? ⟨sb, 0, none⟩ = some (.int .i64 st.k) ∧ w.cell? ⟨sb, 1, none⟩ = some (.int .i64 st.a) ∧ w.cell? ⟨sb, 2, none⟩ = some (.int .i64 st.b) ∧ w.cell? ⟨sb, 3, none⟩ = some (.int .i64 st.c) := by
  refine ⟨?_, ?_, ?_, ?_⟩ <;> simp [World.cell?, h.blk]
theorem PB.dcells (h : PB d w0 a0 w a g X ge ce j E) : w.cell? ⟨w0.heap.size, 0, none⟩ = some (.func (.func d.va.fn) d.va.first d.va.cap) ∧ w.cell? ⟨w0.heap.size, 1, none⟩ = some (.func (.func d.vf.fn) d.vf.first d.vf.cap) ∧ w.cell? ⟨w0.heap.size, 2, none⟩ = some (.func (.func d.vg.fn) d.vg.first d.vg.cap) ∧ w.cell? ⟨w0.heap.size, 3, none⟩ = some (.func (.func d.vs.fn) d.vs.first d.vs.cap) ∧ w.cell? ⟨w0.heap.size, 4, none⟩ = some (.func (.func d.vz.fn) d.vz.first d.vz.cap) := by
  refine ⟨?_, ?_, ?_, ?_, ?_⟩ <;> simp [World.cell?, h.db]
theorem PB.frame (hd : Does d) {S : Nat → Prop} (h : PB d w0 a0 w a g X ge ce j E) (k : Only S w w') (h1 : ¬ S g) (h2 : ¬ S ge) (h3 : ¬ S w0.heap.size) (h4 : ∀ q, d.own a q → ¬ S q) (h5 : ∀ q, q < w0.heap.size → ¬ S q) : PB d w0 a0 w' a g X ge ce j E := by
  obtain ⟨ce', hce, _⟩ := row_blk h.errs
  refine { h with i := hd.frame h.i k h4, held := h.held.frame k h1, errs := row_keep h.errs (fun q hq => ?_), db := (k.block _ (lt_of_some h.db) h3).trans h.db, on := ?_ }
  · have : ge = q := by simpa [Value.ownBlock] using hq
    subst this
    exact k.block _ (lt_of_some hce) h2
  · exact ⟨k.os.trans h.on.os, k.tape.trans h.on.tape, k.output.trans h.on.output, Nat.le_trans h.on.size k.size, fun q hq hs => (k.block q (Nat.lt_of_lt_of_le hq h.on.size) (h5 q hq)).trans (h.on.block q hq hs)⟩
theorem PB.drewN (hd : Does d) (h : PB d w0 a0 w a g X ge ce j E) (n : Nat) : PB d w0 a0 (w.drewN n) a g X ge ce j E := h.frame hd (S := fun _ => False) ((Only.refl _ _).drewN n) id id id (fun _ _ => id) (fun _ _ => id)
theorem PB.alloc (hd : Does d) (h : PB d w0 a0 w a g X ge ce j E) (o : Obj) : PB d w0 a0 (w.alloc o) a g X ge ce j E := h.frame hd (S := fun _ => False) ((Only.refl _ _).alloc o) id id id (fun _ _ => id) (fun _ _ => id)
theorem PB.write (hd : Does d) (h : PB d w0 a0 w a g X ge ce j E) (p : Nat) {v : Int} (hv : R64 v) : PB d w0 a0 (w.setCell ⟨g, p, none⟩ (.int .u64 v)) a g (putX X p v) ge ce j E := by
  have k : Only (fun q => q = g) w (w.setCell ⟨g, p, none⟩ (.int .u64 v)) := (Only.refl (fun q => q = g) w).setCell (a := ⟨g, p, none⟩) (Or.inr rfl) _
  obtain ⟨c1, e1⟩ := h.held.blk
  obtain ⟨c2, e2, _⟩ := row_blk h.errs
  have n1 : ge ≠ g := ty_two e2 e1 (by decide)
  have n2 : w0.heap.size ≠ g := ty_two h.db e1 (by decide)
  refine { h with i := hd.frame h.i k (fun q hq e => h.hg (e ▸ hq)), held := h.held.set p v, rx := fun i hi => ?_, errs := row_keep h.errs (fun q hq => ?_), db := (k.block _ (lt_of_some h.db) n2).trans h.db, on := ?_ }
  · unfold putX; split
    · exact hv
    · exact h.rx i hi
  · have : ge = q := by simpa [Value.ownBlock] using hq
    subst this
    exact k.block _ (lt_of_some e2) n1
  · have := h.lo
    exact ⟨k.os.trans h.on.os, k.tape.trans h.on.tape, k.output.trans h.on.output, Nat.le_trans h.on.size k.size, fun q hq hs => (k.block q (Nat.lt_of_lt_of_le hq h.on.size) (by omega)).trans (h.on.block q hq hs)⟩
theorem PB.err (hd : Does d) {o : Obj} {g' c' : Nat} {E' : Nat → Int} (h : PB d w0 a0 w a g X ge ce j E) (gr : (w.alloc o).grownBy w' (some ge)) (hr : w'.ownsRow w0.heap.size 58 1 (.slice (some ⟨g', 0, none⟩) (j + 1) c') (j + 1) (rowE E' (j + 1))) (hat : ge = g' ∨ g' = (w.alloc o).heap.size) : PB d w0 a0 w' a g X g' c' (j + 1) E' := by
  have k : Only (fun q => q = ge) w w' := ⟨gr.os, gr.tape, gr.output, Nat.le_trans (by rw [nblk_alloc]; omega) gr.size, fun q hq hs => (gr.block q (by rw [nblk_alloc]; omega) (by simpa using hs)).trans (blk_alloc_lt _ _ _ hq)⟩
  obtain ⟨c1, e1⟩ := h.held.blk
  obtain ⟨c2, e2, hge⟩ := row_blk h.errs
  have n1 : g ≠ ge := fun e => ty_two e2 e1 (by decide) e.symm
  have n2 : w0.heap.size ≠ ge := ty_two h.db e2 (by decide)
  refine { h with i := hd.frame h.i k (fun q hq e => h.he (e ▸ hq)), held := h.held.frame k n1, errs := hr, he := ?_, db := (k.block _ (lt_of_some h.db) n2).trans h.db, on := ?_ }
  · rcases hat with e | e
    · rw [← e]; exact h.he
    · intro hc
      have := hd.lt h.i g' hc
      rw [nblk_alloc] at e
      omega
  · exact ⟨k.os.trans h.on.os, k.tape.trans h.on.tape, k.output.trans h.on.output, Nat.le_trans h.on.size k.size, fun q hq hs => (k.block q (Nat.lt_of_lt_of_le hq h.on.size) (by omega)).trans (h.on.block q hq hs)⟩
theorem SB.frame {S : Nat → Prop} (h : SB d w a sb st) (k : Only S w w') (hs : ¬ S sb) : SB d w' a sb st := ⟨(k.block _ (lt_of_some h.blk) hs).trans h.blk, h.no⟩
theorem infoEr : (Try.prog.info? 58).map (fun i => (i.zero, i.size, i.bytes)) = some (some (.int .i64 0), 1, 8) := by kernel_rfl
theorem append_err {w : World} {ops : Array Oper} {rest : List Oper} {o : Oper} {a : Act} {Q : Exit → Act → World → Prop} (hgd : o.guard = none) (s x : Operand)
    (ho : o.op = .call { callee := .builtin .append, args := #[s, x], argTypes := #[29, 29] }) (B g0 n c0 : Nat) (E : Nat → Int) (hs : a.eval s = .slice (some ⟨g0, 0, none⟩) n c0) (hown : w.ownsRow B 58 1 (.slice (some ⟨g0, 0, none⟩) n c0) n (rowE E n))
    (gx c : Nat) (u : Int) (hx : a.eval x = .slice (some ⟨gx, 0, none⟩) 1 c) (hu : w.cell? ⟨gx, 0, none⟩ = some (.int .i64 u)) (hn : n ≤ 1000000) (hB : B ≤ w.heap.size)
    (h : ∀ g cap w', w'.ownsRow B 58 1 (.slice (some ⟨g, 0, none⟩) (n + 1) cap) (n + 1) (rowE (putX E n u) (n + 1)) → w.grownBy w' (some g0) → (g0 = g ∨ g = w.heap.size) → wpList Try.prog ops Q rest (a.put o.dst (.slice (some ⟨g, 0, none⟩) (n + 1) cap)) w') : wpList Try.prog ops Q (o :: rest) a w := by
  obtain ⟨i0, hi, hz0, hz1, hz2⟩ := info_parts infoEr
  refine wpList_append_lies w hgd s x 29 ho B 58 i0 _ 1 8 Try.underlying29 hi hz0 hz1 hz2 rfl (by decide) _ n _ hs hown ⟨gx, 0, none⟩ 1 c [.int .i64 u] hx rfl ?_ ?_ (by omega) (by unfold maxLen; omega) (by omega) hB _ rfl ?_
  · intro j y hy
    match j, hy with
    | 0, hy => simp at hy; subst hy; exact hu
  · intro y hy; simp at hy; subst hy; rfl
  · intro g cap w' h1 h2 h3 _
    refine h g cap w' ?_ h2 (h3.imp (fun e => by simpa [Value.ownBlock] using e) id)
    have e1 : rowE (putX E n u) n = rowE E n := rowE_congr (fun i hi => by unfold putX; rw [if_neg (by omega)])
    have e2 : putX E n u n = u := by unfold putX; rw [if_pos rfl]
    rw [rowE_succ, e1, e2]
    exact h1
theorem SS4.frame (h : SS4 w al m c T) {S : Nat → Prop} (k : Only S w w') (hs : ∀ x, al = some x → 0 < m → ¬ S x.block) : SS4 w' al m c T := by
  refine ⟨h.nil, fun i hi => ?_, h.rng⟩
  obtain ⟨x, e, c1, c2, c3, c4⟩ := h.cell i hi
  have hl := cell_lt c1
  have hb : (x.add (i * 4)).block = x.block := add_block x (i * 4)
  have kb := k.block _ hl (by rw [hb]; exact hs x e (by omega))
  have cc : ∀ (o : Nat) (v : Value), w.cell? ⟨(x.add (i * 4)).block, o, none⟩ = some v → w'.cell? ⟨(x.add (i * 4)).block, o, none⟩ = some v := fun o v hv => (World.cell?_of_block (w := w) (a := ⟨(x.add (i * 4)).block, o, none⟩) kb).trans hv
  exact ⟨x, e, (World.cell?_of_block (w := w) kb).trans c1, cc _ _ c2, cc _ _ c3, cc _ _ c4⟩
end
end Go.Proofs.Ytjnlfnecmiklhaa
