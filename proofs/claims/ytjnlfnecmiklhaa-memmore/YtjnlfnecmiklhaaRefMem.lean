/-
  How the document's own arena lies in memory: one block of three cells; a row of blocks of three cells each; a row of words for each block's fields. No program is named here but by its types' numbers.
-/
import Derived.Test.YtjnlfnecmiklhaaPlainStep
import Derived.Test.YtjnlfnecmiklhaaOwn
namespace Go.Proofs.Ytjnlfnecmiklhaa
open Go.RowKit Go.Deep
set_option linter.unusedVariables false

/-- A slice value holds the words F, in a row from block B on. -/
def FieldOf (w : World) (B : Nat) (v : Value) (F : List Int) : Prop :=
  ∃ (a : Option Addr) (cap : Nat), v = .slice a F.length cap ∧ (a = none → F.length = 0 ∧ cap = 0) ∧ ∀ ad, a = some ad → ∃ g, ad = ⟨g, 0, none⟩ ∧ B ≤ g ∧ Own w g F.length (fun i => F.getD i 0)
/-- A slice value holds the blocks L, in a row from block B on. -/
def BlocksOf (w : World) (B : Nat) (a : Option Addr) (cap : Nat) (L : List Blk) (V : Nat → Value) : Prop :=
  (a = none → L.length = 0 ∧ cap = 0) ∧ L.length ≤ cap ∧ cap ≤ maxLen ∧
  ∀ ad, a = some ad → ∃ (g : Nat) (cur : Array Value), ad = ⟨g, 0, none⟩ ∧ B ≤ g ∧ w.heap[g]? = some (.cells cur 57 (0, 0)) ∧ cur.size = cap * 3 ∧
    ∀ i b, L[i]? = some b → cur[i * 3]? = some (.int .i64 b.ad) ∧ cur[i * 3 + 1]? = some (.int .i64 b.tag) ∧ cur[i * 3 + 2]? = some (V i) ∧ FieldOf w B (V i) b.F
structure Rf (w : World) (rb : Nat) (r : RS) (a : Option Addr) (cap : Nat) (V : Nat → Value) : Prop where
  hr : w.heap[rb]? = some (.cells #[.int .i64 r.n, .int .i64 r.which, .slice a r.L.length cap] 52 (0, 0))
  hl : BlocksOf w (rb + 1) a cap r.L V

theorem FieldOf.frame {w w' : World} {B : Nat} {v : Value} {F : List Int} {S : Nat → Prop} (h : FieldOf w B v F) (k : Only S w w') (hs : ∀ g, B ≤ g → w.heap.size ≤ g ∨ ¬ S g) : FieldOf w' B v F := by
  obtain ⟨a, cap, e, hn, hc⟩ := h
  refine ⟨a, cap, e, hn, fun ad had => ?_⟩
  obtain ⟨g, e2, hb, ho⟩ := hc ad had
  have := ho.lt
  exact ⟨g, e2, hb, ho.frame k (by rcases hs g hb with h | h; omega; exact h)⟩
theorem Rf.frame {w w' : World} {rb : Nat} {r : RS} {a : Option Addr} {cap : Nat} {V : Nat → Value} {S : Nat → Prop} (h : Rf w rb r a cap V) (k : Only S w w') (hs : ∀ g, rb ≤ g → ¬ S g) : Rf w' rb r a cap V := by
  refine ⟨(k.block _ (lt_of_some h.hr) (hs _ (Nat.le_refl _))).trans h.hr, h.hl.1, h.hl.2.1, h.hl.2.2.1, fun ad had => ?_⟩
  obtain ⟨g, cur, e, hb, hg, hc, hcell⟩ := h.hl.2.2.2 ad had
  refine ⟨g, cur, e, hb, (k.block _ (lt_of_some hg) (hs _ (by omega))).trans hg, hc, fun i b hib => ?_⟩
  obtain ⟨c1, c2, c3, c4⟩ := hcell i b hib
  exact ⟨c1, c2, c3, c4.frame k (fun g hg => Or.inr (hs g (by omega)))⟩
theorem Rf.drewN {w : World} {rb : Nat} {r : RS} {a : Option Addr} {cap : Nat} {V : Nat → Value} (h : Rf w rb r a cap V) (n : Nat) : Rf (w.drewN n) rb r a cap V := ⟨h.hr, h.hl⟩
theorem Rf.cells {w : World} {rb : Nat} {r : RS} {a : Option Addr} {cap : Nat} {V : Nat → Value} (h : Rf w rb r a cap V) :
    w.cell? ⟨rb, 0, none⟩ = some (.int .i64 r.n) ∧ w.cell? ⟨rb, 1, none⟩ = some (.int .i64 r.which) ∧ w.cell? ⟨rb, 2, none⟩ = some (.slice a r.L.length cap) ∧ (∀ o, w.frozen? ⟨rb, o, none⟩ = false) := by
  simp [World.cell?, World.frozen?, h.hr]
/-- Where block i of the list lies. -/
theorem Rf.row {w : World} {rb : Nat} {r : RS} {a : Option Addr} {cap : Nat} {V : Nat → Value} (h : Rf w rb r a cap V) (hL : r.L.length ≠ 0) : ∃ g, a = some ⟨g, 0, none⟩ ∧ rb < g ∧ g < w.heap.size ∧ (∀ o, w.frozen? ⟨g, o, none⟩ = false) ∧
    ∀ i b, r.L[i]? = some b → w.cell? ⟨g, i * 3, none⟩ = some (.int .i64 b.ad) ∧ w.cell? ⟨g, i * 3 + 1, none⟩ = some (.int .i64 b.tag) ∧ w.cell? ⟨g, i * 3 + 2, none⟩ = some (V i) ∧ FieldOf w (rb + 1) (V i) b.F := by
  cases a with
  | none => exact absurd (h.hl.1 rfl).1 hL
  | some ad =>
    obtain ⟨g, cur, rfl, hb, hg, hc, hcell⟩ := h.hl.2.2.2 ad rfl
    refine ⟨g, rfl, by omega, lt_of_some hg, fun o => by simp [World.frozen?, hg], fun i b hib => ?_⟩
    obtain ⟨c1, c2, c3, c4⟩ := hcell i b hib
    refine ⟨?_, ?_, ?_, c4⟩ <;> simp [World.cell?, *]
/-- Each block's row of fields is one that was there, or a new one. -/
def Fresh (B m : Nat) (V : Nat → Value) (m' : Nat) (V' : Nat → Value) : Prop := ∀ i, i < m' → (i < m ∧ V' i = V i) ∨ ∀ ad n c, V' i = .slice (some ad) n c → B ≤ ad.block
theorem Fresh.refl (B m : Nat) (V : Nat → Value) : Fresh B m V m V := fun i hi => Or.inl ⟨hi, rfl⟩
theorem Fresh.mono {B B' m : Nat} {V : Nat → Value} {m' : Nat} {V' : Nat → Value} (h : Fresh B m V m' V') (hb : B' ≤ B) : Fresh B' m V m' V' := by
  intro i hi
  rcases h i hi with h1 | h1
  · exact Or.inl h1
  · exact Or.inr (fun ad n c e => Nat.le_trans hb (h1 ad n c e))
end Go.Proofs.Ytjnlfnecmiklhaa
