/-
 Layer 10: the program's shorten and name, of whatever type. Condition: the Table lies in memory.
-/
import Derived.Test.YtnebhiaeechpaaaDoorP10Learn
import Derived.Test.YtnebhiaeechpaaaDoorX10Sub
namespace Go.Proofs.YtnebhiaeechpaaaDoor
open Go.ChangeShapes Go.WideShapes Go.ChangeAt Go.RowKit Go.Deep
set_option linter.unusedVariables false
set_option linter.unusedSimpArgs false
set_option maxHeartbeats 1000000
/-- What shorten tells, of any type. -/
def ShAs (P O : Nat → Prop) (tb q r K nm own : Nat) (hi : Int) (F : List Int) (R : Int → Ty) (d : Int → Nat) (σ : Int → Option Rw) (μ : Int → Option Int) (x : Rw) (w : World) (e : Ending) (w' : World) : Prop := ∃ (y : Rw) (ao : Option Addr) (c : Nat) (σ' : Int → Option Rw), e = .returned (.agg #[.int .i64 y.V, .string ⟨y.S.toArray⟩, .slice ao y.L.length c]) ∧ y.ok (OkV F σ') ∧ y.rs R = x.rs R ∧ y.sz ≤ x.sz ∧ y.S.length ≤ maxLen ∧ (y.V ≠ 0 → End σ' y.V ∧ ao = none ∧ c = 0) ∧ RT P w' y.L ao ∧ Cmp σ σ' ∧ PS F own σ' R d ∧ PT O w' tb q r K nm own hi σ' μ ∧ Only (Own3 tb q r) w w' ∧ (y.V = 0 → y = x)
/-- What name tells of something shortened that is a name. -/
def NmAs (O : Nat → Prop) (tb q r : Nat) (F : List Int) (R : Int → Ty) (σ : Int → Option Rw) (y : Rw) (w : World) (e : Ending) (w' : World) : Prop := ∃ (S : List UInt8) (L : List Rw) (ao : Option Addr) (c : Nat), e = .returned (.tuple #[.agg #[.int .i64 0, .string ⟨S.toArray⟩, .slice ao L.length c], .bool true]) ∧ y.rs R = .c S (rsL R L) ∧ okL (OkV F σ) L ∧ (∀ t, t ∈ L → t.sz ≤ 1000) ∧ L.length ≤ 1000000 ∧ S.length ≤ maxLen ∧ RT (fun g => ¬ Own3 tb q r g) w' L ao ∧ Below w.heap.size w w' ∧ (y.V ≠ 0 → σ y.V = some (.mk 0 S L)) ∧ (y.V = 0 → y = .mk 0 S L)
section
variable {O : Nat → Prop} {tb q r K nm own : Nat} {hi : Int} {F : List Int} {R : Int → Ty} {d : Int → Nat} {σ : Int → Option Rw} {μ : Int → Option Int} {w : World}
theorem short_any {P : Nat → Prop} (hP : ∀ g, P g → ¬ Own3 tb q r g) (hK : K ≤ 1000000000) (h : PT O w tb q r K nm own hi σ μ) (hs : PS F own σ R d) {x : Rw} {ao : Option Addr} (c : Nat) (hx : x.ok (OkV F σ)) (hsl : x.S.length ≤ maxLen) (hrt : RT P w x.L ao) : Calls Tryd.prog 39 #[.pointer (some ⟨tb, 0, none⟩), .agg #[.int .i64 x.V, .string ⟨x.S.toArray⟩, .slice ao x.L.length c]] w fun e w' => ShAs P O tb q r K nm own hi F R d σ μ x w e w' := by
 by_cases hv : x.V = 0
 ·have h1 := short_name (tb := tb) (w := w) ⟨x.S.toArray⟩ (.slice ao x.L.length c) ⟨_, _, _, rfl⟩
  rw [← hv] at h1
  refine h1.mono ?_
  rintro e w1 ⟨rfl, hb⟩
  exact ⟨x, ao, c, σ, rfl, hx, rfl, Nat.le_refl _, hsl, (fun h => absurd hv h), hrt.beneath hb (Nat.le_refl _), Cmp.refl σ, hs, h.below hb (Nat.le_refl _), Only.of_below hb, fun _ => rfl⟩
 ·obtain ⟨k1, k2⟩ := ok_var hx hv
  have h1 := short_var hK h hs k1 ⟨x.S.toArray⟩ (.slice ao x.L.length c) ⟨_, _, _, rfl⟩
  refine h1.mono ?_
  rintro e w1 ⟨u, σ', rfl, g1, g2, g3, g4, g5, g6, g7⟩
  have hu := g5.nz g1
  refine ⟨.mk u [] [], none, 0, σ', rfl, ok_mk hu g1, ?_, ?_, Nat.zero_le _, fun _ => ⟨g2, rfl, rfl⟩, rt_nil, g4, g5, g6, g7, fun h => absurd h hu⟩
  ·rw [rs_var R (x := .mk u [] []) hu, rs_var R hv]
   exact g3
  ·rw [sz_L x]
   simp [Rw.sz, szRL]
theorem name_some (h : PT O w tb q r K nm own hi σ μ) (hs : PS F own σ R d) (hK : K ≤ 1000000000) {y : Rw} {ao : Option Addr} (c : Nat) (hy : y.ok (OkV F σ)) (hsz : y.sz ≤ 1000) (hsl : y.S.length ≤ maxLen) (he : y.V ≠ 0 → End σ y.V) (hn : y.V ≠ 0 → σ y.V ≠ none) (hrt : RT (fun g => ¬ Own3 tb q r g) w y.L ao) : Calls Tryd.prog 40 #[.pointer (some ⟨tb, 0, none⟩), .agg #[.int .i64 y.V, .string ⟨y.S.toArray⟩, .slice ao y.L.length c]] w fun e w' => NmAs O tb q r F R σ y w e w' := by
 by_cases hv : y.V = 0
 ·have h1 := name_name (tb := tb) (w := w) ⟨y.S.toArray⟩ (.slice ao y.L.length c) ⟨_, _, _, rfl⟩
  have h2 := ok_name hy hv
  have h3 := rs_name R hv
  rw [← hv] at h1
  refine h1.mono ?_
  rintro e w1 ⟨rfl, hb⟩
  rw [sz_L] at hsz
  have hl := len_szRL y.L
  refine ⟨y.S, y.L, ao, c, by rw [hv], h3, h2, fun t ht => by have := sz_part ht; omega, by omega, hsl, hrt.beneath hb (Nat.le_refl _), hb, fun h => absurd hv h, fun _ => ?_⟩
  obtain ⟨V, S, L⟩ := y
  have hv' : V = 0 := hv
  subst hv'
  rfl
 ·obtain ⟨k1, k2⟩ := ok_var hy hv
  have hr := hs.rng k1
  have how := h.ow
  rcases hs.at_end k1 (he hv) with ⟨z1, _⟩ | ⟨z, z1, z2, z3, z4⟩
  ·exact absurd z1 (hn hv)
  ·obtain ⟨V2, S, L⟩ := z
   have z2' : V2 = 0 := z2
   subst z2'
   obtain ⟨qa, _, qb, qc⟩ := hs.name y.V _ z1 rfl
   refine (name_yes h (by omega) hv z1 ⟨y.S.toArray⟩ (.slice ao y.L.length c) ⟨_, _, _, rfl⟩).mono ?_
   rintro e w1 ⟨al, cp, rfl, hr2, _, hb⟩
   refine ⟨S, L, al, cp, rfl, ?_, z4, fun t ht => ?_, qb, qc, RT.mono (show RT O w1 L al from hr2) (fun g hg _ e => ?_), hb, fun _ => z1, fun h => absurd h hv⟩
   ·rw [rs_var R hv]
    exact z3
   ·rw [(qa t ht).1]
    simp [Rw.sz, szRL]
   ·have h9 := h.ap g hg
    rcases e with e | e | e
    ·exact h9.1 e
    ·exact h9.2.1 e
    ·exact h9.2.2.1 e
end
end Go.Proofs.YtnebhiaeechpaaaDoor
