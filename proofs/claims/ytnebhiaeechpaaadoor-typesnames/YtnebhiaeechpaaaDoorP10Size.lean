/-
 Layer 10: the program's size, vars, and whether a number is among others. Condition: the Table lies in memory.
-/
import Derived.Test.YtnebhiaeechpaaaDoorP10Vars
namespace Go.Proofs.YtnebhiaeechpaaaDoor
open Go.ChangeShapes Go.WideShapes Go.ChangeAt Go.RowKit Go.Deep
set_option linter.unusedVariables false
set_option linter.unusedSimpArgs false
set_option maxHeartbeats 4000000
set_option maxRecDepth 20000
def SizeAs (O : Nat → Prop) (tb q r K own : Nat) (hi : Int) (F : List Int) (R : Int → Ty) (d : Int → Nat) (σ : Int → Option Rw) (n : Nat) (w : World) (e : Ending) (w' : World) : Prop := ∃ (σ' : Int → Option Rw) (μ' : Int → Option Int) (nm' : Nat), e = .returned (.int .i64 (n : Int)) ∧ Cmp σ σ' ∧ PS F own σ' R d ∧ PT O w' tb q r K nm' own hi σ' μ' ∧ Only (Own3 tb q r) w w'
def VarsAs (O : Nat → Prop) (tb q r K own : Nat) (hi : Int) (F : List Int) (R : Int → Ty) (d : Int → Nat) (σ : Int → Option Rw) (t : Ty) (w : World) (e : Ending) (w' : World) : Prop := ∃ (σ' : Int → Option Rw) (μ' : Int → Option Int) (nm' : Nat) (v : Value) (l : List Int), e = .returned v ∧ Cmp σ σ' ∧ PS F own σ' R d ∧ PT O w' tb q r K nm' own hi σ' μ' ∧ IW w' w.heap.size v l ∧ Only (Own3 tb q r) w w' ∧ (∀ y, y ∈ l → 0 < y ∧ t.occ y.toNat) ∧ (∀ n : Nat, t.occ n → (n : Int) ∈ l) ∧ l.length ≤ 2000000000
section
variable {O : Nat → Prop} {tb q r K nm own : Nat} {hi : Int} {F : List Int} {R : Int → Ty} {d : Int → Nat} {σ : Int → Option Rw} {μ : Int → Option Int} {w : World}
theorem size_any (hK : K ≤ 1000000000) (h : PT O w tb q r K nm own hi σ μ) (hs : PS F own σ R d) {x : Rw} {ao : Option Addr} (c : Nat) (hx : x.ok (OkV F σ)) (hrt : RT (fun g => ¬ Own3 tb q r g) w x.L ao) {most : Nat} (hm : most ≤ 90000) : Calls Tryd.prog 30 #[.pointer (some ⟨tb, 0, none⟩), .agg #[.int .i64 x.V, .string ⟨x.S.toArray⟩, .slice ao x.L.length c], .int .i64 (most : Int)] w fun e w' => SizeAs O tb q r K own hi F R d σ (min (x.rs R).sz (most + 1)) w e w' := by
 have HS := hidden hs
 have HX := hidden hx
 have T0 := hidden (h.alloc (.cells #[.int .i64 x.V, .string ⟨x.S.toArray⟩, .slice ao x.L.length c] 24))
 have X0 := hidden (hrt.alloc (.cells #[.int .i64 x.V, .string ⟨x.S.toArray⟩, .slice ao x.L.length c] 24))
 have A0 := hidden (B3.new w x.V ⟨x.S.toArray⟩ (.slice ao x.L.length c))
 have L0 := hidden ((Only.refl (Own3 tb q r) w).alloc (.cells #[.int .i64 x.V, .string ⟨x.S.toArray⟩, .slice ao x.L.length c] 24))
 have HB : Hid (∀ g, O g ∨ Own3 tb q r g → g ≠ w.heap.size) := fun g hg => by have h9 := h.new hg; omega
 clear h hs hx hrt
 go_enter Tryd.func30, Tryd.ntmps30
 go_upto_region 1 with fail
 generalize w.alloc (.cells #[.int .i64 x.V, .string ⟨x.S.toArray⟩, .slice ao x.L.length c] 24) = w0 at *
 obtain ⟨w1, m1, m2, m3⟩ := T0.out.forget
 have T1 := hidden m2
 have A1 : Hid (B3 w1 w.heap.size x.V ⟨x.S.toArray⟩ (.slice ao x.L.length c)) := A0.out.keep (grown_keep m3 A0.out.lt (fun e => HB.out r (Or.inr (Or.inr (Or.inr rfl))) e.symm))
 have X1 : Hid (RT (fun g => ¬ Own3 tb q r g) w1 x.L ao) := X0.out.keep (fun g hg hl => grown_keep m3 hl (fun e => hg (Or.inr (Or.inr e))))
 have L1 := hidden (L0.out.trans (Only.grown m3 (Or.inr (Or.inr rfl))))
 obtain ⟨t0, t1, t2, t3, tf⟩ := T0.out.cells
 obtain ⟨a0, a1, a2, af⟩ := A1.out.cells
 have HN := hidden (nodes_any hK (2 * (x.rs R).sz + 1) σ (fun _ => none) 0 w1 x ao c (most + 1) (by omega) T1.out HS.out (fun v c h => by cases h) HX.out X1.out (by omega) (by omega) (by omega))
 have em : (((most + 1 : Nat)) : Int) = (most : Int) + 1 := by omega
 rw [em] at HN
 have z9 : (most : Int) < 9223372036854775807 := by omega
 clear m2 m3 t0 t1 t2 tf af em
 go_wp2_with fail
 refine HN.out.mono ?_
 rintro e w2 ⟨σ2, μ2, nm2, rfl, j1, j2, j3, j4, _, _⟩
 have J := hidden (And.intro j1 (And.intro j2 (And.intro j3 (L1.out.trans j4))))
 clear j1 j2 j3 j4
 go_wp2_with fail
 go_ret
 exact ⟨σ2, μ2, nm2, rfl, J.out.1, J.out.2.1, J.out.2.2.1, J.out.2.2.2⟩
theorem vars_any (hK : K ≤ 1000000000) (hF : F.length ≤ 1000000) (h : PT O w tb q r K nm own hi σ μ) (hs : PS F own σ R d) {x : Rw} {ao : Option Addr} (c : Nat) (hx : x.ok (OkV F σ)) (hsz : x.sz ≤ 2000000) (hrt : RT (fun g => ¬ Own3 tb q r g) w x.L ao) : Calls Tryd.prog 33 #[.pointer (some ⟨tb, 0, none⟩), .agg #[.int .i64 x.V, .string ⟨x.S.toArray⟩, .slice ao x.L.length c]] w fun e w' => VarsAs O tb q r K own hi F R d σ (x.rs R) w e w' := by
 have HS := hidden hs
 have HX := hidden hx
 have how := h.ow
 have T0 := hidden (h.alloc (.cells #[.int .i64 x.V, .string ⟨x.S.toArray⟩, .slice ao x.L.length c] 24))
 have X0 : Hid (RT (fun g => ¬ Own3 tb q r g ∧ g < w.heap.size) (w.alloc (.cells #[.int .i64 x.V, .string ⟨x.S.toArray⟩, .slice ao x.L.length c] 24)) x.L ao) := (hrt.mono (fun g hg hl => ⟨hg, hl⟩)).alloc _
 have A0 := hidden (B3.new w x.V ⟨x.S.toArray⟩ (.slice ao x.L.length c))
 have L0 := hidden ((Only.refl (Own3 tb q r) w).alloc (.cells #[.int .i64 x.V, .string ⟨x.S.toArray⟩, .slice ao x.L.length c] 24))
 have HB : Hid (∀ g, O g ∨ Own3 tb q r g → g < w.heap.size) := fun g hg => h.new hg
 clear h hs hx hrt
 go_enter Tryd.func33, Tryd.ntmps33
 go_upto_region 1 with fail
 generalize w.alloc (.cells #[.int .i64 x.V, .string ⟨x.S.toArray⟩, .slice ao x.L.length c] 24) = w0 at *
 obtain ⟨w1, m1, m2, m3⟩ := T0.out.forget
 have T1 := hidden m2
 have A1 : Hid (B3 w1 w.heap.size x.V ⟨x.S.toArray⟩ (.slice ao x.L.length c)) := A0.out.keep (grown_keep m3 A0.out.lt (fun e => by have h9 := HB.out r (Or.inr (Or.inr (Or.inr rfl))); omega))
 have X1 : Hid (RT (fun g => ¬ Own3 tb q r g ∧ g < w.heap.size) w1 x.L ao) := X0.out.keep (fun g hg hl => grown_keep m3 hl (fun e => hg.1 (Or.inr (Or.inr e))))
 have L1 := hidden (L0.out.trans (Only.grown m3 (Or.inr (Or.inr rfl))))
 obtain ⟨t0, t1, t2, t3, tf⟩ := T0.out.cells
 obtain ⟨a0, a1, a2, af⟩ := A1.out.cells
 have HN := hidden (others_any (B := w.heap.size) hK hF HB.out (2 * (x.rs R).sz + 1) σ (fun _ => none) 0 w1 x ao c (.slice none 0 0) [] (by omega) hsz T1.out HS.out HX.out X1.out (IW.nil _ _) ⟨Nat.zero_le _, Nat.le_refl _⟩ (fun u hu => absurd rfl hu) L1.out.size)
 clear m2 m3 t0 t1 t2 tf af
 go_wp2_with fail
 refine HN.out.mono ?_
 rintro e w2 ⟨σ2, μ2, nm2, v2, l2, rfl, j1, j2, j3, j4, j5, j6, j7, j8⟩
 have J5 : Hid (Only (Own3 tb q r) w w2) := L1.out.trans (j5.mono (fun g _ hg => by
  rcases hg with hg | hg
  ·exact hg
  ·cases hg))
 have hlt := j7.lt
 rw [allV_len] at hlt
 have hll := j7.2
 have J := hidden (And.intro j1 (And.intro j2 (And.intro j3 (And.intro j4 j8))))
 clear j1 j2 j3 j4 j5 j6 j7 j8
 go_wp2_with fail
 go_ret
 refine ⟨σ2, μ2, nm2, v2, l2, rfl, J.out.1, J.out.2.1, J.out.2.2.1, J.out.2.2.2.1, J5.out, fun y hy => ?_, J.out.2.2.2.2.all, by omega⟩
 rcases J.out.2.2.2.2.sound y hy with h9 | h9
 ·cases h9
 ·exact h9
theorem IW.at_ {B : Nat} {v : Value} {l : List Int} (h : IW w B v l) {i : Nat} {y : Int} (hy : l[i]? = some y) : ∃ g c, v = .slice (some ⟨g, 0, none⟩) l.length c ∧ w.cell? ⟨g, i, none⟩ = some (.int .i64 y) := by
 have hi := (List.getElem?_eq_some_iff.1 hy).1
 rcases h.2 with ⟨_, e⟩ | ⟨g, cap, cur, rfl, _, hg, _, _, hcs, ht⟩
 ·omega
 ·refine ⟨g, cap, rfl, ?_⟩
  have h1 : (l.map i64v)[i]? = some (i64v y) := by rw [List.getElem?_map, hy]; rfl
  rw [← ht, List.getElem?_take, if_pos (by omega)] at h1
  unfold World.cell?
  rw [hg]
  simp only [Array.getElem?_toList] at h1
  show cur[i]? = _
  exact h1
def InIx (l : List Int) (k : Int) (w : World) (iv : Value) (wr : World) : Prop := ∃ i : Nat, i ≤ l.length ∧ iv = .int .i64 (i : Int) ∧ wr = w ∧ ∀ j, j < i → l[j]? ≠ some k
theorem index_any {B : Nat} {v : Value} {l : List Int} (h : IW w B v l) (hl : l.length ≤ 2000000000) (k : Int) : Calls Tryd.prog 53 #[v, .int .i64 k] w fun e w' => (∃ i : Int, e = .returned (.int .i64 i) ∧ (0 ≤ i ↔ k ∈ l)) ∧ w' = w := by
 have H := hidden h
 obtain ⟨ao, c, rfl⟩ := h.slice
 clear h
 obtain ⟨n, hn⟩ : ∃ n, l.length = n := ⟨_, rfl⟩
 rw [hn] at hl ⊢
 have HN := hidden hn
 clear hn
 go_enter Tryd.func53, Tryd.ntmps53
 go_wp2_with fail
 go_loopw [8] (fun iv wr => InIx l k w iv wr) (fun iv wr => (n - intOf iv).toNat)
 case atStart => exact ⟨0, Nat.zero_le _, rfl, rfl, fun j hj => by omega⟩
 case round =>
  obtain ⟨i, i1, rfl, rfl, hj⟩ := hrel
  rw [HN.out] at i1
  have HJ := hidden hj
  clear hj
  by_cases hlt : i < n
  ·have z1 : (i : Int) < (n : Int) := by omega
   have zi : (0 : Int) ≤ (i : Int) ∧ (i : Int) < (n : Int) := ⟨by omega, z1⟩
   obtain ⟨y, hy⟩ : ∃ y, l[i]? = some y := ⟨_, List.getElem?_eq_getElem (by rw [HN.out]; exact hlt)⟩
   have HY := hidden hy
   obtain ⟨g, c9, e9, hc⟩ := H.out.at_ hy
   simp only [Value.slice.injEq] at e9
   obtain ⟨rfl, _, rfl⟩ := e9
   clear hy
   by_cases e : k = y
   ·have eb : (k == y) = true := by rw [e]; simp
    clear e
    go_wp2_with fail
    go_ret
    refine ⟨⟨i, rfl, ⟨fun _ => ?_, fun _ => by omega⟩⟩, rfl⟩
    have e : k = y := by simpa using eb
    rw [e]
    exact List.mem_of_getElem? HY.out
   ·have eb : (k == y) = false := beq_eq_false_iff_ne.2 e
    have HE := hidden e
    clear e
    go_wp2_with fail
    go_roundw
    case rel =>
     refine ⟨i + 1, by rw [HN.out]; omega, by go_num, rfl, fun j hj => ?_⟩
     by_cases c : j = i
     ·rw [c, HY.out]
      exact fun e => HE.out (Option.some.inj e).symm
     ·exact HJ.out j (by omega)
    case measure => simp [intOf]; omega
  ·have z1 : ¬ (i : Int) < (n : Int) := by omega
   go_wp2_with fail
   go_ret
   refine ⟨⟨-1, rfl, ⟨fun h => by omega, fun h => ?_⟩⟩, rfl⟩
   obtain ⟨j, hj1, hj2⟩ := List.getElem_of_mem h
   exact absurd (by rw [List.getElem?_eq_getElem hj1, hj2]) (HJ.out j (by have h9 := HN.out; omega))
theorem contains_any {B : Nat} {v : Value} {l : List Int} (h : IW w B v l) (hl : l.length ≤ 2000000000) (k : Int) : Calls Tryd.prog 49 #[v, .int .i64 k] w fun e w' => (∃ b : Bool, e = .returned (.bool b) ∧ (b = true ↔ k ∈ l)) ∧ w' = w := by
 have H := hidden (index_any h hl k)
 obtain ⟨ao, c, rfl⟩ := h.slice
 clear h
 go_enter Tryd.func49, Tryd.ntmps49
 go_wp2_with fail
 refine H.out.mono ?_
 rintro e w1 ⟨⟨i, rfl, hi⟩, rfl⟩
 have HI := hidden hi
 clear hi
 go_wp2_with fail
 go_ret
 exact ⟨⟨_, rfl, by simp; exact HI.out⟩, rfl⟩
end
end Go.Proofs.YtnebhiaeechpaaaDoor
