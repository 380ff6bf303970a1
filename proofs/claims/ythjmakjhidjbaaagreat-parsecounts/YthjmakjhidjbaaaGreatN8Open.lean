/-
 Layer 8: a Node that came in, as its cells hold it, to any depth; and the document's Count over it: the tree, if it is no greater than asked. No condition but that it is read.
-/
import Derived.Test.YthjmakjhidjbaaaGreatG8Cnt
import Derived.Deep.Slices
import Derived.OpenShut
namespace Go.Proofs.YthjmakjhidjbaaaGreat
open Go.ChangeShapes Go.WideShapes Go.ChangeAt Go.RowKit Go.Deep
set_option linter.unusedVariables false
set_option linter.unusedSimpArgs false
set_option maxHeartbeats 2000000
theorem cellsN8 : Tryz.prog.cellsOf 25 = 5 := by kernel_rfl
theorem cellsI8 : Tryz.prog.cellsOf 3 = 1 := by kernel_rfl
theorem cellsL8 : Tryz.prog.cellsOf 2 = 1 := by kernel_rfl
theorem cellsS8 : Tryz.prog.cellsOf 9 = 1 := by kernel_rfl
theorem cellsNs8 : Tryz.prog.cellsOf 23 = 1 := by kernel_rfl
theorem add_pos8 (y : Addr) (j : Nat) : y.add (j + 1) = ⟨y.block, y.off + (j + 1), none⟩ := by
 unfold Addr.add; rw [if_neg (by omega)]
/-- A Node's five cells, and those of its parts, to a depth. -/
def NOk (w : World) : Nat → List Value → Prop
 | 0, _ => True
 | d + 1, cs => ∃ (k p n : Int) (s : ByteArray) (al : Option Addr) (len cap : Nat), cs = [.int .i64 k, .int .i64 p, .int .i64 n, .string s, .slice al len cap] ∧ len ≤ maxLen ∧
   ∀ i, i < len → ∃ (a : Addr) (c0 c1 c2 c3 c4 : Value), al = some a ∧ w.cell? (a.add (i * 5)) = some c0 ∧ w.cell? ⟨(a.add (i * 5)).block, (a.add (i * 5)).off + 1, none⟩ = some c1 ∧ w.cell? ⟨(a.add (i * 5)).block, (a.add (i * 5)).off + 2, none⟩ = some c2 ∧ w.cell? ⟨(a.add (i * 5)).block, (a.add (i * 5)).off + 3, none⟩ = some c3 ∧ w.cell? ⟨(a.add (i * 5)).block, (a.add (i * 5)).off + 4, none⟩ = some c4 ∧ NOk w d [c0, c1, c2, c3, c4]
set_option maxRecDepth 100000 in
theorem node_open {H : Type} {enc : TypeId × Value → H} {w : World} {base : Nat} {spare : Nat → Bool} {held : Bool} : ∀ (d : Nat) {fuel : Nat} {cs : List Value} {x : DataW H × List MemPlace}, DataW.trod enc Tryz.prog w base spare held fuel 25 cs = some x → NOk w d cs
 | 0, _, _, _, _ => trivial
 | d + 1, fuel, cs, x, h => by
  obtain ⟨xs, n', _, _, hlen, hxl, hf⟩ := DataW.trod_struct Tryz.underlying25 h
  rw [cellsN8] at hlen
  match cs, hlen with
  | [c0, c1, c2, c3, c4], _ =>
   have f0 := hf 0 _ rfl
   have f1 := hf 1 _ rfl
   have f2 := hf 2 _ rfl
   have f3 := hf 3 _ rfl
   have f4 := hf 4 _ rfl
   have hs : xs.length = 5 := hxl
   rw [List.getElem?_eq_getElem (by omega)] at f0 f1 f2 f3 f4
   obtain ⟨z0, e0, _, w0⟩ := DataW.trod_int Tryz.underlying3 f0
   obtain ⟨z1, e1, _, w1⟩ := DataW.trod_int Tryz.underlying3 f1
   obtain ⟨z2, e2, _, w2⟩ := DataW.trod_int Tryz.underlying2 f2
   obtain ⟨z3, e3, _, w3⟩ := DataW.trod_string Tryz.underlying9 f3
   obtain rfl : c0 = .int .i64 z0 := by simpa [cellsI8] using e0
   obtain rfl : c1 = .int .i64 z1 := by simpa [cellsI8] using e1
   obtain rfl : c2 = .int .i64 z2 := by simpa [cellsL8] using e2
   obtain rfl : c3 = .string z3 := by simpa [cellsS8] using e3
   rcases open_slice Tryz.underlying23 f4 with ⟨hcs, _⟩ | ⟨a, l, c, m, n, D, Pl, hcs, _, hl, hm, hmm, _, hx⟩
   ·obtain rfl : c4 = .slice none 0 0 := by simpa [cellsNs8] using hcs
    exact ⟨z0, z1, z2, z3, none, 0, 0, rfl, Nat.zero_le _, fun i hi => absurd hi (Nat.not_lt_zero _)⟩
   ·obtain rfl : c4 = .slice (some a) l c := by simpa [cellsNs8] using hcs
    have hlm : l ≤ m := by rw [hmm]; split <;> omega
    refine ⟨z0, z1, z2, z3, some a, l, c, rfl, by omega, fun i hi => ?_⟩
    obtain ⟨cs', h1, h2⟩ := hx i (by omega)
    rw [cellsN8] at h1
    obtain ⟨_, hlen', hcell⟩ := World.cells?_some h1
    match cs', hlen' with
    | [d0, d1, d2, d3, d4], _ =>
     have k0 := hcell 0 (by omega)
     have k1 := hcell 1 (by omega)
     have k2 := hcell 2 (by omega)
     have k3 := hcell 3 (by omega)
     have k4 := hcell 4 (by omega)
     rw [add_pos8] at k1 k2 k3 k4
     exact ⟨a, d0, d1, d2, d3, d4, rfl, k0, k1, k2, k3, k4, node_open d h2⟩
theorem NOk.below {w w' : World} (k : Below w.heap.size w w') : ∀ (d : Nat) {cs : List Value}, NOk w d cs → NOk w' d cs
 | 0, _, _ => trivial
 | d + 1, cs, h => by
  obtain ⟨a1, a2, a3, a4, a5, a6, a7, e, h1, h2⟩ := h
  refine ⟨a1, a2, a3, a4, a5, a6, a7, e, h1, fun i hi => ?_⟩
  obtain ⟨a, c0, c1, c2, c3, c4, q0, q1, q2, q3, q4, q5, q6⟩ := h2 i hi
  have hb := k.block _ (cell_ltA q1)
  have hc : ∀ o, w'.cell? ⟨(a.add (i * 5)).block, o, none⟩ = w.cell? ⟨(a.add (i * 5)).block, o, none⟩ := fun o => World.cell?_of_block (a := ⟨(a.add (i * 5)).block, o, none⟩) hb
  have hc0 : w'.cell? (a.add (i * 5)) = w.cell? (a.add (i * 5)) := World.cell?_of_block (a := a.add (i * 5)) hb
  exact ⟨a, c0, c1, c2, c3, c4, q0, by rw [hc0]; exact q1, by rw [hc]; exact q2, by rw [hc]; exact q3, by rw [hc]; exact q4, by rw [hc]; exact q5, NOk.below k d q6⟩
theorem NOk.mono {w : World} : ∀ {d d' : Nat} {cs : List Value}, d' ≤ d → NOk w d cs → NOk w d' cs
 | _, 0, _, _, _ => trivial
 | 0, d' + 1, _, h, _ => by omega
 | d + 1, d' + 1, cs, h, hn => by
  obtain ⟨a1, a2, a3, a4, a5, a6, a7, e, h1, h2⟩ := hn
  refine ⟨a1, a2, a3, a4, a5, a6, a7, e, h1, fun i hi => ?_⟩
  obtain ⟨a, c0, c1, c2, c3, c4, q0, q1, q2, q3, q4, q5, q6⟩ := h2 i hi
  exact ⟨a, c0, c1, c2, c3, c4, q0, q1, q2, q3, q4, q5, NOk.mono (by omega) q6⟩
/-- Any number as a place's. -/
def fz (n : Nat) : Int := if n % 2 = 0 then ((n / 2 : Nat) : Int) else -((n / 2 : Nat) : Int) - 1
def ez (z : Int) : Nat := if 0 ≤ z then 2 * z.toNat else 2 * (-z - 1).toNat + 1
theorem fz_ez (z : Int) : fz (ez z) = z := by
 unfold fz ez
 split <;> split <;> omega
/-- One part more. -/
theorem RG.snoc {f : Nat → Int} {w : World} {T : List Tr} {a : Addr} {t : Tr} {al : Option Addr} {cp : Nat} (h : RG f w T (some a)) (h0 : w.cell? (a.add (T.length * 5)) = some (.int .i64 t.kind)) (h1 : w.cell? ⟨(a.add (T.length * 5)).block, (a.add (T.length * 5)).off + 1, none⟩ = some (.int .i64 (f t.pl))) (h2 : w.cell? ⟨(a.add (T.length * 5)).block, (a.add (T.length * 5)).off + 2, none⟩ = some (.int .i64 t.N)) (h3 : w.cell? ⟨(a.add (T.length * 5)).block, (a.add (T.length * 5)).off + 3, none⟩ = some (.string ⟨t.S.toArray⟩)) (h4 : w.cell? ⟨(a.add (T.length * 5)).block, (a.add (T.length * 5)).off + 4, none⟩ = some (.slice al t.L.length cp)) (ht : RG f w t.L al) : RG f w (T ++ [t]) (some a) := by
 obtain ⟨aos, cps, hh, hr⟩ := h
 refine .mk (fun k => if k < T.length then aos k else al) (fun k => if k < T.length then cps k else cp) (fun k u hk => ?_) (fun k u hk => ?_)
 ·by_cases c : k < T.length
  ·rw [List.getElem?_append_left c] at hk
   simp only [if_pos c]
   exact hh k u hk
  ·rw [List.getElem?_append_right (by omega)] at hk
   obtain ⟨hk1, hk2⟩ := List.getElem?_eq_some_iff.1 hk
   simp only [List.length_cons, List.length_nil] at hk1
   obtain rfl : k = T.length := by omega
   simp at hk2
   subst hk2
   simp only [if_neg c]
   exact ⟨a, rfl, trivial, h0, h1, h2, h3, h4⟩
 ·by_cases c : k < T.length
  ·rw [List.getElem?_append_left c] at hk
   simp only [if_pos c]
   exact hr k u hk
  ·rw [List.getElem?_append_right (by omega)] at hk
   obtain ⟨hk1, hk2⟩ := List.getElem?_eq_some_iff.1 hk
   simp only [List.length_cons, List.length_nil] at hk1
   obtain rfl : k = T.length := by omega
   simp at hk2
   subst hk2
   simp only [if_neg c]
   exact ht
theorem cntL_add : ∀ (L : List Tr) (t : Tr), cntL (L ++ [t]) = cntL L + t.cnt := cntL_snoc
/-- What Count tells: the tree, or that it is too great. -/
def CntAs (al : Option Addr) (len m : Nat) (w : World) (e : Ending) (w' : World) : Prop := Below w.heap.size w w' ∧ ((∃ L : List Tr, L.length = len ∧ RG fz w' L al ∧ 1 + cntL L ≤ m ∧ e = .returned (.int .i64 ((1 + cntL L : Nat) : Int))) ∨ e = .returned (.int .i64 ((m : Int) + 1)))
/-- How it stands while parts are counted. -/
def InCt (al : Option Addr) (len m : Nat) (w0 : World) (mv iv : Value) (wr : World) : Prop := ∃ (i : Nat), i ≤ len ∧ iv = .int .i64 (i : Int) ∧ Below w0.heap.size w0 wr ∧ ((∃ T : List Tr, T.length = i ∧ RG fz wr T al ∧ 1 + cntL T ≤ m ∧ mv = .int .i64 ((1 + cntL T : Nat) : Int)) ∨ mv = .int .i64 ((m : Int) + 1))
theorem rg_nil {f : Nat → Int} {w : World} {al : Option Addr} : RG f w [] al := .mk (fun _ => none) (fun _ => 0) (fun k t h => by simp at h) (fun k t h => by simp at h)
set_option maxRecDepth 20000 in
theorem rcount_gen : ∀ (n m : Nat), m < n → m ≤ 20000 → ∀ (w : World) (k p N : Int) (s : ByteArray) (al : Option Addr) (len cap : Nat), NOk w (m + 1) [.int .i64 k, .int .i64 p, .int .i64 N, .string s, .slice al len cap] →
  Calls Tryz.prog 13 #[.agg #[.int .i64 k, .int .i64 p, .int .i64 N, .string s, .slice al len cap], .int .i64 (m : Int)] w fun e w' => CntAs al len m w e w' := by
 intro n
 induction n with
 | zero => intro m h; omega
 | succ n ih =>
  intro m hmn hm w k p N s al len cap hok
  have IH := hidden ih
  obtain ⟨k', p', N', s', al', len', cap', hcs, hlen, hparts⟩ := hok
  simp only [List.cons.injEq, Value.int.injEq, Value.string.injEq, Value.slice.injEq, true_and, and_true] at hcs
  obtain ⟨rfl, rfl, rfl, rfl, rfl, rfl, rfl⟩ := hcs
  have HP := hidden hparts
  clear ih hparts
  have zl : (len : Int) ≤ 9223372036854775807 := by unfold maxLen at hlen; omega
  go_enter Tryz.func13, Tryz.ntmps13
  go_wp2_with fail
  have A0 := hidden (B5.new w k p N s (.slice al len cap))
  have D0 := hidden ((Below.refl w.heap.size w).alloc (Nat.le_refl _) (.cells #[.int .i64 k, .int .i64 p, .int .i64 N, .string s, .slice al len cap] 25))
  generalize w.alloc (.cells #[.int .i64 k, .int .i64 p, .int .i64 N, .string s, .slice al len cap] 25) = w0 at *
  go_loopw [5, 6] (fun mv iv wr => InCt al len m w0 mv iv wr) (fun mv iv wr => (len - intOf iv).toNat)
  case atStart =>
   refine ⟨0, by omega, rfl, Below.refl _ _, ?_⟩
   rcases Nat.eq_zero_or_pos m with h | h
   ·subst h
    exact Or.inr rfl
   ·exact Or.inl ⟨[], rfl, rg_nil, by simp only [cntL]; omega, rfl⟩
  case round =>
   obtain ⟨i, i1, rfl, hbl, hT⟩ := hrel
   have BL := hidden hbl
   have hd := D0.out.size
   have he := hbl.size
   have A1 := hidden (A0.out.below hbl (Nat.le_refl _))
   have BW := hidden (D0.out.trans (hbl.mono hd))
   clear hbl
   obtain ⟨a0, a1, a2, a3, a4, af⟩ := A1.out.cells
   clear a0 a1 a2 a3 af
   rcases hT with ⟨T, hTl, hTr, hTc, rfl⟩ | rfl
   ·have HTr := hidden hTr
    have HTl := hidden hTl
    obtain ⟨ct, hct⟩ : ∃ ct, 1 + cntL T = ct := ⟨_, rfl⟩
    rw [hct] at hTc ⊢
    have HCT := hidden hct
    have hc1 : 1 ≤ ct := by omega
    have zq : (ct : Int) ≤ (m : Int) := by omega
    have zq2 : ¬ (m : Int) < (ct : Int) := by omega
    clear hTr hTl hct
    by_cases hlt : i < len
    ·have z1 : (i : Int) < (len : Int) := by omega
     have zi : (0 : Int) ≤ (i : Int) ∧ (i : Int) < (len : Int) := ⟨by omega, z1⟩
     obtain ⟨a, c0, c1, c2, c3, c4, rfl, q1, q2, q3, q4, q5, q6⟩ := HP.out i hlt
     have Q6 := hidden (NOk.below BW.out m q6)
     have hb := BW.out.block _ (cell_ltA q1)
     have hc : ∀ o, wr.cell? ⟨(a.add (i * 5)).block, o, none⟩ = w.cell? ⟨(a.add (i * 5)).block, o, none⟩ := fun o => World.cell?_of_block (a := ⟨(a.add (i * 5)).block, o, none⟩) hb
     have hc0 : wr.cell? (a.add (i * 5)) = w.cell? (a.add (i * 5)) := World.cell?_of_block (a := a.add (i * 5)) hb
     rw [← hc0] at q1
     rw [← hc] at q2 q3 q4 q5
     obtain ⟨m1, hm1⟩ : ∃ m1, m = m1 + 1 := ⟨m - 1, by omega⟩
     have q7 := q6
     rw [hm1] at q7
     obtain ⟨k2, p2, N2, s2, al2, len2, cap2, hcs, _, _⟩ := q7
     simp only [List.cons.injEq, and_true] at hcs
     obtain ⟨rfl, rfl, rfl, rfl, rfl⟩ := hcs
     obtain ⟨m', hm'⟩ : ∃ m' : Nat, m = ct + m' := ⟨m - ct, by omega⟩
     have em : ((m' : Nat) : Int) = (m : Int) - (ct : Int) := by omega
     have HI := hidden (IH.out m' (by omega) (by omega) wr k2 p2 N2 s2 al2 len2 cap2 (NOk.mono (d := m) (by omega) Q6.out))
     rw [em] at HI
     have hm2 : m' ≤ 20000 := by omega
     have Q1 := hidden q1
     have Q2 := hidden q2
     have Q3 := hidden q3
     have Q4 := hidden q4
     have Q5 := hidden q5
     have HM := hidden hm'
     have EM := hidden em
     clear q6 hb hc hc0 hm1 hm' em Q6
     go_wp2_with fail
     refine HI.out.mono ?_
     rintro e w6 ⟨hb6, ⟨L', hl1, hl2, hl3, rfl⟩ | rfl⟩
     ·have B6 := hidden hb6
      have HL2 := hidden hl2
      have HL1 := hidden hl1
      obtain ⟨c2, hc2⟩ : ∃ c2, 1 + cntL L' = c2 := ⟨_, rfl⟩
      rw [hc2] at hl3 ⊢
      have HC2 := hidden hc2
      clear hb6 hl2 hl1 hc2 q1 q2 q3 q4 q5
      go_wp2_with fail
      go_roundw
      case rel =>
       have k1 : (a.add (i * 5)).block < wr.heap.size := cell_ltA Q1.out
       have hb := B6.out.block _ k1
       have hc : ∀ o, w6.cell? ⟨(a.add (i * 5)).block, o, none⟩ = wr.cell? ⟨(a.add (i * 5)).block, o, none⟩ := fun o => World.cell?_of_block (a := ⟨(a.add (i * 5)).block, o, none⟩) hb
       have hc0 : w6.cell? (a.add (i * 5)) = wr.cell? (a.add (i * 5)) := World.cell?_of_block (a := a.add (i * 5)) hb
       have hh := HTl.out
       have g1 := HCT.out
       have g2 := HC2.out
       have g3 := HM.out
       refine ⟨i + 1, by omega, by go_num, BL.out.trans (B6.out.mono he), Or.inl ⟨T ++ [.mk k2 (ez p2) N2 s2.data.toList L'], by simp [hh], ?_, ?_, ?_⟩⟩
       ·refine RG.snoc (al := al2) (cp := cap2) (HTr.out.beneath B6.out (Nat.le_refl _)) ?_ ?_ ?_ ?_ ?_ HL2.out
        ·rw [hh, hc0]; exact Q1.out
        ·rw [hh, hc]
         show _ = some (Value.int .i64 (fz (ez p2)))
         rw [fz_ez]
         exact Q2.out
        ·rw [hh, hc]; exact Q3.out
        ·rw [hh, hc]; exact Q4.out
        ·rw [hh, hc]
         show _ = some (Value.slice al2 L'.length cap2)
         rw [HL1.out]
         exact Q5.out
       ·rw [cntL_snoc]
        show 1 + (cntL T + (cntL L' + 1)) ≤ m
        omega
       ·rw [cntL_snoc]
        show _ = Value.int .i64 ((1 + (cntL T + (cntL L' + 1)) : Nat) : Int)
        congr 1
        omega
      case measure => simp [intOf]; omega
     ·have B6 := hidden hb6
      clear hb6 q1 q2 q3 q4 q5
      go_wp2_with fail
      go_roundw
      case rel =>
       refine ⟨i + 1, by omega, by go_num, BL.out.trans (B6.out.mono he), Or.inr ?_⟩
       have g3 := HM.out
       congr 1
       omega
      case measure => simp [intOf]; omega
    ·have z1 : ¬ (i : Int) < (len : Int) := by omega
     go_wp2_with fail
     go_ret
     exact ⟨BW.out, Or.inl ⟨T, by rw [HTl.out]; omega, HTr.out, by rw [HCT.out]; exact hTc, by rw [HCT.out]; rfl⟩⟩
   ·have zq : (m : Int) < (m : Int) + 1 := by omega
    by_cases hlt : i < len
    ·have z1 : (i : Int) < (len : Int) := by omega
     go_wp2_with fail
     go_ret
     exact ⟨BW.out, Or.inr rfl⟩
    ·have z1 : ¬ (i : Int) < (len : Int) := by omega
     go_wp2_with fail
     go_ret
     exact ⟨BW.out, Or.inr rfl⟩
end Go.Proofs.YthjmakjhidjbaaaGreat
