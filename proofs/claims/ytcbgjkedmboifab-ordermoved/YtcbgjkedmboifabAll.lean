/-
  Several texts in one; each tells at its head what it proves, and on what condition. The last one: whatever is handed to OrderMoved, it returns true. No condition.
-/
import Derived.Test.YtcbgjkedmboifabL6Two
import Derived.Test.YtcbgjkedmboifabQ6Hash
import Derived.Test.YtcbgjkedmboifabO6Coll
import Derived.Test.YtcbgjkedmboifabLibD
import Derived.Test.YtcbgjkedmboifabRows
import Derived.WalkKit
import Derived.ProofKit
import Derived.OpenShut
import Derived.ShutString
import Derived.ChangeOld
import Derived.Below

/-
  Layer 6: what the statements' own lay makes of any Value, and how they begin. Condition: the layer and the Value lie in memory, apart from each other.
-/
namespace Go.Proofs.Ytcbgjkedmboifab
open Go.ChangeShapes Go.WideShapes Go.ChangeAt Go.RowKit Go.Deep
set_option linter.unusedVariables false
set_option maxHeartbeats 1000000

variable {w w' : World} {lb : Nat} {p : Pl} {rb : Nat} {s : St} {r : RS} {had : List Int} {left : Int} {O : Nat → Prop}
/-- A Value's four cells, and those of its parts, to a depth; they lie in blocks of Q. -/
def VQ (w : World) (Q : Nat → Prop) : Nat → List Value → Prop
  | 0, _ => True
  | d + 1, cs => ∃ (k n : Int) (s : ByteArray) (al : Option Addr) (len cap : Nat), cs = [.int .i64 k, .int .i64 n, .string s, .slice al len cap] ∧ RI k ∧ RI n ∧ s.size ≤ maxLen ∧ len ≤ maxLen ∧
      ∀ i, i < len → ∃ (a : Addr) (c0 c1 c2 c3 : Value), al = some a ∧ Q a.block ∧ w.cell? (a.add (i * 4)) = some c0 ∧ w.cell? ⟨(a.add (i * 4)).block, (a.add (i * 4)).off + 1, none⟩ = some c1 ∧ w.cell? ⟨(a.add (i * 4)).block, (a.add (i * 4)).off + 2, none⟩ = some c2 ∧ w.cell? ⟨(a.add (i * 4)).block, (a.add (i * 4)).off + 3, none⟩ = some c3 ∧ VQ w Q d [c0, c1, c2, c3]
theorem vq_of : ∀ (d : Nat) {cs : List Value}, VOk w d cs → VQ w (fun q => q < w.heap.size) d cs
  | 0, _, _ => trivial
  | d + 1, cs, h => by
    obtain ⟨k, n, s, al, len, cap, h1, h2, h3, h4, h5, h6⟩ := h
    refine ⟨k, n, s, al, len, cap, h1, h2, h3, h4, h5, fun i hi => ?_⟩
    obtain ⟨a, c0, c1, c2, c3, q1, q2, q3, q4, q5, q6⟩ := h6 i hi
    exact ⟨a, c0, c1, c2, c3, q1, by have := cell_lt q2; rw [add_block] at this; exact this, q2, q3, q4, q5, vq_of d q6⟩
/-- What is left, and what it may still cost. -/
def phi (l : Int) : Int := l - 40 * (l.toNat : Int)
/-- What lay tells and makes of any Value. -/
def LayAs (w : World) (lb : Nat) (p : Pl) (rb : Nat) (had : List Int) (left : Int) (O : Nat → Prop) (e : Ending) (w' : World) : Prop :=
  ∃ x s' r' had' left' O', e = .returned (.int .u64 x) ∧ R64 x ∧ LaidIn w' lb p rb s' r' had' left' O' ∧ Grows O O' w w' ∧ P40 r' ∧ left' < left ∧ had'.length + left'.toNat ≤ had.length + left.toNat ∧ phi left - 1 ≤ phi left'
/-- The Value lies apart from the layer, as it was. -/
def Apart (w0 : World) (Q : Nat → Prop) (w : World) (O : Nat → Prop) : Prop := ∀ q, Q q → w.heap[q]? = w0.heap[q]? ∧ ¬ O q ∧ q < w.heap.size
theorem Apart.grows {w0 : World} {Q O' : Nat → Prop} (h : Apart w0 Q w O) (g : Grows O O' w w') : Apart w0 Q w' O' := fun q hq => by
  obtain ⟨h1, h2, h3⟩ := h q hq
  refine ⟨(g.only.block q h3 h2).trans h1, fun c => ?_, Nat.lt_of_lt_of_le h3 g.only.size⟩
  rcases g.sub q c with c | c
  · exact h2 c
  · omega
theorem laid_top (h : LaidIn w lb p rb s r had left O) : (s.top : Int) ≤ 65536 := by
  obtain ⟨_, _, _, _, _, h2, _⟩ := h
  have n2 := h2.ar.n2
  have t2 := h2.ar.t2
  have b1 := h2.ar.b1
  omega
/-- Of a block that was laid. -/
theorem lay_of_block {s1 : St} {r1 : RS} {had1 : List Int} {left1 t : Int} {F : List Int} {O1 : Nat → Prop} {w1 : World} {e : Ending} (hL : LaidIn w1 lb p rb s1 r1 had1 left1 O1) (hG : Grows O O1 w w1) (h : BlockAs w1 lb p rb s1 r1 had1 left1 O1 t F e w') (hp : P40 r1) (ht : t ≠ 202 → F.length ≤ 40) (hlt : left1 < left) (hh : had1.length + left1.toNat + 1 ≤ had.length + left.toNat) (hphi : phi left - 1 ≤ phi left1) : LayAs w lb p rb had left O e w' := by
  have htop := laid_top hL
  rcases h with ⟨h1, h2, O', h3, h4⟩ | ⟨h1, h2, s', O', h3, h4⟩
  · exact ⟨1, s1, r1, had1, left1, O', h2, ⟨by decide, by decide⟩, h3, hG.trans h4, hp, hlt, by omega, hphi⟩
  · refine ⟨_, s', _, _, left1, O', h2, ⟨by omega, by omega⟩, h3, hG.trans h4, fun b hb htg => ?_, hlt, by rw [List.length_append]; simp only [List.length_singleton]; omega, hphi⟩
    unfold RS.more at hb
    rcases List.mem_append.1 hb with c | c
    · exact hp b c htg
    · rw [List.mem_singleton.1 c] at htg ⊢
      exact ht htg
/-- What is known of the parts so far. -/
def AnyI (h0 : Nat) (left : Int) : LayI := fun i F s r had l => (∀ x, x ∈ F → R64 x) ∧ F.length = i ∧ P40 r ∧ l ≤ left - 1 ∧ had.length + l.toNat ≤ h0 + (left - 1).toNat ∧ phi (left - 1) - i ≤ phi l ∧ h0 + left.toNat ≤ 50000
theorem lay_any {w0 : World} {Q : Nat → Prop} : ∀ (N : Nat) {left : Int} {s : St} {r : RS} {had : List Int} {O : Nat → Prop} {w : World} {c0 c1 c2 c3 : Value}, left.toNat ≤ N → LaidIn w lb p rb s r had left O → left ≤ 1000 → -900000 ≤ phi left → had.length + left.toNat ≤ 50000 → P40 r → VQ w0 Q (N + 1) [c0, c1, c2, c3] → Apart w0 Q w O →
    Calls Try.prog 8 #[.pointer (some ⟨lb, 0, none⟩), .agg #[c0, c1, c2, c3]] w fun e w' => LayAs w lb p rb had left O e w' := by
  intro N
  induction N with
  | zero =>
    intro left s r had O w c0 c1 c2 c3 hN h hl hphi hhd hp hv ha
    obtain ⟨k, n, b, al, len, cap, e, _⟩ := hv
    simp only [List.cons.injEq, and_true] at e
    obtain ⟨rfl, rfl, rfl, rfl⟩ := e
    have hl0 : left ≤ 0 := by omega
    have : phi left = left := by unfold phi; omega
    refine (lay_stop w h hl0 (by omega)).mono ?_
    rintro e w' ⟨rfl, h2, h3⟩
    exact ⟨1, s, r, had, left - 1, O, rfl, ⟨by decide, by decide⟩, h2, h3, hp, by omega, by omega, by unfold phi; omega⟩
  | succ N ih =>
    intro left s r had O w c0 c1 c2 c3 hN h hl hphi hhd hp hv ha
    obtain ⟨k, n, b, al, len, cap, e, rk, rn, hb, hlen, hparts⟩ := hv
    simp only [List.cons.injEq, and_true] at e
    obtain ⟨rfl, rfl, rfl, rfl⟩ := e
    by_cases hl0 : left ≤ 0
    · have : phi left = left := by unfold phi; omega
      refine (lay_stop w h hl0 (by omega)).mono ?_
      rintro e w' ⟨rfl, h2, h3⟩
      exact ⟨1, s, r, had, left - 1, O, rfl, ⟨by decide, by decide⟩, h2, h3, hp, by omega, by omega, by unfold phi; omega⟩
    · have hpos : 0 < left := by omega
      have hph : phi (left - 1) = phi left + 39 := by unfold phi; omega
      have hsame : ∀ {x : Int} {w' : World} {e : Ending}, e = .returned (.int .u64 x) → R64 x → LaidIn w' lb p rb s r had (left - 1) O → Grows O O w w' → LayAs w lb p rb had left O e w' := fun he hx h2 h3 => ⟨_, s, r, had, left - 1, O, he, hx, h2, h3, hp, by omega, by omega, by omega⟩
      by_cases k0 : k = 0
      · refine (lay_num w h hpos (by omega) k0 rn.1 rn.2).mono ?_
        rintro e w' ⟨he, h2, h3⟩
        exact hsame he ⟨intW_lo n, intW_hi n⟩ h2 h3
      · by_cases k1 : k = 1
        · refine (lay_txt w h hpos (by omega) k1 hb (by omega)).mono ?_
          intro e w' h2
          have hL := h
          obtain ⟨q1, q2⟩ := laid_left h (left - 1)
          rcases h2 with ⟨h1, h2, O', h3, h4⟩ | ⟨h1, h2, s', O', h3, h4⟩
          · exact ⟨1, s, r, had, left - 1, O', h2, ⟨by decide, by decide⟩, h3, h4, hp, by omega, by omega, by omega⟩
          · have htop := laid_top h
            refine ⟨_, s', _, _, left - 1, O', h2, ⟨by omega, by omega⟩, h3, h4, fun b hb htg => ?_, by omega, by rw [List.length_append]; simp only [List.length_singleton]; omega, by omega⟩
            unfold RS.more at hb
            rcases List.mem_append.1 hb with c | c
            · exact hp b c htg
            · rw [List.mem_singleton.1 c] at htg
              exact absurd rfl htg
        · by_cases k3 : k = 3
          · refine (lay_had w h hpos (by omega) k3 (by omega) rn.1 rn.2).mono ?_
            rintro e w' ⟨x, he, hx, h2, h3⟩
            exact hsame he hx h2 h3
          · by_cases k2 : k = 2
            · refine (lay_two (I := AnyI had.length left) (min len 40) w h hpos (by omega) k2 rn.1 rn.2 hlen rfl ?_ ?_ ?_).mono ?_
              · exact ⟨(fun x hx => by cases hx), rfl, hp, by omega, by omega, by omega, hhd⟩
              · rintro i F s1 r1 had1 left1 ⟨q1, q2, q3, q4, q5, q6, q7⟩
                exact ⟨q1, q2, by omega⟩
              · rintro i hi F s1 r1 had1 left1 O1 w1 ⟨q1, q2, q3, q4, q5, q6, q7⟩ hL hG
                obtain ⟨a, v0, v1, v2, v3, z1, z2, z3, z4, z5, z6, z7⟩ := hparts i (by omega)
                have ha1 := ha.grows hG
                obtain ⟨y1, y2, y3⟩ := ha1 a.block z2
                have hcell : ∀ o, w1.cell? ⟨(a.add (i * 4)).block, o, none⟩ = w0.cell? ⟨(a.add (i * 4)).block, o, none⟩ := fun o => World.cell?_of_block (w := w0) (by show w1.heap[(a.add (i * 4)).block]? = _; rw [add_block]; exact y1)
                have hcell0 : w1.cell? (a.add (i * 4)) = w0.cell? (a.add (i * 4)) := World.cell?_of_block (w := w0) (by rw [add_block]; exact y1)
                refine ⟨a, v0, v1, v2, v3, z1, hcell0.trans z3, (hcell _).trans z4, (hcell _).trans z5, (hcell _).trans z6, ?_⟩
                have hph1 : -900000 ≤ phi left1 := by omega
                refine (ih (by omega) hL (by omega) hph1 (by omega) q3 z7 ha1).mono ?_
                rintro e w2 ⟨x, s2, r2, had2, left2, O2, y1, y2, y3, y4, y5, y6, y7, y8⟩
                refine ⟨x, s2, r2, had2, left2, O2, y1, y3, y4, ?_, ?_, y5, by omega, by omega, by omega, q7⟩
                · intro z hz
                  rcases List.mem_append.1 hz with c | c
                  · exact q1 z c
                  · rw [List.mem_singleton.1 c]; exact y2
                · rw [List.length_append, q2]; rfl
              · rintro e w' ⟨F, s1, r1, had1, left1, O1, w1, ⟨q1, q2, q3, q4, q5, q6, q7⟩, hL, hG, hB⟩
                exact lay_of_block hL hG hB q3 (fun _ => by omega) (by omega) (by omega) (by omega)
            · refine (lay_raw w h hpos (by omega) ⟨k0, k1, k2, k3⟩ rn.1 rn.2).mono ?_
              rintro e w' ⟨x, he, hx, h2, h3⟩
              exact hsame he hx h2 h3
/-- What begin makes. -/
def BeginAs (w : World) (e : Ending) (w' : World) : Prop := ∃ lb p rb O, e = .returned (.pointer (some ⟨lb, 0, none⟩)) ∧ LaidIn w' lb p rb (St.new 4000) ⟨4000, 0, []⟩ [] 200 O ∧ (∀ q, O q → w.heap.size ≤ q) ∧ Below w.heap.size w w'
theorem begin_any (w : World) : Calls Try.prog 7 #[] w fun e w' => BeginAs w e w' := by
  go_enter Try.func7, Try.ntmps7
  go_wp2_with (first
    | (go_at_call 14; refine (new_at 4000 _ (by omega) (by omega)).mono ?_; rintro e w1 ⟨p, rfl, ha1, b1, p1, p2, p3, p4⟩; have HA1 := hidden ha1; have B1 := hidden b1; clear ha1 b1)
    | (go_at_call 15; refine (rnew_yes 4000 _ (by omega) (by omega)).mono ?_; rintro e w2 ⟨rfl, hr2, b2⟩; have T2 := hidden (two_new HA1.out hr2 b2); have B2 : Hid (Below w.heap.size w w2) := B1.out.trans (b2.mono B1.out.size); have HRB := hidden B1.out.size; clear hr2 b2 HA1))
  all_goals go_ret
  have hb : Below w2.heap.size w2 (w2.alloc (.cells #[.pointer (some ⟨p.a, 0, none⟩), .pointer (some ⟨w1.heap.size, 0, none⟩), .slice none 0 0, .int .i64 200] 39)) := (Below.refl _ _).alloc (Nat.le_refl _) _
  have T3 := T2.out.alloc (.cells #[.pointer (some ⟨p.a, 0, none⟩), .pointer (some ⟨w1.heap.size, 0, none⟩), .slice none 0 0, .int .i64 200] 39)
  refine ⟨w2.heap.size, p, w1.heap.size, fun q => w.heap.size ≤ q ∧ q < w2.heap.size + 1, rfl, ⟨none, 0, _, .slice none 0 0, blk_alloc_new _ _, T3, ⟨rfl, Or.inl ⟨rfl, rfl⟩⟩, (fun x hx => by cases hx), ⟨B2.out.size, by omega⟩, ?_, (fun k e => by cases e), fun q hq => by rw [nblk_alloc]; exact hq.2⟩, fun q hq => hq.1, B2.out.trans (hb.mono B2.out.size)⟩
  rintro q (rfl | hq | (rfl | hq) | ⟨i, hi, _⟩)
  · exact ⟨p1, by have := lt_of_some T2.out.ar.ha; omega⟩
  · rcases hq with rfl | rfl | rfl
    · exact ⟨p2, by have := lt_of_some T2.out.ar.hh; omega⟩
    · exact ⟨p3, by have := T2.out.ar.hc.lt; omega⟩
    · exact ⟨p4, by have := T2.out.ar.hb.lt; omega⟩
  · exact ⟨HRB.out, by have := lt_of_some T2.out.bo.rf.hr; omega⟩
  · cases hq
  · cases hi
end Go.Proofs.Ytcbgjkedmboifab

/-
  Layer 6: the calls whose answers the document fixes are answered so.
-/
namespace Go.Proofs.Ytcbgjkedmboifab
open Go.ChangeShapes Go.WideShapes Go.ChangeAt Go.RowKit Go.Deep
set_option linter.unusedVariables false
set_option maxHeartbeats 1000000

variable {w w' : World} {lb : Nat} {p : Pl} {rb : Nat} {s : St} {r : RS} {had : List Int} {left : Int} {O : Nat → Prop}
/-- What is known of two numbers. -/
def PairI (a b : Int) (s : St) (r : RS) (had : List Int) (left : Int) : LayI := fun i F s' r' had' l => i ≤ 2 ∧ F = [intW a, intW b].take i ∧ s' = s ∧ r' = r ∧ had' = had ∧ l = left - 1 - i
theorem tagOf_zero : tagOf 0 = 0 := by unfold tagOf; rw [IntKind.wrap_u64]; rfl
/-- What lay of a block of two numbers tells and makes. -/
def PairAs (w : World) (lb : Nat) (p : Pl) (rb : Nat) (s : St) (r : RS) (had : List Int) (left : Int) (O : Nat → Prop) (a b : Int) (e : Ending) (w' : World) : Prop :=
  ∃ w1 O1, LaidIn w1 lb p rb s r had (left - 3) O1 ∧ Grows O O1 w w1 ∧ BlockAs w1 lb p rb s r had (left - 3) O1 0 [intW a, intW b] e w'
theorem lay_pair {e0 e1 e2 : ByteArray} {g : Nat} (a b : Int) (w : World) (h : LaidIn w lb p rb s r had left O) (hl : 3 ≤ left) (hl2 : left ≤ 1000) (hh : had.length ≤ 1000) (ra : RI a) (rb' : RI b) (hg : w.heap[g]? = some (.cells #[.int .i64 0, .int .i64 a, .string e1, .slice none 0 0, .int .i64 0, .int .i64 b, .string e2, .slice none 0 0] 24 (0, 0))) (hO : ¬ O g) :
    Calls Try.prog 8 #[.pointer (some ⟨lb, 0, none⟩), .agg #[.int .i64 2, .int .i64 0, .string e0, .slice (some ⟨g, 0, none⟩) 2 2]] w fun e w' => PairAs w lb p rb s r had left O a b e w' := by
  refine (lay_two (I := PairI a b s r had left) 2 w h (by omega) (by omega) rfl (by omega) (by omega) (by unfold maxLen; omega) (by decide) ?_ ?_ ?_).mono ?_
  · exact ⟨by omega, rfl, rfl, rfl, rfl, by omega⟩
  · rintro i F s1 r1 had1 left1 ⟨q1, rfl, rfl, rfl, rfl, q6⟩
    refine ⟨fun x hx => ?_, by rw [List.length_take]; simp; omega, by omega⟩
    have := List.mem_of_mem_take hx
    simp at this
    rcases this with rfl | rfl
    · exact ⟨intW_lo a, intW_hi a⟩
    · exact ⟨intW_lo b, intW_hi b⟩
  · rintro i hi F s1 r1 had1 left1 O1 w1 ⟨q1, rfl, rfl, rfl, rfl, q6⟩ hL hG
    have hg1 : w1.heap[g]? = some (.cells #[.int .i64 0, .int .i64 a, .string e1, .slice none 0 0, .int .i64 0, .int .i64 b, .string e2, .slice none 0 0] 24 (0, 0)) := (hG.only.block g (lt_of_some hg) hO).trans hg
    have hc : ∀ j, w1.cell? ⟨g, j, none⟩ = #[Value.int .i64 0, .int .i64 a, .string e1, .slice none 0 0, .int .i64 0, .int .i64 b, .string e2, .slice none 0 0][j]? := fun j => by simp only [World.cell?, hg1]; rfl
    match i, hi with
    | 0, _ =>
      refine ⟨⟨g, 0, none⟩, .int .i64 0, .int .i64 a, .string e1, .slice none 0 0, rfl, hc 0, hc 1, hc 2, hc 3, ?_⟩
      refine (lay_num w1 hL (by omega) (by omega) rfl ra.1 ra.2).mono ?_
      rintro e w2 ⟨rfl, h2, h3⟩
      exact ⟨_, s1, r1, had1, left1 - 1, O1, rfl, h2, h3, by omega, rfl, rfl, rfl, rfl, by omega⟩
    | 1, _ =>
      refine ⟨⟨g, 0, none⟩, .int .i64 0, .int .i64 b, .string e2, .slice none 0 0, rfl, hc 4, hc 5, hc 6, hc 7, ?_⟩
      refine (lay_num w1 hL (by omega) (by omega) rfl rb'.1 rb'.2).mono ?_
      rintro e w2 ⟨rfl, h2, h3⟩
      exact ⟨_, s1, r1, had1, left1 - 1, O1, rfl, h2, h3, by omega, rfl, rfl, rfl, rfl, by omega⟩
  · rintro e w' ⟨F, s1, r1, had1, left1, O1, w1, ⟨q1, rfl, rfl, rfl, rfl, q6⟩, hL, hG, hB⟩
    have e3 : left1 = left - 3 := by omega
    subst e3
    rw [tagOf_zero] at hB
    exact ⟨w1, O1, hL, hG, hB⟩
/-- The same where there is room, the Value made just now. -/
theorem lay_new {e0 e1 e2 : ByteArray} {x : Int} (a b : Int) (w : World) (h : LaidIn w lb p rb s r had left O) (hl : 3 ≤ left) (hl2 : left ≤ 1000) (hh : had.length ≤ 1000) (ra : RI a) (rb' : RI b) (hE : s.allocE 0 2 = 0) (hx : 2 * ((s.top : Int) + 1) = x) :
    Calls Try.prog 8 #[.pointer (some ⟨lb, 0, none⟩), .agg #[.int .i64 2, .int .i64 0, .string e0, .slice (some ⟨w.heap.size, 0, none⟩) 2 2]] (w.alloc (.cells #[.int .i64 0, .int .i64 a, .string e1, .slice none 0 0, .int .i64 0, .int .i64 b, .string e2, .slice none 0 0] 24)) fun e w' => e = .returned (.int .u64 x) ∧ ∃ s' O', LaidIn w' lb p rb s' (r.more s 0 [intW a, intW b]) (had ++ [x]) (left - 3) O' ∧ Grows O O' w w' := by
  have hb : Below w.heap.size w (w.alloc (.cells #[.int .i64 0, .int .i64 a, .string e1, .slice none 0 0, .int .i64 0, .int .i64 b, .string e2, .slice none 0 0] 24)) := (Below.refl _ _).alloc (Nat.le_refl _) _
  refine (lay_pair (e0 := e0) (e1 := e1) (e2 := e2) a b _ (h.under hb) hl hl2 hh ra rb' (blk_alloc_new _ _) (fun c => Nat.lt_irrefl _ (laid_lt h _ c))).mono ?_
  rintro e w' ⟨w1, O1, h1, h2, h3⟩
  rcases h3 with ⟨q1, _⟩ | ⟨q1, q2, s', O', q3, q4⟩
  · exact absurd hE q1
  · rw [hx] at q2 q3
    exact ⟨q2, s', O', q3, (Grows.of_below O hb).trans (h2.trans q4)⟩
theorem laid_rep (h : LaidIn w lb p rb s r had left O) : Ar w p s ∧ Rep s r := by
  obtain ⟨_, _, _, _, _, h2, _⟩ := h
  exact ⟨h2.ar, h2.bo.rep⟩
/-- The two blocks that awake lays. -/
def rA : RS := (⟨4000, 0, [⟨1, 0, [intW 1, intW 2]⟩]⟩ : RS)
def rB : RS := (⟨4000, 0, [⟨1, 0, [intW 1, intW 2]⟩, ⟨4, 0, [intW 1, intW 3]⟩]⟩ : RS)
theorem more_A : (⟨4000, 0, []⟩ : RS).more (St.new 4000) 0 [intW 1, intW 2] = rA := rfl
theorem top_A (h : Rep s rA) : s.top = 3 ∧ s.base = 0 ∧ s.n = 4000 := by
  have h1 := h.top
  have h2 := h.base
  have h3 := h.n
  have e1 : lenB rA.L = 3 := rfl
  have e2 : rA.n * rA.which = 0 := rfl
  have e3 : rA.n = 4000 := rfl
  omega
theorem more_B (h : Rep s rA) : rA.more s 0 [intW 1, intW 3] = rB := by
  unfold RS.more
  rw [(top_A h).1]
  rfl
theorem num_nd (s : St) (r : RS) (n : Int) : ndW s r (intW n) = .num (numW (intW n)) := by
  unfold ndW
  rw [if_pos (by unfold isIntW intW; simp)]
theorem nd_at (h : Rep s rB) {k : Nat} {b : Blk} (hk : rB.L[k]? = some b) (hb : b.tag = 0) (hx : (b.ad : Int) ≤ 65536) : ndW s rB (2 * (b.ad : Int)) = .blk 0 b.F := by
  have hin := h.inside hk
  have ha : (b.ad : Int) = addrW (2 * (b.ad : Int)) := by unfold addrW; rw [if_neg (by omega)]; omega
  have hf := h.find_blk' hk ha
  have hl := leadI_some h hk (x := 2 * (b.ad : Int)) (by rw [hf])
  have hbk : blkAt rB k = b := by unfold blkAt; rw [List.getD_eq_getElem?_getD, hk]; rfl
  unfold ndW
  rw [if_neg (by unfold isIntW; simp), hl]
  simp only [hbk]
  unfold ndB
  rw [hf, hb, if_neg (by decide), if_neg (Int.lt_irrefl 0), if_neg (by decide)]
theorem awake_nd (h : Rep s rB) : ndW s rB 2 = .blk 0 [intW 1, intW 2] ∧ ndW s rB 8 = .blk 0 [intW 1, intW 3] := ⟨nd_at h (k := 0) rfl rfl (by decide), nd_at h (k := 1) rfl rfl (by decide)⟩
theorem awake_pair (h : Rep s rB) : pairOut (ndW s rB) 2 8 = (0, 0, [(intW 1, intW 1), (intW 2, intW 3)]) := by
  obtain ⟨h1, h2⟩ := awake_nd h
  exact (po_blk (by decide) h1 h2).2.2 (by rfl)
theorem awake_cmp1 (h : Rep s rB) : cmpC (ndW s rB) 2 8 100 100 = (-1, 3, 0) := by
  unfold cmpC
  rw [if_neg (by decide)]
  show goC (ndW s rB) 100 (99 + 1) [(2, 8)] = _
  rw [goC_next (awake_pair h) (fun _ => by decide)]
  have p1 : pairOut (ndW s rB) (intW 1) (intW 1) = (0, 0, []) := po_same (by rw [num_nd]; rfl)
  have p2 := po_num (num_nd s rB 2) (num_nd s rB 3)
  have e2 : sgn (numW (intW 2)) (numW (intW 3)) = -1 := by decide
  rw [e2] at p2
  show ((goC (ndW s rB) 100 (98 + 1) ((intW 1, intW 1) :: [(intW 2, intW 3)])).1, (goC (ndW s rB) 100 (98 + 1) ((intW 1, intW 1) :: [(intW 2, intW 3)])).2.1 + 1, (goC (ndW s rB) 100 (98 + 1) ((intW 1, intW 1) :: [(intW 2, intW 3)])).2.2) = _
  rw [goC_next p1 (fun c => absurd rfl c)]
  show ((goC (ndW s rB) 100 (97 + 1) [(intW 2, intW 3)]).1, (goC (ndW s rB) 100 (97 + 1) [(intW 2, intW 3)]).2.1 + 1 + 1, (goC (ndW s rB) 100 (97 + 1) [(intW 2, intW 3)]).2.2) = _
  rw [goC_dec p2.1 p2.2.1 (by decide)]
  rfl
theorem awake_cmp2 (h : Rep s rB) : cmpC (ndW s rB) 2 8 2 100 = (0, 1, 11) := by
  unfold cmpC
  rw [if_neg (by decide)]
  show goC (ndW s rB) 2 (99 + 1) [(2, 8)] = _
  rw [goC_full (awake_pair h) (by simp) (by decide)]
theorem awake_cmp3 : cmpC (ndW s r) (intW 3) (intW (-1)) 2 1 = (1, 1, 0) := by
  unfold cmpC
  rw [if_neg (by decide)]
  have p2 := po_num (num_nd s r 3) (num_nd s r (-1))
  have e2 : sgn (numW (intW 3)) (numW (intW (-1))) = 1 := by decide
  rw [e2] at p2
  show goC (ndW s r) 2 (0 + 1) [(intW 3, intW (-1))] = _
  rw [goC_dec p2.1 p2.2.1 (by decide)]
theorem awake_hash : hashC (ndW s r) (intW 5) 0 = (intW 222, 0) := by
  have hg : goH (ndW s r) mixW 0 24 [intW 5] (intW 7) = (mixW (intW 7) (numW (intW 5)), 0) := by
    rw [show (24 : Nat) = 23 + 1 from rfl, goH_num (num_nd s r 5)]; rfl
  unfold hashC
  rw [hg, if_pos rfl]
  have : doV 6 (mixW (intW 7) (numW (intW 5))) (intW 1073741823) = intW 222 := by decide
  rw [this]
theorem compare_is {a b c : Int} (x y room steps : Int) (w : World) (h : Ar w p s) (hr : Rep s r) (x0 : 0 ≤ x) (x1 : x ≤ 18446744073709551615) (y0 : 0 ≤ y) (y1 : y ≤ 18446744073709551615) (hs : steps ≤ 90000) (e : cmpC (ndW s r) x y room steps = (a, b, c)) :
    Calls Try.prog 9 #[.pointer (some ⟨p.a, 0, none⟩), .int .u64 x, .int .u64 y, .int .i64 room, .int .i64 steps] w fun e w' => e = .returned (.tuple #[.int .i64 a, .int .i64 b, .int .i64 c]) ∧ Below w.heap.size w w' := by
  have := compare_any x y room steps w h hr x0 x1 y0 y1 hs
  rw [e] at this
  exact this
theorem hash_is {a b : Int} (x room : Int) (w : World) (h : Ar w p s) (hr : Rep s r) (x0 : 0 ≤ x) (x1 : x ≤ 18446744073709551615) (e : hashC (ndW s r) x room = (a, b)) :
    Calls Try.prog 11 #[.pointer (some ⟨p.a, 0, none⟩), .int .u64 x, .int .i64 room] w fun e w' => e = .returned (.tuple #[.int .u64 a, .int .i64 b]) ∧ Below w.heap.size w w' := by
  have := hash_any x room w h hr x0 x1
  rw [e] at this
  exact this
theorem rint_is {v : Int} (n : Int) (w : World) (h : -9223372036854775808 ≤ n) (h' : n ≤ 9223372036854775807) (e : intW n = v) : Calls Try.prog 13 #[.int .i64 n] w fun e w' => e = .returned (.int .u64 v) ∧ w' = w := by
  subst e; exact rint_any n w h h'
set_option maxRecDepth 100000 in
set_option maxHeartbeats 8000000 in
theorem awake_any (w : World) : Calls Try.prog 6 #[] w fun e w' => e = .returned (.bool true) ∧ Below w.heap.size w w' := by
  go_enter Try.func6, Try.ntmps6
  go_upto_region 4 with (go_at_call 7; refine (begin_any _).mono ?_; rintro e w1 ⟨lb, p, rb, O, rfl, h1, ho1, hb1⟩; have H1 := hidden h1; have HO1 := hidden ho1; have B1 := hidden hb1; obtain ⟨c0, c1, c3, cf⟩ := h1.cells; clear h1 ho1 hb1)
  have HE1 : Hid ((St.new 4000).allocE 0 2 = 0) := by show _ = _; unfold St.allocE St.new; decide
  go_upto_region 5 with (go_at_call 8; refine (lay_new (x := 2) 1 2 w1 H1.out (by omega) (by omega) (by simp) ⟨by decide, by decide⟩ ⟨by decide, by decide⟩ HE1.out rfl).mono ?_; rintro e w2 ⟨rfl, s2, O2, h2, g2⟩; have H2 := hidden h2; have G2 := hidden g2; clear h2 g2)
  have R2 := (laid_rep H2.out).2
  rw [more_A] at H2 R2
  have HE2 : Hid (s2.allocE 0 2 = 0) := by
    obtain ⟨t1, t2, t3⟩ := top_A R2
    show _ = _
    unfold St.allocE
    rw [t1, t2, t3]
    decide
  have HT2 : Hid (2 * ((s2.top : Int) + 1) = 8) := by show _ = _; rw [(top_A R2).1]; rfl
  have HM2 := hidden (more_B R2)
  clear R2 c0 c1 c3 cf H1 HE1
  go_upto_region 6 with (go_at_call 8; refine (lay_new (x := 8) 1 3 w2 H2.out (by omega) (by omega) (by simp) ⟨by decide, by decide⟩ ⟨by decide, by decide⟩ HE2.out HT2.out).mono ?_; rintro e w3 ⟨rfl, s3, O3, h3, g3⟩; have H3 := hidden h3; have G3 := hidden g3; clear h3 g3)
  rw [HM2.out] at H3
  have B3 : Hid (Below w.heap.size w w3) := B1.out.trans ((G2.out.trans G3.out).below B1.out.size HO1.out)
  clear HM2 HT2 HE2 H2 G2 G3 HO1 B1
  have A3 := hidden (laid_rep H3.out).1
  have R3 := hidden (laid_rep H3.out).2
  have HBB : Hid (∀ w4, Below w3.heap.size w3 w4 → w4.cell? ⟨lb, 0, none⟩ = some (.pointer (some ⟨p.a, 0, none⟩))) := fun w4 b => (H3.out.under b).cells.1
  obtain ⟨i3, hi3⟩ : ∃ i, intW 3 = i := ⟨_, rfl⟩
  obtain ⟨im, him⟩ : ∃ i, intW (-1) = i := ⟨_, rfl⟩
  obtain ⟨i5, hi5⟩ : ∃ i, intW 5 = i := ⟨_, rfl⟩
  obtain ⟨iH, hiH⟩ : ∃ i, intW 222 = i := ⟨_, rfl⟩
  obtain ⟨a0, a1⟩ := intW_rng 3
  obtain ⟨b0, b1⟩ := intW_rng (-1)
  obtain ⟨d0, d1⟩ := intW_rng 5
  have C3 := hidden (awake_cmp3 (s := s3) (r := rB))
  have CH := hidden (awake_hash (s := s3) (r := rB))
  rw [hi3] at a0 a1 C3
  rw [him] at b0 b1 C3
  rw [hi5] at d0 d1 CH
  rw [hiH] at CH
  have HI3 := hidden hi3
  have HIM := hidden him
  have HI5 := hidden hi5
  have HIH := hidden hiH
  clear hi3 him hi5 hiH
  have c0 := HBB.out _ (Below.refl _ _)
  go_upto_region 8 with (first
    | (go_at_call 9; refine (compare_is 2 8 2 100 _ (A3.out.under B4.out) R3.out (by omega) (by omega) (by omega) (by omega) (by omega) (awake_cmp2 R3.out)).mono ?_; rintro e w5 ⟨rfl, hb5⟩; have B5 : Hid (Below w3.heap.size w3 w5) := B4.out.trans (hb5.mono B4.out.size); have f0 := HBB.out _ B5.out; clear hb5)
    | (go_at_call 9; refine (compare_is 2 8 100 100 _ A3.out R3.out (by omega) (by omega) (by omega) (by omega) (by omega) (awake_cmp1 R3.out)).mono ?_; rintro e w4 ⟨rfl, hb4⟩; have B4 := hidden hb4; have e0 := HBB.out _ B4.out; clear hb4))
  clear c0 e0
  have B5d : Hid (Below w3.heap.size w3 w5.drew) := B5.out.trans ((below_drews _ 1).mono B5.out.size)
  go_region_held3 (fun w' => w'.cell? ⟨lb, 0, none⟩ = some (.pointer (some ⟨p.a, 0, none⟩))) (go_keep) (first
    | (go_at_call 13; refine (rint_is _ _ (by omega) (by omega) (by first | with_reducible exact HI3.out | with_reducible exact HIM.out)).mono ?_; rintro e w' ⟨rfl, hw'⟩; rw [hw']; clear hw' w')
    | (go_at_call 9; refine (compare_is i3 im 2 1 _ (A3.out.under B5d.out) R3.out a0 a1 b0 b1 (by omega) C3.out).mono ?_; rintro e w6 ⟨rfl, hb6⟩; have B6 : Hid (Below w3.heap.size w3 w6) := B5d.out.trans (hb6.mono B5d.out.size); have g0 := HBB.out _ B6.out; clear hb6))
  clear f0
  go_wp2_with fail
  have B6d : Hid (Below w3.heap.size w3 w6.drew) := B6.out.trans ((below_drews _ 1).mono B6.out.size)
  go_region_held3 (fun w' => w'.cell? ⟨lb, 0, none⟩ = some (.pointer (some ⟨p.a, 0, none⟩))) (go_keep) (first
    | (go_at_call 13; refine (rint_is _ _ (by omega) (by omega) HI5.out).mono ?_; rintro e w' ⟨rfl, hw'⟩; rw [hw']; clear hw' w')
    | (go_at_call 11; refine (hash_is i5 0 _ (A3.out.under B6d.out) R3.out d0 d1 CH.out).mono ?_; rintro e w7 ⟨rfl, hb7⟩; have B7 : Hid (Below w3.heap.size w3 w7) := B6d.out.trans (hb7.mono B6d.out.size); have h0 := HBB.out _ B7.out; clear hb7))
  clear g0
  go_wp2_with (go_at_call 13; refine (rint_is _ _ (by omega) (by omega) HIH.out).mono ?_; rintro e w' ⟨rfl, hw'⟩; rw [hw']; clear hw' w')
  all_goals go_ret
  all_goals exact ⟨by simp, B3.out.trans (B7.out.mono B3.out.size)⟩
end Go.Proofs.Ytcbgjkedmboifab

/-
  Layer 6: where a statement is: its Values' own copies, and the layer, behind some lays. Condition: the Values lie in memory.
-/
namespace Go.Proofs.Ytcbgjkedmboifab
open Go.ChangeShapes Go.WideShapes Go.ChangeAt Go.RowKit Go.Deep
set_option linter.unusedVariables false
set_option maxHeartbeats 1000000

variable {w w' w0 w1 w2 : World} {lb : Nat} {p : Pl} {rb : Nat} {s : St} {r : RS} {had : List Int} {left : Int} {O : Nat → Prop} {j : Nat}
theorem VOk.below (k : Below w.heap.size w w') : ∀ (d : Nat) {cs : List Value}, VOk w d cs → VOk w' d cs
  | 0, _, _ => trivial
  | d + 1, cs, h => by
    obtain ⟨k', n, s, al, len, cap, h1, h2, h3, h4, h5, h6⟩ := h
    refine ⟨k', n, s, al, len, cap, h1, h2, h3, h4, h5, fun i hi => ?_⟩
    obtain ⟨a, c0, c1, c2, c3, q1, q2, q3, q4, q5, q6⟩ := h6 i hi
    have hc : ∀ {x : Addr} {v : Value}, w.cell? x = some v → w'.cell? x = some v := fun {x v} hx => (k.cell (p := x) (cell_lt hx)).trans hx
    exact ⟨a, c0, c1, c2, c3, q1, hc q2, hc q3, hc q4, hc q5, VOk.below k d q6⟩
/-- The layer lies there, made since w0, behind j lays. -/
structure LawIn (w0 w1 : World) (lb : Nat) (p : Pl) (rb : Nat) (s : St) (r : RS) (j : Nat) : Prop where
  ex : ∃ had left O, LaidIn w1 lb p rb s r had left O ∧ (∀ q, O q → w0.heap.size ≤ q) ∧ left ≤ 200 ∧ -7800 - (j : Int) ≤ phi left ∧ had.length + left.toNat ≤ 200
  below : Below w0.heap.size w0 w1
  p40 : P40 r
theorem LawIn.under (h : LawIn w0 w1 lb p rb s r j) (k : Below w1.heap.size w1 w2) : LawIn w0 w2 lb p rb s r j := by
  obtain ⟨had, left, O, h1, h2⟩ := h.ex
  exact ⟨⟨had, left, O, h1.under k, h2⟩, h.below.trans (k.mono h.below.size), h.p40⟩
theorem LawIn.ar (h : LawIn w0 w1 lb p rb s r j) : Ar w1 p s := by
  obtain ⟨had, left, O, h1, h2⟩ := h.ex
  exact (laid_rep h1).1
theorem LawIn.rep (h : LawIn w0 w1 lb p rb s r j) : Rep s r := by
  obtain ⟨had, left, O, h1, h2⟩ := h.ex
  exact (laid_rep h1).2
theorem LawIn.both (h : LawIn w0 w1 lb p rb s r j) : ∃ a cap V, Both w1 p s rb r a cap V := by
  obtain ⟨had, left, O, ⟨a, cap, V, hv, _, h2, _⟩, _⟩ := h.ex
  exact ⟨a, cap, V, h2.bo⟩
theorem LawIn.c0 (h : LawIn w0 w1 lb p rb s r j) : w1.cell? ⟨lb, 0, none⟩ = some (.pointer (some ⟨p.a, 0, none⟩)) := by
  obtain ⟨had, left, O, h1, h2⟩ := h.ex
  exact h1.cells.1
theorem LawIn.c1 (h : LawIn w0 w1 lb p rb s r j) : w1.cell? ⟨lb, 1, none⟩ = some (.pointer (some ⟨rb, 0, none⟩)) := by
  obtain ⟨had, left, O, h1, h2⟩ := h.ex
  exact h1.cells.2.1
theorem begin_law (w0 w1 : World) (hb : Below w0.heap.size w0 w1) : Calls Try.prog 7 #[] w1 fun e w2 => ∃ lb p rb, e = .returned (.pointer (some ⟨lb, 0, none⟩)) ∧ LawIn w0 w2 lb p rb (St.new 4000) ⟨4000, 0, []⟩ 0 := by
  refine (begin_any w1).mono ?_
  rintro e w2 ⟨lb, p, rb, O, rfl, h1, h2, h3⟩
  exact ⟨lb, p, rb, rfl, ⟨[], 200, O, h1, fun q hq => Nat.le_trans hb.size (h2 q hq), by omega, by decide, by decide⟩, hb.trans (h3.mono hb.size), fun b hb => by cases hb⟩
theorem lay_law {c0 c1 c2 c3 : Value} (w1 : World) (h : LawIn w0 w1 lb p rb s r j) (hv : VOk w0 201 [c0, c1, c2, c3]) (hj : j ≤ 100) :
    Calls Try.prog 8 #[.pointer (some ⟨lb, 0, none⟩), .agg #[c0, c1, c2, c3]] w1 fun e w2 => ∃ x s' r', e = .returned (.int .u64 x) ∧ R64 x ∧ LawIn w0 w2 lb p rb s' r' (j + 1) := by
  obtain ⟨had, left, O, h1, h2, h3, h4, h5⟩ := h.ex
  have ha : Apart w0 (fun q => q < w0.heap.size) w1 O := fun q hq => ⟨h.below.block q hq, fun c => by have := h2 q c; omega, Nat.lt_of_lt_of_le hq h.below.size⟩
  refine (lay_any 200 (by omega) h1 (by omega) (by omega) (by omega) h.p40 (vq_of 201 hv) ha).mono ?_
  rintro e w2 ⟨x, s', r', had', left', O', q1, q2, q3, q4, q5, q6, q7, q8⟩
  exact ⟨x, s', r', q1, q2, ⟨had', left', O', q3, q4.ge h.below.size h2, by omega, by omega, by omega⟩, h.below.trans (q4.below h.below.size h2), q5⟩
/-- A Value's own copy. -/
def BoxAt (w : World) (q : Nat) (k n : Int) (b : ByteArray) (al : Option Addr) (len cap : Nat) : Prop := w.heap[q]? = some (.cells #[.int .i64 k, .int .i64 n, .string b, .slice al len cap] 24 (0, 0))
theorem BoxAt.cells {q : Nat} {k n : Int} {b : ByteArray} {al : Option Addr} {len cap : Nat} (h : BoxAt w0 q k n b al len cap) (hb : Below w0.heap.size w0 w1) : w1.cell? ⟨q, 0, none⟩ = some (.int .i64 k) ∧ w1.cell? ⟨q, 1, none⟩ = some (.int .i64 n) ∧ w1.cell? ⟨q, 2, none⟩ = some (.string b) ∧ w1.cell? ⟨q, 3, none⟩ = some (.slice al len cap) := by
  have h1 := (hb.block q (lt_of_some h)).trans h
  simp [World.cell?, h1]
theorem box_one (w : World) (k n : Int) (b : ByteArray) (al : Option Addr) (len cap : Nat) : BoxAt (w.alloc (.cells #[.int .i64 k, .int .i64 n, .string b, .slice al len cap] 24)) w.heap.size k n b al len cap := blk_alloc_new _ _
theorem BoxAt.alloc {q : Nat} {k n : Int} {b : ByteArray} {al : Option Addr} {len cap : Nat} (h : BoxAt w q k n b al len cap) (o : Obj) : BoxAt (w.alloc o) q k n b al len cap := (blk_alloc_lt _ o _ (lt_of_some h)).trans h
theorem below_alloc6 (w : World) (o : Obj) : Below w.heap.size w (w.alloc o) := (Below.refl _ _).alloc (Nat.le_refl _) o
/-- Who is less is told by -1, 0 or 1. -/
theorem goC_three (nd : Int → Nd) (room : Int) : ∀ (k : Nat) (ws : List (Int × Int)), (goC nd room k ws).1 = -1 ∨ (goC nd room k ws).1 = 0 ∨ (goC nd room k ws).1 = 1
  | 0, [] => Or.inr (Or.inl rfl)
  | _ + 1, [] => Or.inr (Or.inl rfl)
  | 0, _ :: _ => Or.inr (Or.inl rfl)
  | k + 1, (x, y) :: ws => by
    rw [goC]
    split
    · exact Or.inr (Or.inl rfl)
    · split
      · have : ∀ x y, (pairOut nd x y).2.1 = -1 ∨ (pairOut nd x y).2.1 = 0 ∨ (pairOut nd x y).2.1 = 1 := fun x y => by
          unfold pairOut
          split
          · exact Or.inr (Or.inl rfl)
          · split
            · exact Or.inr (Or.inl rfl)
            · split
              · exact Or.inr (Or.inl rfl)
              · exact sgnL_three _ _
        exact this x y
      · split
        · exact Or.inr (Or.inl rfl)
        · exact goC_three nd room k _
theorem cmpC_three (nd : Int → Nd) (x y room steps : Int) : (cmpC nd x y room steps).1 = -1 ∨ (cmpC nd x y room steps).1 = 0 ∨ (cmpC nd x y room steps).1 = 1 := by
  unfold cmpC
  split
  · exact Or.inr (Or.inl rfl)
  · exact goC_three nd room _ _
/-- What was compared is plain. -/
theorem cmpC_plain {nd : Int → Nd} {x y room steps : Int} (hr : ¬ room < 2) (hs : 0 < steps) (h : (cmpC nd x y room steps).2.2 = 0) : (nd x).wrong = 0 ∧ (nd y).wrong = 0 := by
  unfold cmpC at h
  rw [if_neg hr] at h
  obtain ⟨k, hk⟩ : ∃ k, steps.toNat = k + 1 := ⟨steps.toNat - 1, by omega⟩
  rw [hk, goC] at h
  by_cases c : (pairOut nd x y).1 ≠ 0
  · rw [if_pos c] at h; exact absurd h c
  · exact pair_ok (Classical.byContradiction c)
end Go.Proofs.Ytcbgjkedmboifab

/-
  Layer 6: behind a collection all compares and hashes as it did, plain; and what Collect makes of three words made just now. Condition: the arena lies in memory.
-/
namespace Go.Proofs.Ytcbgjkedmboifab
open Go.ChangeShapes Go.WideShapes Go.ChangeAt Go.RowKit Go.Deep
set_option linter.unusedVariables false
set_option maxHeartbeats 1000000

variable {w w' : World} {p : Pl} {s s' : St} {r : RS} {x y : Int} {xs : List Int}
theorem moved_cmp {room steps S N : Int} (hg : Good s r) (hg' : Good s' (collR s r xs)) (hF : ∀ (k : Nat) (b : Blk), r.L[k]? = some b → ∀ y, y ∈ b.F → R64 y) (hx : x ∈ xs) (hy : y ∈ xs) (rx : R64 x) (ry : R64 y) (h : cmpC (ndW s r) x y room steps = (N, S, 0)) : cmpC (ndW s' (collR s r xs)) (collW s r xs x) (collW s r xs y) room steps = (N, S, 0) := by
  have hm := coll_moved hg hg' hF
  have ix : InReach s r xs x := ⟨rx, fun i e => reach_root hg.rep hx e⟩
  have iy : InReach s r xs y := ⟨ry, fun i e => reach_root hg.rep hy e⟩
  unfold cmpC at h ⊢
  by_cases c : room < 2
  · rw [if_pos c] at h; simp at h
  · rw [if_neg c] at h ⊢
    have := goC_moved hm room steps.toNat [(x, y)] (fun q hq => by rw [List.mem_singleton.1 hq]; exact ⟨ix, iy⟩) (by rw [h])
    rw [h] at this
    exact this
theorem moved_hash {room H : Int} (hg : Good s r) (hg' : Good s' (collR s r xs)) (hF : ∀ (k : Nat) (b : Blk), r.L[k]? = some b → ∀ y, y ∈ b.F → R64 y) (hx : x ∈ xs) (rx : R64 x) (h : hashC (ndW s r) x room = (H, 0)) : hashC (ndW s' (collR s r xs)) (collW s r xs x) room = (H, 0) := by
  have hm := coll_moved hg hg' hF
  have ix : InReach s r xs x := ⟨rx, fun i e => reach_root hg.rep hx e⟩
  have h0 : (goH (ndW s r) mixW room 24 [x] (intW 7)).2 = 0 := by
    unfold hashC at h
    split at h
    · rename_i c; exact c
    · rename_i c; simp only [Prod.mk.injEq] at h; exact absurd h.2 c
  have := goH_moved hm mixW room 24 [x] (intW 7) (fun q hq => by rw [List.mem_singleton.1 hq]; exact ix) h0
  rw [List.map_singleton] at this
  unfold hashC at h ⊢
  rw [this]
  exact h
/-- What Collect makes of 1 and two words. -/
def Coll3 (w : World) (p : Pl) (s : St) (r : RS) (x y : Int) (e : Ending) (w' : World) : Prop :=
  ∃ g s' X Y, e = .returned (.slice (some ⟨g, 0, none⟩) 3 3) ∧ Own w' g 3 (fun i => if i = 1 then Y else if i = 2 then X else 1) ∧ w.heap.size ≤ g ∧ Ar w' p s' ∧ Rep s' (collR s r [1, y, x]) ∧ Only p.own w w' ∧ X = collW s r [1, y, x] x ∧ Y = collW s r [1, y, x] y ∧ R64 X ∧ R64 Y
theorem collect_three (x y : Int) (w : World) (h : Ar w p s) (hr : Rep s r) (rx : R64 x) (ry : R64 y) :
    Calls Try.prog 12 #[.pointer (some ⟨p.a, 0, none⟩), .slice (some ⟨w.heap.size, 0, none⟩) 3 3] (w.alloc (.cells #[.int .u64 1, .int .u64 y, .int .u64 x] 30)) fun e w' => Coll3 w p s r x y e w' := by
  have hn := blk_alloc_new w (.cells #[.int .u64 1, .int .u64 y, .int .u64 x] 30)
  have hb := below_alloc6 w (.cells #[.int .u64 1, .int .u64 y, .int .u64 x] 30)
  have hX : listX (fun i => if i = 0 then 1 else if i = 1 then y else x) 3 = [1, y, x] := rfl
  have hws : WS (w.alloc (.cells #[.int .u64 1, .int .u64 y, .int .u64 x] 30)) (some ⟨w.heap.size, 0, none⟩) 3 3 (fun i => if i = 0 then 1 else if i = 1 then y else x) := by
    refine ⟨(fun e => by cases e), fun i hi => ⟨⟨w.heap.size, 0, none⟩, rfl, ?_⟩, fun i hi => ?_, fun i hi => ?_⟩
    · match i, hi with
      | 0, _ => show World.cell? _ ⟨w.heap.size, 0, none⟩ = _; simp only [World.cell?, hn]; rfl
      | 1, _ => show World.cell? _ ⟨w.heap.size, 1, none⟩ = _; simp only [World.cell?, hn]; rfl
      | 2, _ => show World.cell? _ ⟨w.heap.size, 2, none⟩ = _; simp only [World.cell?, hn]; rfl
    · match i, hi with
      | 0, _ => exact (by decide : (0 : Int) ≤ 1)
      | 1, _ => exact ry.1
      | 2, _ => exact rx.1
    · match i, hi with
      | 0, _ => exact (by decide : (1 : Int) ≤ 18446744073709551615)
      | 1, _ => exact ry.2
      | 2, _ => exact rx.2
  have hG := reach_good hr [1, y, x]
  refine (collect_as _ (h.under hb) hr hws (by omega)).mono ?_
  rintro e w' ⟨g, s', rfl, ho, hg, ha, hrp, hon⟩
  rw [hX] at ho hrp
  have e1 : collW s r [1, y, x] 1 = 1 := by unfold collW; exact newW_none (odd_lead hr (by rfl))
  refine ⟨g, s', _, _, rfl, ho.congr (fun i hi => ?_), Nat.le_trans hb.size hg, ha, hrp, ((Only.of_below hb) : Only p.own w _).trans hon, rfl, rfl, newW_rng h hr hG _ rx.1 rx.2, newW_rng h hr hG _ ry.1 ry.2⟩
  match i, hi with
  | 0, _ => exact e1
  | 1, _ => rfl
  | 2, _ => rfl
end Go.Proofs.Ytcbgjkedmboifab

/-
  OrderMoved: behind a collection all compares and hashes as it did. Condition: the Values lie in memory.
-/
namespace Go.Proofs.Ytcbgjkedmboifab
open Go.ChangeShapes Go.WideShapes Go.ChangeAt Go.RowKit Go.Deep
set_option linter.unusedVariables false
set_option maxHeartbeats 1000000

set_option maxRecDepth 100000 in
set_option maxHeartbeats 20000000 in
theorem moved6_any {k n : Int} {b : ByteArray} {al : Option Addr} {len cap : Nat} {k' n' : Int} {b' : ByteArray} {al' : Option Addr} {len' cap' : Nat} (w : World) (hv0 : VOk w 201 [.int .i64 k, .int .i64 n, .string b, .slice al len cap]) (hv1 : VOk w 201 [.int .i64 k', .int .i64 n', .string b', .slice al' len' cap']) :
    Calls Try.prog 5 #[.agg #[.int .i64 k, .int .i64 n, .string b, .slice al len cap], .agg #[.int .i64 k', .int .i64 n', .string b', .slice al' len' cap']] w fun e w' => e = .returned (.bool true) ∧ Below w.heap.size w w' := by
  have X0 := hidden ((box_one w k n b al len cap).alloc (.cells #[.int .i64 k', .int .i64 n', .string b', .slice al' len' cap'] 24))
  have X1 := hidden (box_one (w.alloc (.cells #[.int .i64 k, .int .i64 n, .string b, .slice al len cap] 24)) k' n' b' al' len' cap')
  have B0 : Hid (Below w.heap.size w ((w.alloc (.cells #[.int .i64 k, .int .i64 n, .string b, .slice al len cap] 24)).alloc (.cells #[.int .i64 k', .int .i64 n', .string b', .slice al' len' cap'] 24))) := (below_alloc6 w _).alloc (by simp only [nblk_alloc]; omega) _
  have HV0 := hidden hv0
  have HV1 := hidden hv1
  clear hv0 hv1
  go_enter Try.func5, Try.ntmps5
  go_upto_region 1 with fail
  rw [nblk_alloc] at X1
  generalize ((w.alloc (.cells #[.int .i64 k, .int .i64 n, .string b, .slice al len cap] 24)).alloc (.cells #[.int .i64 k', .int .i64 n', .string b', .slice al' len' cap'] 24)) = w0 at *
  go_upto_region 4 with (first
    | (go_at_call 6; refine (awake_any _).mono ?_; rintro e w1 ⟨rfl, hb1⟩; have B1 := hidden hb1; clear hb1)
    | (go_at_call 7; refine (begin_law w0 _ B1.out).mono ?_; rintro e w2 ⟨lb, p, rb, rfl, h2⟩; have L2 := hidden h2; clear h2))
  clear B1
  obtain ⟨q0, q1, q2, q3⟩ := X0.out.cells L2.out.below
  go_upto_region 5 with (go_at_call 8; refine (lay_law _ L2.out (VOk.below B0.out 201 HV0.out) (by omega)).mono ?_; rintro e w3 ⟨x0, s3, r3, rfl, ⟨lo0, hi0⟩, h3⟩; have L3 := hidden h3; clear h3)
  clear q0 q1 q2 q3 L2
  obtain ⟨q0, q1, q2, q3⟩ := X1.out.cells L3.out.below
  go_upto_region 6 with (go_at_call 8; refine (lay_law _ L3.out (VOk.below B0.out 201 HV1.out) (by omega)).mono ?_; rintro e w4 ⟨x1, s4, r4, rfl, ⟨lo1, hi1⟩, h4⟩; have L4 := hidden h4; clear h4)
  clear q0 q1 q2 q3 L3
  have RP := hidden L4.out.rep
  have HBB : Hid (∀ wz, Below w4.heap.size w4 wz → wz.cell? ⟨lb, 0, none⟩ = some (.pointer (some ⟨p.a, 0, none⟩)) ∧ Ar wz p s4) := fun wz bz => ⟨(L4.out.under bz).c0, (L4.out.under bz).ar⟩
  have HF : Hid (∀ w7, Below w4.heap.size w4 w7 → Below w.heap.size w w7) := fun w7 b7 => (B0.out.trans (L4.out.below.mono B0.out.size)).trans (b7.mono (Nat.le_trans B0.out.size L4.out.below.size))
  obtain ⟨g0, ar0⟩ := HBB.out _ (Below.refl _ _)
  have AR0 := hidden ar0
  clear ar0
  have W0 := hidden (Below.refl w4.heap.size w4)
  obtain ⟨⟨C, S, E⟩, hC⟩ : ∃ t, cmpC (ndW s4 r4) x0 x1 1048576 10000 = t := ⟨_, rfl⟩
  obtain ⟨⟨H, G⟩, hH⟩ : ∃ t, hashC (ndW s4 r4) x0 1048576 = t := ⟨_, rfl⟩
  have HC := hidden hC
  have HH := hidden hH
  clear hC hH
  by_cases hE : E = 0
  · by_cases hG : G = 0
    · subst hE hG
      have HLB : Hid (∀ wz wy, Below w4.heap.size w4 wz → Only p.own wz wy → wy.cell? ⟨lb, 0, none⟩ = some (.pointer (some ⟨p.a, 0, none⟩)) ∧ Below w.heap.size w wy) := fun wz wy bz o => by
        obtain ⟨had, left, O, h1, h2, _⟩ := (L4.out.under bz).ex
        have hb := (L4.out.under bz).below
        obtain ⟨a, cap', V, hv, g1, g2, g3, g4, g5, g6, g7, g8⟩ := h1
        have hlb := aown_ty g2 g1
        refine ⟨(World.cell?_of_block (w := wz) (o.block lb (lt_of_some g1) (fun c => hlb (own_aown _ c)))).trans (by simp [World.cell?, g1]), ?_⟩
        exact (B0.out.trans (hb.mono B0.out.size)).trans (o.below (Nat.le_trans B0.out.size hb.size) (fun k hk c => by have h5 := h2 k (g6 k (own_aown k c)); have h6 := B0.out.size; omega))
      have HGD := hidden (Good.of AR0.out RP.out)
      have HFR : Hid (∀ (k : Nat) (b : Blk), r4.L[k]? = some b → ∀ y, y ∈ b.F → R64 y) := fun k b hk y hy => rep_rng AR0.out RP.out hk y hy
      go_upto_region 10 with (first | (go_at_call 9; refine (compare_is x0 x1 1048576 10000 _ AR0.out RP.out lo0 hi0 lo1 hi1 (by omega) HC.out).mono ?_; rintro e v1 ⟨rfl, hb⟩; have W1 : Hid (Below w4.heap.size w4 v1) := W0.out.trans (hb.mono W0.out.size); obtain ⟨g1, ar⟩ := HBB.out _ W1.out; have AR1 := hidden ar; clear hb ar) | (go_at_call 11; refine (hash_is x0 1048576 _ AR1.out RP.out lo0 hi0 HH.out).mono ?_; rintro e v2 ⟨rfl, hb⟩; have W2 : Hid (Below w4.heap.size w4 v2) := W1.out.trans (hb.mono W1.out.size); obtain ⟨g2, ar⟩ := HBB.out _ W2.out; have AR2 := hidden ar; clear hb ar))
      have HCOL := hidden (collect_three x0 x1 v2 AR2.out RP.out ⟨lo0, hi0⟩ ⟨lo1, hi1⟩)
      go_upto_region 11 with (go_at_call 12; refine HCOL.out.mono ?_; rintro e w5 ⟨g5, s5, X, Y, rfl, ho5, hg5, ha5, hr5, hon5, hX5, hY5, ⟨X0', X1'⟩, Y0', Y1'⟩; have O5 := hidden ho5; have A5 := hidden ha5; have R5 := hidden hr5; obtain ⟨f0, bf⟩ := HLB.out _ _ W2.out hon5; have BF := hidden bf; have HX5 := hidden hX5; have HY5 := hidden hY5; clear ho5 ha5 hr5 hon5 hX5 hY5 bf hg5)
      have HC2 : Hid (cmpC (ndW s5 (collR s4 r4 [1, x1, x0])) X Y 1048576 10000 = (C, S, 0)) := by
        show _ = _
        rw [HX5.out, HY5.out]
        exact moved_cmp HGD.out (Good.of A5.out R5.out) HFR.out (by simp) (by simp) ⟨lo0, hi0⟩ ⟨lo1, hi1⟩ HC.out
      have HH2 : Hid (hashC (ndW s5 (collR s4 r4 [1, x1, x0])) X 1048576 = (H, 0)) := by
        show _ = _
        rw [HX5.out]
        exact moved_hash HGD.out (Good.of A5.out R5.out) HFR.out (by simp) ⟨lo0, hi0⟩ HH.out
      have y1 : w5.cell? ⟨g5, 1, none⟩ = some (.int .u64 Y) := O5.out.cell (i := 1) (by omega)
      have y2 : w5.cell? ⟨g5, 2, none⟩ = some (.int .u64 X) := O5.out.cell (i := 2) (by omega)
      have HKP : Hid (∀ wz, Below w5.heap.size w5 wz → (wz.cell? ⟨lb, 0, none⟩ = some (.pointer (some ⟨p.a, 0, none⟩)) ∧ wz.cell? ⟨g5, 1, none⟩ = some (.int .u64 Y) ∧ wz.cell? ⟨g5, 2, none⟩ = some (.int .u64 X))) := fun wz bz => ⟨(bz.cell (p := ⟨lb, 0, none⟩) (cell_lt f0)).trans f0, (bz.cell (p := ⟨g5, 1, none⟩) (cell_lt y1)).trans y1, (bz.cell (p := ⟨g5, 2, none⟩) (cell_lt y2)).trans y2⟩
      clear HCOL HC HH HLB HFR HGD HX5 HY5 O5 HBB HF AR0 AR1 AR2 W0 W1 W2 g0 g1 g2 RP
      have D5 : Hid (Below w5.heap.size w5 w5.drew) := below_drews w5 1
      go_region_held3 (fun w' => w'.cell? ⟨lb, 0, none⟩ = some (.pointer (some ⟨p.a, 0, none⟩)) ∧ w'.cell? ⟨g5, 1, none⟩ = some (.int .u64 Y) ∧ w'.cell? ⟨g5, 2, none⟩ = some (.int .u64 X)) (go_keep) (first
        | (go_at_call 9; refine (compare_is X Y 1048576 10000 _ (A5.out.under D5.out) R5.out X0' X1' Y0' Y1' (by omega) HC2.out).mono ?_; rintro e w6 ⟨rfl, hb⟩; have B6 : Hid (Below w5.heap.size w5 w6) := D5.out.trans (hb.mono D5.out.size); obtain ⟨f1, z1, z2⟩ := HKP.out _ B6.out; clear hb))
      clear f0 y1 y2
      go_wp2_with fail
      have D6 : Hid (Below w5.heap.size w5 w6.drew) := B6.out.trans ((below_drews w6 1).mono B6.out.size)
      go_region_held3 (fun w' => w'.cell? ⟨lb, 0, none⟩ = some (.pointer (some ⟨p.a, 0, none⟩)) ∧ w'.cell? ⟨g5, 2, none⟩ = some (.int .u64 X)) (go_keep) (first
        | (go_at_call 11; refine (hash_is X 1048576 _ (A5.out.under D6.out) R5.out X0' X1' HH2.out).mono ?_; rintro e w7 ⟨rfl, hb⟩; have B7 : Hid (Below w5.heap.size w5 w7) := D6.out.trans (hb.mono D6.out.size); obtain ⟨f2, z3, z4⟩ := HKP.out _ B7.out; clear hb))
      go_wp2_with fail
      all_goals go_ret
      all_goals exact ⟨by simp, BF.out.trans (B7.out.mono BF.out.size)⟩
    · subst hE
      have hGb : (G != 0) = true := by simp [hG]
      clear hG
      go_wp2_with (first | (go_at_call 9; refine (compare_is x0 x1 1048576 10000 _ AR0.out RP.out lo0 hi0 lo1 hi1 (by omega) HC.out).mono ?_; rintro e v1 ⟨rfl, hb⟩; have W1 : Hid (Below w4.heap.size w4 v1) := W0.out.trans (hb.mono W0.out.size); obtain ⟨g1, ar⟩ := HBB.out _ W1.out; have AR1 := hidden ar; clear hb ar) | (go_at_call 11; refine (hash_is x0 1048576 _ AR1.out RP.out lo0 hi0 HH.out).mono ?_; rintro e v2 ⟨rfl, hb⟩; have W2 : Hid (Below w4.heap.size w4 v2) := W1.out.trans (hb.mono W1.out.size); obtain ⟨g2, ar⟩ := HBB.out _ W2.out; have AR2 := hidden ar; clear hb ar))
      all_goals go_ret
      all_goals exact ⟨rfl, HF.out _ W2.out⟩
  · have hEb : (E != 0) = true := by simp [hE]
    clear hE
    go_wp2_with (first | (go_at_call 9; refine (compare_is x0 x1 1048576 10000 _ AR0.out RP.out lo0 hi0 lo1 hi1 (by omega) HC.out).mono ?_; rintro e v1 ⟨rfl, hb⟩; have W1 : Hid (Below w4.heap.size w4 v1) := W0.out.trans (hb.mono W0.out.size); obtain ⟨g1, ar⟩ := HBB.out _ W1.out; have AR1 := hidden ar; clear hb ar) | (go_at_call 11; refine (hash_is x0 1048576 _ AR1.out RP.out lo0 hi0 HH.out).mono ?_; rintro e v2 ⟨rfl, hb⟩; have W2 : Hid (Below w4.heap.size w4 v2) := W1.out.trans (hb.mono W1.out.size); obtain ⟨g2, ar⟩ := HBB.out _ W2.out; have AR2 := hidden ar; clear hb ar))
    all_goals go_ret
    all_goals exact ⟨rfl, HF.out _ W2.out⟩
end Go.Proofs.Ytcbgjkedmboifab

/-
  Proved: whatever two Values are handed to OrderMoved, it returns true. No condition.
-/
namespace Go.Proofs.Ytcbgjkedmboifab.orderMoved
open Go.ChangeShapes Go.WideShapes Go.ChangeAt Go.RowKit
open Go.ChangeMaps (open_string shut_string)
set_option linter.unusedVariables false

theorem own : ownKnob Try.prog.godebug = none := by kernel_rfl
theorem laidOut : laidOutB Try.prog = true := by kernel_rfl

theorem walk (cs0 : Array Value) (cs1 : Array Value) (w : World) (vk0 : VOk w 201 cs0.toList) (vk1 : VOk w 201 cs1.toList) :
    Calls Try.prog 5 #[.agg cs0, .agg cs1] w fun e w' => e = .returned (.bool true) ∧ Below w.heap.size w w' := by
  obtain ⟨k0, n0, b0, al0, len0, cap0, e0, _⟩ := id vk0
  obtain rfl : cs0 = #[.int .i64 k0, .int .i64 n0, .string b0, .slice al0 len0 cap0] := by cases cs0; simpa using e0
  obtain ⟨k1, n1, b1, al1, len1, cap1, e1, _⟩ := id vk1
  obtain rfl : cs1 = #[.int .i64 k1, .int .i64 n1, .string b1, .slice al1 len1 cap1] := by cases cs1; simpa using e1
  exact moved6_any w vk0 vk1

set_option maxRecDepth 100000 in
theorem lifted (os : Os) (started : os.Started) (H : Type) (enc : TypeId × Value → H) :
    ReturnsInHanded {} Try.checked os 5 .any (Rows.orderMovedSpec.pre6 enc Try.prog Try.f5 Rows.orderMovedRow.domain false) (Rows.orderMovedSpec.post enc Try.prog Try.f5 false true false false) := by
  refine returnsInHanded_of_change (C := Try.checked) own started (by kernel_rfl) Try.func5
    (ChangeSpec.witness6 (enc := enc) (C := Try.checked) false ⟨#[], #[.agg #[.int .i64 0, .int .i64 0, .string ByteArray.empty, .slice none 0 0], .agg #[.int .i64 0, .int .i64 0, .string ByteArray.empty, .slice none 0 0]], []⟩ 8 (by kernel_rfl) (by kernel_rfl) (by kernel_rfl) (by kernel_rfl)) ?_
  intro W base args ds gs before hval0 hW hcnd _
  have hval : ∀ (j : Nat) t v, Try.f5.params[j]? = some t → args[j]? = some v → Value.okWide Try.prog W .any base t v := hval0
  have hW' := hW
  obtain ⟨p, q, hA0, hV, rfl, hfz, hnd⟩ := hW
  have hA : DataW.TrodAll enc Try.prog W 0 (fun _ => true) true Try.f5.params.toList args.toList ds p := hA0
  rw [Try.params5] at hA hval
  obtain ⟨v0, vs0, d0, ds0, p0, q0, hargs, rfl, rfl, h0, r0⟩ := trodAll_cons hA
  obtain ⟨v1, vs1, d1, ds1, p1, q1, rfl, rfl, rfl, h1, r1⟩ := trodAll_cons r0
  obtain ⟨rfl, rfl, rfl⟩ := trodAll_nil r1
  obtain rfl : args = #[v0, v1] := by cases args; simp_all
  obtain ⟨rfl, rfl⟩ := trodVars_none hV
  obtain ⟨cs0, rfl, _⟩ := okWide_struct Try.underlying24 (hval 0 24 v0 rfl rfl)
  have k0 := h0
  have lt0 : ∀ x ∈ p0, x.block < W.heap.size := by obtain ⟨m, hm⟩ := k0; exact DataW.trod_lt m _ _ _ hm
  have vk0 : VOk W 201 cs0.toList := by obtain ⟨fuel, hf⟩ := h0; exact value_open 201 hf
  obtain ⟨cs1, rfl, _⟩ := okWide_struct Try.underlying24 (hval 1 24 v1 rfl rfl)
  have k1 := h1
  have lt1 : ∀ x ∈ p1, x.block < W.heap.size := by obtain ⟨m, hm⟩ := k1; exact DataW.trod_lt m _ _ _ hm
  have vk1 : VOk W 201 cs1.toList := by obtain ⟨fuel, hf⟩ := h1; exact value_open 201 hf
  clear hA0 hval0
  refine (walk cs0 cs1 W vk0 vk1).mono fun e W' ⟨he, bel⟩ => ?_
  subst he
  exact ⟨_, rfl, _, _, _, [], _, [], hW', trodAll_mk1 (shut_bool Try.underlying4 _), (trodAll_cons_mk (Below.trod laidOut (by kernel_rfl) (of_decide_eq_true (by kernel_rfl)) k0 bel lt0) (trodAll_cons_mk (Below.trod laidOut (by kernel_rfl) (of_decide_eq_true (by kernel_rfl)) k1 bel lt1) trodAll_mk0)), rfl, bel.frame _, fun h => by cases h⟩

theorem over : Rows.orderMovedRow.holds Try.pinned (OpenSpec.ofChange Rows.orderMovedSpec) :=
  OpenClaim.holds_of_wide 5 Try.f5 rfl rfl rfl rfl rfl rfl rfl ⟨rfl, rfl, rfl, rfl, rfl⟩ rfl rfl rfl rfl rfl (by kernel_rfl) Try.func5 (by kernel_rfl)
    (of_decide_eq_true (by kernel_rfl)) (by unfold Func.isWrapper; first | (rw [if_pos (by decide +kernel)]; kernel_rfl) | (rw [if_neg (by decide +kernel)]; exact ⟨rfl, rfl⟩))
    (fun os started H enc _ => lifted os started H enc)
theorem proved : Rows.OrderMovedSaid := over
end Go.Proofs.Ytcbgjkedmboifab.orderMoved

namespace Go.Proofs.Ytcbgjkedmboifab
/-- The statement. -/
theorem orderMoved_holds : Rows.OrderMovedSaid := orderMoved.proved
#print axioms orderMoved_holds
end Go.Proofs.Ytcbgjkedmboifab
