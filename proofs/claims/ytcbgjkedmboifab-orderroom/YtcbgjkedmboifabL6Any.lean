/-
  Layer 6: what the statements' own lay makes of any Value, and how they begin. Condition: the layer and the Value lie in memory, apart from each other.
-/
import Derived.Test.YtcbgjkedmboifabL6Two
namespace Go.Proofs.Ytcbgjkedmboifab
open Go.ChangeShapes Go.WideShapes Go.ChangeAt Go.RowKit Go.Deep
set_option linter.unusedVariables false
set_option maxHeartbeats 1000000

variable {w w' : World} {lb : Nat} {p : Pl} {rb : Nat} {s : St} {r : RS} {had : List Int} {left : Int} {O : Nat → Prop}
/-- A Value's four cells, and those of its parts, to a depth; they lie in blocks of Q. -/
def VQ (w : World) (Q : Nat → Prop) : Nat → List Value → Prop
  | 0, _ => True
  | d + 1, cs => ∃ (k n : Int) (s : ByteArray) (al : Option Addr) (len cap : Nat), cs = [.int .i64 k, .int .i64 n, .string s, .slice al len cap] ∧ RI k ∧ RI n ∧ s.size ≤ maxLen ∧ len ≤ maxLen ∧
      ∀ i, i < len → ∃ (a : Addr) (c0 c1 c2 c3 : Value), al = some a ∧ Q a.block ∧ w.cell? (a.add (i * 4)) = some c0 ∧ w.cell? ⟨(a.add (i * 4)).block, (a.add (i * 4)).off + 1, none⟩ = some c1 ∧ w.cell? ⟨(a.add (i * 4)).block, (a.add (i * 4)).off + 2, none⟩ = some c2 ∧ w.cell? ⟨(a.add (i * 4)).block, (a.add (i * 4)).off + 3, none⟩ = some c3 ∧ VQ w Q d [c0, c1, c2, c3]
theorem vq_of : ∀ (d : Nat) {cs : List Value}, VOk w d cs → VQ w (fun q => q < w.heap.size) d cs
  | 0, _, _ => trivial
  | d + 1, cs, h => by
    obtain ⟨k, n, s, al, len, cap, h1, h2, h3, h4, h5, h6⟩ := h
    refine ⟨k, n, s, al, len, cap, h1, h2, h3, h4, h5, fun i hi => ?_⟩
    obtain ⟨a, c0, c1, c2, c3, q1, q2, q3, q4, q5, q6⟩ := h6 i hi
    exact ⟨a, c0, c1, c2, c3, q1, by have := cell_lt q2; rw [add_block] at this; exact this, q2, q3, q4, q5, vq_of d q6⟩
/-- What is left, and what it may still cost. -/
def phi (l : Int) : Int := l - 40 * (l.toNat : Int)
/-- What lay tells and makes of any Value. -/
def LayAs (w : World) (lb : Nat) (p : Pl) (rb : Nat) (had : List Int) (left : Int) (O : Nat → Prop) (e : Ending) (w' : World) : Prop :=
  ∃ x s' r' had' left' O', e = .returned (.int .u64 x) ∧ R64 x ∧ LaidIn w' lb p rb s' r' had' left' O' ∧ Grows O O' w w' ∧ P40 r' ∧ left' < left ∧ had'.length + left'.toNat ≤ had.length + left.toNat ∧ phi left - 1 ≤ phi left'
/-- The Value lies apart from the layer, as it was. -/
def Apart (w0 : World) (Q : Nat → Prop) (w : World) (O : Nat → Prop) : Prop := ∀ q, Q q → w.heap[q]? = w0.heap[q]? ∧ ¬ O q ∧ q < w.heap.size
theorem Apart.grows {w0 : World} {Q O' : Nat → Prop} (h : Apart w0 Q w O) (g : Grows O O' w w') : Apart w0 Q w' O' := fun q hq => by
  obtain ⟨h1, h2, h3⟩ := h q hq
  refine ⟨(g.only.block q h3 h2).trans h1, fun c => ?_, Nat.lt_of_lt_of_le h3 g.only.size⟩
  rcases g.sub q c with c | c
  · exact h2 c
  · omega
theorem laid_top (h : LaidIn w lb p rb s r had left O) : (s.top : Int) ≤ 65536 := by
  obtain ⟨_, _, _, _, _, h2, _⟩ := h
  have n2 := h2.ar.n2
  have t2 := h2.ar.t2
  have b1 := h2.ar.b1
  omega
/-- Of a block that was laid. -/
theorem lay_of_block {s1 : St} {r1 : RS} {had1 : List Int} {left1 t : Int} {F : List Int} {O1 : Nat → Prop} {w1 : World} {e : Ending} (hL : LaidIn w1 lb p rb s1 r1 had1 left1 O1) (hG : Grows O O1 w w1) (h : BlockAs w1 lb p rb s1 r1 had1 left1 O1 t F e w') (hp : P40 r1) (ht : t ≠ 202 → F.length ≤ 40) (hlt : left1 < left) (hh : had1.length + left1.toNat + 1 ≤ had.length + left.toNat) (hphi : phi left - 1 ≤ phi left1) : LayAs w lb p rb had left O e w' := by
  have htop := laid_top hL
  rcases h with ⟨h1, h2, O', h3, h4⟩ | ⟨h1, h2, s', O', h3, h4⟩
  · exact ⟨1, s1, r1, had1, left1, O', h2, ⟨by decide, by decide⟩, h3, hG.trans h4, hp, hlt, by omega, hphi⟩
  · refine ⟨_, s', _, _, left1, O', h2, ⟨by omega, by omega⟩, h3, hG.trans h4, fun b hb htg => ?_, hlt, by rw [List.length_append]; simp only [List.length_singleton]; omega, hphi⟩
    unfold RS.more at hb
    rcases List.mem_append.1 hb with c | c
    · exact hp b c htg
    · rw [List.mem_singleton.1 c] at htg ⊢
      exact ht htg
/-- What is known of the parts so far. -/
def AnyI (h0 : Nat) (left : Int) : LayI := fun i F s r had l => (∀ x, x ∈ F → R64 x) ∧ F.length = i ∧ P40 r ∧ l ≤ left - 1 ∧ had.length + l.toNat ≤ h0 + (left - 1).toNat ∧ phi (left - 1) - i ≤ phi l ∧ h0 + left.toNat ≤ 50000
theorem lay_any {w0 : World} {Q : Nat → Prop} : ∀ (N : Nat) {left : Int} {s : St} {r : RS} {had : List Int} {O : Nat → Prop} {w : World} {c0 c1 c2 c3 : Value}, left.toNat ≤ N → LaidIn w lb p rb s r had left O → left ≤ 1000 → -900000 ≤ phi left → had.length + left.toNat ≤ 50000 → P40 r → VQ w0 Q (N + 1) [c0, c1, c2, c3] → Apart w0 Q w O →
    Calls Try.prog 8 #[.pointer (some ⟨lb, 0, none⟩), .agg #[c0, c1, c2, c3]] w fun e w' => LayAs w lb p rb had left O e w' := by
  intro N
  induction N with
  | zero =>
    intro left s r had O w c0 c1 c2 c3 hN h hl hphi hhd hp hv ha
    obtain ⟨k, n, b, al, len, cap, e, _⟩ := hv
    simp only [List.cons.injEq, and_true] at e
    obtain ⟨rfl, rfl, rfl, rfl⟩ := e
    have hl0 : left ≤ 0 := by omega
    have : phi left = left := by unfold phi; omega
    refine (lay_stop w h hl0 (by omega)).mono ?_
    rintro e w' ⟨rfl, h2, h3⟩
    exact ⟨1, s, r, had, left - 1, O, rfl, ⟨by decide, by decide⟩, h2, h3, hp, by omega, by omega, by unfold phi; omega⟩
  | succ N ih =>
    intro left s r had O w c0 c1 c2 c3 hN h hl hphi hhd hp hv ha
    obtain ⟨k, n, b, al, len, cap, e, rk, rn, hb, hlen, hparts⟩ := hv
    simp only [List.cons.injEq, and_true] at e
    obtain ⟨rfl, rfl, rfl, rfl⟩ := e
    by_cases hl0 : left ≤ 0
    · have : phi left = left := by unfold phi; omega
      refine (lay_stop w h hl0 (by omega)).mono ?_
      rintro e w' ⟨rfl, h2, h3⟩
      exact ⟨1, s, r, had, left - 1, O, rfl, ⟨by decide, by decide⟩, h2, h3, hp, by omega, by omega, by unfold phi; omega⟩
    · have hpos : 0 < left := by omega
      have hph : phi (left - 1) = phi left + 39 := by unfold phi; omega
      have hsame : ∀ {x : Int} {w' : World} {e : Ending}, e = .returned (.int .u64 x) → R64 x → LaidIn w' lb p rb s r had (left - 1) O → Grows O O w w' → LayAs w lb p rb had left O e w' := fun he hx h2 h3 => ⟨_, s, r, had, left - 1, O, he, hx, h2, h3, hp, by omega, by omega, by omega⟩
      by_cases k0 : k = 0
      · refine (lay_num w h hpos (by omega) k0 rn.1 rn.2).mono ?_
        rintro e w' ⟨he, h2, h3⟩
        exact hsame he ⟨intW_lo n, intW_hi n⟩ h2 h3
      · by_cases k1 : k = 1
        · refine (lay_txt w h hpos (by omega) k1 hb (by omega)).mono ?_
          intro e w' h2
          have hL := h
          obtain ⟨q1, q2⟩ := laid_left h (left - 1)
          rcases h2 with ⟨h1, h2, O', h3, h4⟩ | ⟨h1, h2, s', O', h3, h4⟩
          · exact ⟨1, s, r, had, left - 1, O', h2, ⟨by decide, by decide⟩, h3, h4, hp, by omega, by omega, by omega⟩
          · have htop := laid_top h
            refine ⟨_, s', _, _, left - 1, O', h2, ⟨by omega, by omega⟩, h3, h4, fun b hb htg => ?_, by omega, by rw [List.length_append]; simp only [List.length_singleton]; omega, by omega⟩
            unfold RS.more at hb
            rcases List.mem_append.1 hb with c | c
            · exact hp b c htg
            · rw [List.mem_singleton.1 c] at htg
              exact absurd rfl htg
        · by_cases k3 : k = 3
          · refine (lay_had w h hpos (by omega) k3 (by omega) rn.1 rn.2).mono ?_
            rintro e w' ⟨x, he, hx, h2, h3⟩
            exact hsame he hx h2 h3
          · by_cases k2 : k = 2
            · refine (lay_two (I := AnyI had.length left) (min len 40) w h hpos (by omega) k2 rn.1 rn.2 hlen rfl ?_ ?_ ?_).mono ?_
              · exact ⟨(fun x hx => by cases hx), rfl, hp, by omega, by omega, by omega, hhd⟩
              · rintro i F s1 r1 had1 left1 ⟨q1, q2, q3, q4, q5, q6, q7⟩
                exact ⟨q1, q2, by omega⟩
              · rintro i hi F s1 r1 had1 left1 O1 w1 ⟨q1, q2, q3, q4, q5, q6, q7⟩ hL hG
                obtain ⟨a, v0, v1, v2, v3, z1, z2, z3, z4, z5, z6, z7⟩ := hparts i (by omega)
                have ha1 := ha.grows hG
                obtain ⟨y1, y2, y3⟩ := ha1 a.block z2
                have hcell : ∀ o, w1.cell? ⟨(a.add (i * 4)).block, o, none⟩ = w0.cell? ⟨(a.add (i * 4)).block, o, none⟩ := fun o => World.cell?_of_block (w := w0) (by show w1.heap[(a.add (i * 4)).block]? = _; rw [add_block]; exact y1)
                have hcell0 : w1.cell? (a.add (i * 4)) = w0.cell? (a.add (i * 4)) := World.cell?_of_block (w := w0) (by rw [add_block]; exact y1)
                refine ⟨a, v0, v1, v2, v3, z1, hcell0.trans z3, (hcell _).trans z4, (hcell _).trans z5, (hcell _).trans z6, ?_⟩
                have hph1 : -900000 ≤ phi left1 := by omega
                refine (ih (by omega) hL (by omega) hph1 (by omega) q3 z7 ha1).mono ?_
                rintro e w2 ⟨x, s2, r2, had2, left2, O2, y1, y2, y3, y4, y5, y6, y7, y8⟩
                refine ⟨x, s2, r2, had2, left2, O2, y1, y3, y4, ?_, ?_, y5, by omega, by omega, by omega, q7⟩
                · intro z hz
                  rcases List.mem_append.1 hz with c | c
                  · exact q1 z c
                  · rw [List.mem_singleton.1 c]; exact y2
                · rw [List.length_append, q2]; rfl
              · rintro e w' ⟨F, s1, r1, had1, left1, O1, w1, ⟨q1, q2, q3, q4, q5, q6, q7⟩, hL, hG, hB⟩
                exact lay_of_block hL hG hB q3 (fun _ => by omega) (by omega) (by omega) (by omega)
            · refine (lay_raw w h hpos (by omega) ⟨k0, k1, k2, k3⟩ rn.1 rn.2).mono ?_
              rintro e w' ⟨x, he, hx, h2, h3⟩
              exact hsame he hx h2 h3
/-- What begin makes. -/
def BeginAs (w : World) (e : Ending) (w' : World) : Prop := ∃ lb p rb O, e = .returned (.pointer (some ⟨lb, 0, none⟩)) ∧ LaidIn w' lb p rb (St.new 4000) ⟨4000, 0, []⟩ [] 200 O ∧ (∀ q, O q → w.heap.size ≤ q) ∧ Below w.heap.size w w'
theorem begin_any (w : World) : Calls Try.prog 7 #[] w fun e w' => BeginAs w e w' := by
  go_enter Try.func7, Try.ntmps7
  go_wp2_with (first
    | (go_at_call 14; refine (new_at 4000 _ (by omega) (by omega)).mono ?_; rintro e w1 ⟨p, rfl, ha1, b1, p1, p2, p3, p4⟩; have HA1 := hidden ha1; have B1 := hidden b1; clear ha1 b1)
    | (go_at_call 15; refine (rnew_yes 4000 _ (by omega) (by omega)).mono ?_; rintro e w2 ⟨rfl, hr2, b2⟩; have T2 := hidden (two_new HA1.out hr2 b2); have B2 : Hid (Below w.heap.size w w2) := B1.out.trans (b2.mono B1.out.size); have HRB := hidden B1.out.size; clear hr2 b2 HA1))
  all_goals go_ret
  have hb : Below w2.heap.size w2 (w2.alloc (.cells #[.pointer (some ⟨p.a, 0, none⟩), .pointer (some ⟨w1.heap.size, 0, none⟩), .slice none 0 0, .int .i64 200] 39)) := (Below.refl _ _).alloc (Nat.le_refl _) _
  have T3 := T2.out.alloc (.cells #[.pointer (some ⟨p.a, 0, none⟩), .pointer (some ⟨w1.heap.size, 0, none⟩), .slice none 0 0, .int .i64 200] 39)
  refine ⟨w2.heap.size, p, w1.heap.size, fun q => w.heap.size ≤ q ∧ q < w2.heap.size + 1, rfl, ⟨none, 0, _, .slice none 0 0, blk_alloc_new _ _, T3, ⟨rfl, Or.inl ⟨rfl, rfl⟩⟩, (fun x hx => by cases hx), ⟨B2.out.size, by omega⟩, ?_, (fun k e => by cases e), fun q hq => by rw [nblk_alloc]; exact hq.2⟩, fun q hq => hq.1, B2.out.trans (hb.mono B2.out.size)⟩
  rintro q (rfl | hq | (rfl | hq) | ⟨i, hi, _⟩)
  · exact ⟨p1, by have := lt_of_some T2.out.ar.ha; omega⟩
  · rcases hq with rfl | rfl | rfl
    · exact ⟨p2, by have := lt_of_some T2.out.ar.hh; omega⟩
    · exact ⟨p3, by have := T2.out.ar.hc.lt; omega⟩
    · exact ⟨p4, by have := T2.out.ar.hb.lt; omega⟩
  · exact ⟨HRB.out, by have := lt_of_some T2.out.bo.rf.hr; omega⟩
  · cases hq
  · cases hi
end Go.Proofs.Ytcbgjkedmboifab
