/-
  Several small texts in one; each tells at its head what it proves, and on what condition.
-/
import Derived.Test.YthjmakjhidjbaaaGreatLibAD
import Derived.Test.YthjmakjhidjbaaaGreatShelf
import Derived.OwnWalk
import Derived.Laws.EntriesVeiled
import Derived.Deep.RegionHeld3
import Derived.Deep.DrawnRows
import Derived.OrdersHeld
import Derived.Deep.RegionHeld

/-
 Layer 8, the program's parser in memory: tokens, which ones are to come; what each small step of it does. Condition: the parser lies in memory.
-/
namespace Go.Proofs.YthjmakjhidjbaaaGreat
open Go.ChangeShapes Go.WideShapes Go.ChangeAt Go.RowKit Go.Deep
set_option linter.unusedVariables false
set_option linter.unusedSimpArgs false
set_option maxHeartbeats 1000000
set_option maxRecDepth 20000

/-- Which parser, over which tokens. -/
structure PC where
 b : Nat
 g : Nat
 lc : Nat
 M : List TV
 ts : List Tk
 tm : TM M ts
 other : g ≠ b
 cap : M.length ≤ lc
 small : M.length ≤ 1000000
 shape : ∀ i, i < ts.length → ((tk ts i).kind = 1 → (tk ts i).S = []) ∧ ((tk ts i).kind ≠ 1 → (tk ts i).N = 0)
/-- A token's place. -/
def PC.pl (c : PC) (i : Nat) : Int := plM c.M i
/-- The parser lies in memory, its tokens from i on to come. -/
structure PS (c : PC) (w : World) (i : Nat) : Prop where
 pr : w.heap[c.b]? = some (.cells #[.slice (some ⟨c.g, i * 4, none⟩) (c.M.length - i) (c.lc - i)] 65 (0, 0))
 toks : TS w (some ⟨c.g, 0, none⟩) c.M
/-- What is panicked with. -/
def faultQ (at_ : Int) : PanicEntry := { v := .iface 61 (.agg #[.int .i64 at_]), recovered := false }
section
variable {c : PC} {w w' : World} {i j : Nat}
theorem PS.lt (h : PS c w i) : c.b < w.heap.size := lt_of_some h.pr
theorem PS.cells (h : PS c w i) : w.cell? ⟨c.b, 0, none⟩ = some (.slice (some ⟨c.g, i * 4, none⟩) (c.M.length - i) (c.lc - i)) ∧ ∀ o, w.frozen? ⟨c.b, o, none⟩ = false := by
 simp [World.cell?, World.frozen?, h.pr]
theorem PS.glt (h : PS c w i) : c.g < w.heap.size := by
 obtain ⟨g, e, h0, _⟩ := h.toks.at_ 0 _ (tv_at (by have := c.tm.len; omega))
 simp only [Option.some.injEq, Addr.mk.injEq] at e
 rw [e.1]
 exact cell_lt h0
theorem PS.keep (h : PS c w i) {S : Nat → Prop} (k : Only S w w') (hb : ¬ S c.b) (hg : ¬ S c.g) : PS c w' i := ⟨(k.block _ h.lt hb).trans h.pr, h.toks.keep2 (fun g e hl => by
 simp only [Option.some.injEq, Addr.mk.injEq] at e
 rw [← e.1]
 exact k.block _ h.glt hg)⟩
theorem PS.below (h : PS c w i) (k : Below w.heap.size w w') : PS c w' i := h.keep (S := fun _ => False) (Only.of_below k) (fun x => x) (fun x => x)
theorem PS.alloc (h : PS c w i) (o : Obj) : PS c (w.alloc o) i := h.below ((Below.refl _ _).alloc (Nat.le_refl _) _)
theorem PS.own (h : PS c w i) {a : Addr} (hb : a.block ≠ c.b) (hg : a.block ≠ c.g) (v : Value) : PS c (w.setCell a v) i :=
 h.keep (S := fun k => k = a.block) (Only.setCell (a := a) (Only.refl (fun k => k = a.block) w) (Or.inr rfl) v) (fun e => hb e.symm) (fun e => hg e.symm)
theorem PS.own' (h : PS c w i) {w0 : World} (h0 : PS c w0 j) {a : Addr} (ha : w0.heap.size ≤ a.block) (v : Value) : PS c (w.setCell a v) i :=
 h.own (by have := h0.lt; omega) (by have := h0.glt; omega) v
theorem PS.drewN (h : PS c w i) (n : Nat) : PS c (w.drewN n) i := ⟨h.pr, h.toks.drewN n⟩
theorem PS.tok (h : PS c w i) (hi : i ≤ c.ts.length) : w.cell? ⟨c.g, i * 4, none⟩ = some (.int .i64 (tk c.ts i).kind) ∧ w.cell? ⟨c.g, i * 4 + 1, none⟩ = some (.int .i64 (c.pl i)) ∧ w.cell? ⟨c.g, i * 4 + 2, none⟩ = some (.int .i64 (tk c.ts i).N) ∧ w.cell? ⟨c.g, i * 4 + 3, none⟩ = some (.string ⟨(tk c.ts i).S.toArray⟩) := by
 obtain ⟨g, e, h0, h1, h2, h3⟩ := h.toks.at_ i _ (tv_at (by have := c.tm.len; omega))
 simp only [Option.some.injEq, Addr.mk.injEq] at e
 obtain ⟨rfl, _⟩ := e
 have ht := c.tm.tok i hi
 rw [← ht]
 exact ⟨h0, h1, h2, h3⟩
theorem next_any (h : PS c w i) (hi : i ≤ c.ts.length) : Calls Tryz.prog 39 #[.pointer (some ⟨c.b, 0, none⟩)] w fun e w' => e = .returned (.agg #[.int .i64 (tk c.ts i).kind, .int .i64 (c.pl i), .int .i64 (tk c.ts i).N, .string ⟨(tk c.ts i).S.toArray⟩]) ∧ Below w.heap.size w w' := by
 obtain ⟨t0, t1, t2, t3⟩ := h.tok hi
 obtain ⟨c0, cf⟩ := h.cells
 have hl := c.tm.len
 have hs := c.small
 have nb := h.lt
 have ng := h.glt
 obtain ⟨m, hm⟩ : ∃ m, c.M.length - i = m := ⟨_, rfl⟩
 have z0 : 0 < m := by omega
 have z1 : (0 : Int) < (m : Int) := by omega
 rw [hm] at c0
 have n1 : ¬ c.b = w.heap.size := by omega
 have n2 : ¬ c.g = w.heap.size := by omega
 clear h hm
 generalize c.b = b at *
 generalize c.g = g at *
 generalize c.lc - i = l at *
 generalize tk c.ts i = t at *
 generalize c.pl i = pl at *
 go_enter Tryz.func39, Tryz.ntmps39
 go_wp2_with fail
 refine bodyPost_ret (results_cell_row rfl _ _ w.heap.size 40 #[.int .i64 t.kind, .int .i64 pl, .int .i64 t.N, .string ⟨t.S.toArray⟩] (0, 0) _ rfl (blk_alloc_new _ _) Tryz.underlying40 rfl (by kernel_rfl)) rfl ?_
 exact ⟨rfl, (Below.refl _ _).alloc (Nat.le_refl _) _⟩
theorem B4.below {p : Nat} {a b c : Int} {x : ByteArray} (h : B4 w p a b c x) (k : Below w.heap.size w w') : B4 w' p a b c x := (k.block p (lt_of_some h)).trans h
theorem alloc_only (w : World) (b : Nat) (o : Obj) : OnlyB b w (w.alloc o) := (Only.refl _ w).alloc o
theorem fld0 (a b d e : Value) (w : World) : (Instr.field 40 (.agg #[a, b, d, e]) 0).run Tryz.prog w = .ok a w := by kernel_rfl
theorem fld1 (a b d e : Value) (w : World) : (Instr.field 40 (.agg #[a, b, d, e]) 1).run Tryz.prog w = .ok b w := by kernel_rfl
theorem fld2 (a b d e : Value) (w : World) : (Instr.field 40 (.agg #[a, b, d, e]) 2).run Tryz.prog w = .ok d w := by kernel_rfl
theorem fld3 (a b d e : Value) (w : World) : (Instr.field 40 (.agg #[a, b, d, e]) 3).run Tryz.prog w = .ok e w := by kernel_rfl
theorem giveUp8 (h : PS c w i) (hi : i ≤ c.ts.length) : Calls Tryz.prog 76 #[.pointer (some ⟨c.b, 0, none⟩)] w fun e w' => e = .panicked [faultQ (c.pl i)] ∧ OnlyB c.b w w' := by
 have hp : ∀ v w, Sem.run Tryz.prog (Instr.panic (.iface 61 v)) w = .halt (.panic (.iface 61 v)) w := fun v w => rfl
 have H := hidden h
 have f1 := fld1
 clear h
 go_enter Tryz.func76, Tryz.ntmps76
 go_wp2_with (go_at_call 39; refine (next_any H.out hi).mono ?_; rintro e w1 ⟨rfl, hb⟩; have O1 := hidden (Only.of_below (S := fun k => k = c.b) hb); clear hb)
 exact ⟨rfl, rfl, O1.out⟩
theorem PS.step (h : PS c w i) (hi : i < c.ts.length) {m l : Nat} (hm : c.M.length - i = m) (hl : c.lc - i = l) : PS c (w.setCell ⟨c.b, 0, none⟩ (.slice (some ⟨c.g, i * 4 + 4, none⟩) (m - 1) (l - 1))) (i + 1) := by
 refine ⟨?_, h.toks.keep2 (fun g e hl => ?_)⟩
 ·have := h.pr
  simp only [World.setCell]
  rw [Array.getElem?_modify, if_pos rfl, this]
  simp only [Option.map_some]
  have e1 : i * 4 + 4 = (i + 1) * 4 := by omega
  have e2 : m - 1 = c.M.length - (i + 1) := by omega
  have e3 : l - 1 = c.lc - (i + 1) := by omega
  rw [e1, e2, e3]
  rfl
 ·simp only [Option.some.injEq, Addr.mk.injEq] at e
  exact blk_setCell_other _ _ _ _ (by rw [← e.1]; exact c.other)
theorem PS.fill4 (h : PS c w i) {w0 : World} (h0 : PS c w0 j) {p : Nat} (hp : w0.heap.size ≤ p) (a d e : Int) (x : ByteArray) : PS c (fill4 w p a d e x) i := (((h.own' h0 (a := ⟨p, 0, none⟩) hp _).own' h0 (a := ⟨p, 1, none⟩) hp _).own' h0 (a := ⟨p, 2, none⟩) hp _).own' h0 (a := ⟨p, 3, none⟩) hp _
theorem PS.fill5 (h : PS c w i) {w0 : World} (h0 : PS c w0 j) {p : Nat} (hp : w0.heap.size ≤ p) (a d e : Int) (x : ByteArray) (v : Value) : PS c (fill5 w p a d e x v) i := ((((h.own' h0 (a := ⟨p, 0, none⟩) hp _).own' h0 (a := ⟨p, 1, none⟩) hp _).own' h0 (a := ⟨p, 2, none⟩) hp _).own' h0 (a := ⟨p, 3, none⟩) hp _).own' h0 (a := ⟨p, 4, none⟩) hp _
theorem take8 (h : PS c w i) (hi : i < c.ts.length) : Calls Tryz.prog 71 #[.pointer (some ⟨c.b, 0, none⟩)] w fun e w' => e = .returned (.agg #[.int .i64 (tk c.ts i).kind, .int .i64 (c.pl i), .int .i64 (tk c.ts i).N, .string ⟨(tk c.ts i).S.toArray⟩]) ∧ PS c w' (i + 1) ∧ OnlyB c.b w w' := by
 have H := hidden h
 have nb := h.lt
 have ng := h.glt
 have hl := c.tm.len
 have hs := c.small
 have hcap := c.cap
 obtain ⟨m, hm⟩ : ∃ m, c.M.length - i = m := ⟨_, rfl⟩
 obtain ⟨l, hl'⟩ : ∃ l, c.lc - i = l := ⟨_, rfl⟩
 have z0 : (0 : Int) ≤ 1 ∧ (1 : Int) ≤ (m : Int) := by omega
 have z1 : (m : Int) ≤ (l : Int) := by omega
 have z2 : ¬ l = 1 := by omega
 have HM := hidden hm
 have HL := hidden hl'
 have n1 : c.b ≠ w.heap.size := by omega
 clear h hm hl'
 go_enter Tryz.func71, Tryz.ntmps71
 go_wp2_with (go_at_call 39; refine (next_any (H.out.alloc _) (by omega)).mono ?_; rintro e w1 ⟨rfl, hb⟩; have H1 := hidden ((H.out.alloc _).below hb); have P1 := hidden ((B4.new w 0 0 0 ⟨#[]⟩).below hb); have O1 := hidden ((alloc_only w c.b _).trans (Only.of_below hb)); obtain ⟨c0, cf⟩ := H1.out.cells; rw [HM.out, HL.out] at c0; obtain ⟨p0, p1, p2, p3, pf⟩ := P1.out.cells; have l1 := H1.out.lt; have l2 := lt_of_some P1.out; have m1 : ¬ c.b = w1.heap.size := (by omega); have m2 : ¬ w.heap.size = w1.heap.size := (by omega); clear hb)
 refine bodyPost_ret (results_cell_row rfl _ _ w.heap.size 40 #[.int .i64 (tk c.ts i).kind, .int .i64 (c.pl i), .int .i64 (tk c.ts i).N, .string ⟨(tk c.ts i).S.toArray⟩] (0, 0) _ rfl (((P1.out.other (q := ⟨c.b, 0, none⟩) n1 _).fill (tk c.ts i).kind (c.pl i) (tk c.ts i).N ⟨(tk c.ts i).S.toArray⟩).alloc _) Tryz.underlying40 rfl (by kernel_rfl)) rfl ?_
 exact ⟨rfl, ((H1.out.step hi HM.out HL.out).fill4 H.out (Nat.le_refl _) _ _ _ _).alloc _, ((Only.setCell (a := ⟨c.b, 0, none⟩) O1.out (Or.inr rfl) _).fill4 (Nat.le_refl _) _ _ _ _).alloc _⟩
/-- The sign or word that comes next. -/
def signT (t : Tk) : List UInt8 := if t.kind == 5 then t.S else []
theorem sign8 (h : PS c w i) (hi : i ≤ c.ts.length) : Calls Tryz.prog 69 #[.pointer (some ⟨c.b, 0, none⟩)] w fun e w' => e = .returned (.string ⟨(signT (tk c.ts i)).toArray⟩) ∧ Below w.heap.size w w' := by
 have H := hidden h
 unfold signT
 cases hk : (tk c.ts i).kind == 5 with
 | true =>
  clear h
  go_enter Tryz.func69, Tryz.ntmps69
  go_wp2_with (go_at_call 39; refine (next_any H.out hi).mono ?_; rintro e w1 ⟨rfl, hb⟩; have B1 := hidden hb; clear hb)
  go_ret
  exact ⟨rfl, B1.out.trans ((Below.refl _ _).alloc (by have := B1.out.size; omega) _)⟩
 | false =>
  clear h
  go_enter Tryz.func69, Tryz.ntmps69
  go_wp2_with (go_at_call 39; refine (next_any H.out hi).mono ?_; rintro e w1 ⟨rfl, hb⟩; have B1 := hidden hb; clear hb)
  go_ret
  exact ⟨rfl, B1.out.trans ((Below.refl _ _).alloc (by have := B1.out.size; omega) _)⟩
def strB (s : List UInt8) : ByteArray := ⟨s.toArray⟩
theorem contains_is {ss : List (List UInt8)} (hs : ([] : List UInt8) ∉ ss) (t : Tk) : Lib.containsS (ss.map strB) ⟨(signT t).toArray⟩ = isOne ss t := by
 rw [Bool.eq_iff_iff, Lib.containsS_iff]
 unfold isOne isS signT
 rw [List.any_eq_true]
 constructor
 ·intro h
  obtain ⟨s, h1, h2⟩ := List.mem_map.1 h
  unfold strB at h2
  have e : s = if t.kind == 5 then t.S else [] := by
   have := congrArg (fun b => b.data.toList) h2
   simpa using this
  cases hk : t.kind == 5 with
  | true => rw [hk] at e; simp only [if_true] at e; exact ⟨s, h1, by rw [e]; simp⟩
  | false => rw [hk] at e; simp at e; exact absurd (e ▸ h1) hs
 ·rintro ⟨s, h1, h2⟩
  rw [Bool.and_eq_true, beq_iff_eq (b := s)] at h2
  rw [h2.1]
  simp only [if_true]
  exact List.mem_map.2 ⟨s, h1, by rw [h2.2]; rfl⟩
/-- Texts in a block. -/
def LS (w : World) (gl : Nat) (ss : List (List UInt8)) : Prop := ∀ j, j < ss.length → w.cell? ⟨gl, j, none⟩ = some (.string (strB (ss.getD j [])))
theorem LS.below {gl : Nat} {ss : List (List UInt8)} (h : LS w gl ss) (k : Below w.heap.size w w') : LS w' gl ss := fun j hj => by
 have h1 := h j hj
 rw [← h1]
 exact World.cell?_of_block (a := ⟨gl, j, none⟩) (k.block gl (cell_lt h1))
theorem contains8 {gl n : Nat} {ss : List (List UInt8)} (hn : n = ss.length) (hss : n ≤ 100) (hs : ([] : List UInt8) ∉ ss) (hc : LS w gl ss) (t : Tk) : Calls Tryz.prog 97 #[.slice (some ⟨gl, 0, none⟩) n n, .string ⟨(signT t).toArray⟩] w fun e w' => e = .returned (.bool (isOne ss t)) ∧ w' = w := by
 have e : (ss.map strB).take n = ss.map strB := List.take_of_length_le (by rw [List.length_map]; omega)
 have := Tryz.slices_Contains_string gl 0 n n (ss.map strB) ⟨(signT t).toArray⟩ w (by rw [List.length_map]; omega) (by omega) (fun j hj => by
  rw [List.length_map] at hj
  rw [Nat.zero_add, hc j hj]
  simp [List.getD_eq_getElem?_getD, List.getElem?_eq_getElem hj])
 rw [e, contains_is hs] at this
 exact this
theorem comes8 (h : PS c w i) (hi : i ≤ c.ts.length) (ss : List (List UInt8)) (gl n : Nat) (hn : n = ss.length) (hss : n ≤ 100) (hs : ([] : List UInt8) ∉ ss) (hc : LS w gl ss) : Calls Tryz.prog 77 #[.pointer (some ⟨c.b, 0, none⟩), .slice (some ⟨gl, 0, none⟩) n n] w fun e w' => e = .returned (.bool (isOne ss (tk c.ts i))) ∧ Below w.heap.size w w' := by
 have H := hidden h
 have HC := hidden hc
 have HS := hidden hs
 have HN := hidden hn
 clear h hc hs hn
 go_enter Tryz.func77, Tryz.ntmps77
 go_wp2_with (first
  | (go_at_call 69; refine (sign8 H.out hi).mono ?_; rintro e w1 ⟨rfl, hb⟩; have B1 := hidden hb; clear hb)
  | (go_at_call 97; refine (contains8 HN.out hss HS.out (HC.out.below B1.out) _).mono ?_; rintro e w2 ⟨rfl, rfl⟩))
 go_ret
 exact ⟨rfl, B1.out⟩
theorem one_is (s : List UInt8) (t : Tk) : isOne [s] t = isS s t := by simp [isOne]
theorem LS.new (w : World) (ss : List (List UInt8)) : LS (w.alloc (.cells (ss.map fun s => Value.string ⟨s.toArray⟩).toArray 9)) w.heap.size ss := fun j hj => by
 have hb : (w.alloc (.cells (ss.map fun s => Value.string ⟨s.toArray⟩).toArray 9)).heap[w.heap.size]? = some (.cells (ss.map fun s => Value.string ⟨s.toArray⟩).toArray 9 (0, 0)) := blk_alloc_new _ _
 simp only [World.cell?, hb]
 simp [List.getElem?_eq_getElem hj, strB]
theorem comesN (h : PS c w i) (hi : i ≤ c.ts.length) (ss : List (List UInt8)) (n : Nat) (hn : n = ss.length) (hss : n ≤ 100) (hs : ([] : List UInt8) ∉ ss) : Calls Tryz.prog 77 #[.pointer (some ⟨c.b, 0, none⟩), .slice (some ⟨w.heap.size, 0, none⟩) n n] (w.alloc (.cells (ss.map fun s => Value.string ⟨s.toArray⟩).toArray 9)) fun e w' => e = .returned (.bool (isOne ss (tk c.ts i))) ∧ Below w.heap.size w w' := by
 refine (comes8 (h.alloc _) hi ss w.heap.size n hn hss hs (LS.new w ss)).mono ?_
 rintro e w' ⟨rfl, hb⟩
 exact ⟨rfl, ((Below.refl _ _).alloc (Nat.le_refl _) _).trans (hb.mono (by rw [nblk_alloc]; omega))⟩
theorem comes1 (h : PS c w i) (hi : i ≤ c.ts.length) (s : List UInt8) (hs : s ≠ []) : Calls Tryz.prog 77 #[.pointer (some ⟨c.b, 0, none⟩), .slice (some ⟨w.heap.size, 0, none⟩) 1 1] (w.alloc (.cells #[.string ⟨s.toArray⟩] 9)) fun e w' => e = .returned (.bool (isS s (tk c.ts i))) ∧ Below w.heap.size w w' := by
 have := comesN h hi [s] 1 rfl (by omega) (by simpa using Ne.symm hs)
 rw [one_is] at this
 exact this
/-- has, where the sign comes, and where it doesn't. -/
theorem has_yes (h : PS c w i) (s : List UInt8) (hs : s ≠ []) (hr : isS s (tk c.ts i) = true) : Calls Tryz.prog 41 #[.pointer (some ⟨c.b, 0, none⟩), .string ⟨s.toArray⟩] w fun e w' => e = .returned (.bool true) ∧ PS c w' (i + 1) ∧ OnlyB c.b w w' := by
 have hi := isS_in hr
 have H := hidden h
 have HC := comes1 h (by omega) s hs
 rw [hr] at HC
 have HH := hidden HC
 clear h hr HC
 go_enter Tryz.func41, Tryz.ntmps41
 go_wp2_with (first
  | (go_at_call 77; refine HH.out.mono ?_; rintro e w1 ⟨rfl, hb⟩; have H1 := hidden (H.out.below hb); have B1 := hidden hb; clear hb)
  | (go_at_call 71; refine (take8 H1.out hi).mono ?_; rintro e w2 ⟨rfl, h1, h2⟩; have H2 := hidden h1; have O2 := hidden ((Only.of_below B1.out).trans h2); clear h1 h2))
 go_ret
 exact ⟨rfl, H2.out, O2.out⟩
theorem has_no (h : PS c w i) (hi : i ≤ c.ts.length) (s : List UInt8) (hs : s ≠ []) (hr : isS s (tk c.ts i) = false) : Calls Tryz.prog 41 #[.pointer (some ⟨c.b, 0, none⟩), .string ⟨s.toArray⟩] w fun e w' => e = .returned (.bool false) ∧ Below w.heap.size w w' := by
 have H := hidden h
 have HC := comes1 h hi s hs
 rw [hr] at HC
 have HH := hidden HC
 clear h hr HC
 go_enter Tryz.func41, Tryz.ntmps41
 go_wp2_with (go_at_call 77; refine HH.out.mono ?_; rintro e w1 ⟨rfl, hb⟩; have B1 := hidden hb; clear hb)
 go_ret
 exact ⟨rfl, B1.out⟩
theorem must_yes (h : PS c w i) (s : List UInt8) (hs : s ≠ []) (hr : isS s (tk c.ts i) = true) : Calls Tryz.prog 73 #[.pointer (some ⟨c.b, 0, none⟩), .string ⟨s.toArray⟩] w fun e w' => e = .returned (.tuple #[]) ∧ PS c w' (i + 1) ∧ OnlyB c.b w w' := by
 have H := hidden (has_yes h s hs hr)
 clear h hr
 go_enter Tryz.func73, Tryz.ntmps73
 go_wp2_with (go_at_call 41; refine H.out.mono ?_; rintro e w1 ⟨rfl, h1, h2⟩; have H1 := hidden h1; have O1 := hidden h2; clear h1 h2)
 go_end0
 exact ⟨rfl, H1.out, O1.out⟩
theorem must_no (h : PS c w i) (hi : i ≤ c.ts.length) (s : List UInt8) (hs : s ≠ []) (hr : isS s (tk c.ts i) = false) : Calls Tryz.prog 73 #[.pointer (some ⟨c.b, 0, none⟩), .string ⟨s.toArray⟩] w fun e w' => e = .panicked [faultQ (c.pl i)] ∧ OnlyB c.b w w' := by
 have H := hidden (has_no h hi s hs hr)
 have HP := hidden h
 clear h hr
 go_enter Tryz.func73, Tryz.ntmps73
 go_wp2_with (first
  | (go_at_call 41; refine H.out.mono ?_; rintro e w1 ⟨rfl, h1⟩; have H1 := hidden (HP.out.below h1); have O1 := hidden (Only.of_below (S := fun k => k = c.b) h1); clear h1)
  | (go_at_call 76; refine (giveUp8 H1.out hi).mono ?_; rintro e w2 ⟨rfl, h1⟩; have O2 := hidden (O1.out.trans h1); clear h1))
 exact ⟨rfl, rfl, O2.out⟩
theorem mustBe_yes (h : PS c w i) (k : Int) (h0 : k ≠ 0) (hr : isK k (tk c.ts i) = true) : Calls Tryz.prog 72 #[.pointer (some ⟨c.b, 0, none⟩), .int .i64 k] w fun e w' => e = .returned (.agg #[.int .i64 (tk c.ts i).kind, .int .i64 (c.pl i), .int .i64 (tk c.ts i).N, .string ⟨(tk c.ts i).S.toArray⟩]) ∧ PS c w' (i + 1) ∧ OnlyB c.b w w' := by
 have hi := isK_in hr h0
 have H := hidden h
 have f0 := fld0
 have z : ((tk c.ts i).kind != k) = false := by unfold isK at hr; simpa using hr
 clear h hr
 go_enter Tryz.func72, Tryz.ntmps72
 go_wp2_with (first
  | (go_at_call 39; refine (next_any (H.out.alloc _) (by omega)).mono ?_; rintro e w1 ⟨rfl, hb⟩; have H1 := hidden ((H.out.alloc _).below hb); have P1 := hidden ((B4.new w 0 0 0 ⟨#[]⟩).below hb); have O1 := hidden ((alloc_only w c.b _).trans (Only.of_below hb)); clear hb)
  | (go_at_call 71; refine (take8 H1.out hi).mono ?_; rintro e w2 ⟨rfl, h1, h2⟩; have H2 := hidden h1; have O2 := hidden (O1.out.trans h2); have P2 := hidden (P1.out.only h2 (by have := H.out.lt; omega)); obtain ⟨p0, p1, p2, p3, pf⟩ := P2.out.cells; clear h1 h2))
 refine bodyPost_ret (results_cell_row rfl _ _ w.heap.size 40 #[.int .i64 (tk c.ts i).kind, .int .i64 (c.pl i), .int .i64 (tk c.ts i).N, .string ⟨(tk c.ts i).S.toArray⟩] (0, 0) _ rfl (P2.out.fill (tk c.ts i).kind (c.pl i) (tk c.ts i).N ⟨(tk c.ts i).S.toArray⟩) Tryz.underlying40 rfl (by kernel_rfl)) rfl ?_
 exact ⟨rfl, H2.out.fill4 H.out (Nat.le_refl _) _ _ _ _, O2.out.fill4 (Nat.le_refl _) _ _ _ _⟩
theorem mustBe_no (h : PS c w i) (hi : i ≤ c.ts.length) (k : Int) (hr : isK k (tk c.ts i) = false) : Calls Tryz.prog 72 #[.pointer (some ⟨c.b, 0, none⟩), .int .i64 k] w fun e w' => e = .panicked [faultQ (c.pl i)] ∧ OnlyB c.b w w' := by
 have H := hidden h
 have f0 := fld0
 have z : ((tk c.ts i).kind != k) = true := by unfold isK at hr; simpa using hr
 clear h hr
 go_enter Tryz.func72, Tryz.ntmps72
 go_wp2_with (first
  | (go_at_call 39; refine (next_any (H.out.alloc _) hi).mono ?_; rintro e w1 ⟨rfl, hb⟩; have H1 := hidden ((H.out.alloc _).below hb); have O1 := hidden ((alloc_only w c.b _).trans (Only.of_below hb)); clear hb)
  | (go_at_call 76; refine (giveUp8 H1.out hi).mono ?_; rintro e w2 ⟨rfl, h1⟩; have O2 := hidden (O1.out.trans h1); clear h1))
 exact ⟨rfl, rfl, O2.out⟩
/-- A node's value. -/
def nodV (k p n : Int) (s : List UInt8) (ao : Option Addr) (l cp : Nat) : Value := .agg #[.int .i64 k, .int .i64 p, .int .i64 n, .string ⟨s.toArray⟩, .slice ao l cp]
theorem leaf8 (h : PS c w i) (k : Int) (hi : i < c.ts.length) : Calls Tryz.prog 139 #[.pointer (some ⟨c.b, 0, none⟩), .int .i64 k] w fun e w' => e = .returned (.agg #[.int .i64 k, .int .i64 (c.pl i), .int .i64 (tk c.ts i).N, .string ⟨(tk c.ts i).S.toArray⟩, .slice none 0 0]) ∧ PS c w' (i + 1) ∧ OnlyB c.b w w' := by
 have H := hidden h
 have hb := h.lt
 clear h
 go_enter Tryz.func139, Tryz.ntmps139
 go_wp2_with (go_at_call 71; refine (take8 (H.out.alloc _) hi).mono ?_; rintro e w2 ⟨rfl, h1, h2⟩; have H2 := hidden h1; have O2 := hidden ((alloc_only w c.b _).trans h2); have P2 := hidden ((B5.new w 0 0 0 ⟨#[]⟩ (.slice none 0 0)).only h2 (by omega)); have l2 := P2.out.lt; have l3 : ¬ w.heap.size = w2.heap.size := (by omega); obtain ⟨p0, p1, p2, p3, p4, pf⟩ := P2.out.cells; clear h1 h2)
 refine bodyPost_ret (results_cell_row rfl _ _ w.heap.size 25 #[.int .i64 k, .int .i64 (c.pl i), .int .i64 (tk c.ts i).N, .string ⟨(tk c.ts i).S.toArray⟩, .slice none 0 0] (0, 0) _ rfl ((P2.out.fill k (c.pl i) (tk c.ts i).N ⟨(tk c.ts i).S.toArray⟩ (.slice none 0 0)).alloc _) Tryz.underlying25 rfl (by kernel_rfl)) rfl ?_
 exact ⟨rfl, (H2.out.fill5 H.out (Nat.le_refl _) _ _ _ _ _).alloc _, (O2.out.fill5 (Nat.le_refl _) _ _ _ _ _).alloc _⟩
theorem mark8 (h : PS c w i) (k n : Int) (hi : i < c.ts.length) : Calls Tryz.prog 140 #[.pointer (some ⟨c.b, 0, none⟩), .int .i64 k, .int .i64 n] w fun e w' => e = .returned (.agg #[.int .i64 k, .int .i64 (c.pl i), .int .i64 n, .string ⟨#[]⟩, .slice none 0 0]) ∧ PS c w' (i + 1) ∧ OnlyB c.b w w' := by
 have H := hidden h
 have hb := h.lt
 have f1 := fld1
 clear h
 go_enter Tryz.func140, Tryz.ntmps140
 go_wp2_with (go_at_call 71; refine (take8 (H.out.alloc _) hi).mono ?_; rintro e w2 ⟨rfl, h1, h2⟩; have H2 := hidden h1; have O2 := hidden ((alloc_only w c.b _).trans h2); have P2 := hidden ((B5.new w 0 0 0 ⟨#[]⟩ (.slice none 0 0)).only h2 (by omega)); obtain ⟨p0, p1, p2, p3, p4, pf⟩ := P2.out.cells; clear h1 h2)
 refine bodyPost_ret (results_cell_row rfl _ _ w.heap.size 25 #[.int .i64 k, .int .i64 (c.pl i), .int .i64 n, .string ⟨#[]⟩, .slice none 0 0] (0, 0) _ rfl (P2.out.fill k (c.pl i) n ⟨#[]⟩ (.slice none 0 0)) Tryz.underlying25 rfl (by kernel_rfl)) rfl ?_
 exact ⟨rfl, H2.out.fill5 H.out (Nat.le_refl _) _ _ _ _ _, O2.out.fill5 (Nat.le_refl _) _ _ _ _ _⟩
end
end Go.Proofs.YthjmakjhidjbaaaGreat

/-
 Layer 8, the program's parser: what joins two parts. Condition: the parts lie in memory.
-/
namespace Go.Proofs.YthjmakjhidjbaaaGreat
open Go.ChangeShapes Go.WideShapes Go.ChangeAt Go.RowKit Go.Deep
set_option linter.unusedVariables false
set_option linter.unusedSimpArgs false
set_option maxHeartbeats 1000000
set_option maxRecDepth 20000
attribute [local go_sem ↓] Go.wp_at_zero Go.wp_at_succ

/-- What a rule's method tells. -/
def Got8 (c : PC) (r : Res) (w : World) (e : Ending) (w' : World) : Prop :=
 match r with
 | .ok (x, j) => ∃ (ao : Option Addr) (cp : Nat), e = .returned (.agg #[.int .i64 x.kind, .int .i64 (c.pl x.pl), .int .i64 x.N, .string ⟨x.S.toArray⟩, .slice ao x.L.length cp]) ∧ RL c.pl (fun g => w.heap.size ≤ g) w' x.L ao ∧ PS c w' j ∧ OnlyB c.b w w'
 | .error m => e = .panicked [faultQ (c.pl m)] ∧ OnlyB c.b w w'
/-- A method does as a rule of the grammar says, from a place on. -/
def Rule (c : PC) (k : Nat) (n : NT) (i : Nat) : Prop := ∀ w, PS c w i → Calls Tryz.prog k #[.pointer (some ⟨c.b, 0, none⟩)] w fun e w' => Got8 c (reads c.ts n i) w e w'
abbrev EntersF (k : Nat) : Prop := ∀ args w, (callFunc k args).run Tryz.prog w = .ok (.enter k args) w
/-- Two parts are joined. -/
def JoinOk (c : PC) (jf : Nat) (cap : Array Value) (K : World → Prop) (J : List UInt8 → Nat → Tr → Tr → Tr) : Prop :=
 ∀ (w : World) (P : Nat → Prop) (kd N : Int) (s : List UInt8) (j : Nat) (x y : Tr) (ao ao' : Option Addr) (cp cp' : Nat), K w → RL c.pl P w x.L ao → RL c.pl P w y.L ao' →
  Calls Tryz.prog jf (#[.agg #[.int .i64 kd, .int .i64 (c.pl j), .int .i64 N, .string ⟨s.toArray⟩], .agg #[.int .i64 x.kind, .int .i64 (c.pl x.pl), .int .i64 x.N, .string ⟨x.S.toArray⟩, .slice ao x.L.length cp], .agg #[.int .i64 y.kind, .int .i64 (c.pl y.pl), .int .i64 y.N, .string ⟨y.S.toArray⟩, .slice ao' y.L.length cp']] ++ cap) w fun e w' =>
   ∃ (ao2 : Option Addr) (cp2 : Nat), e = .returned (.agg #[.int .i64 (J s j x y).kind, .int .i64 (c.pl (J s j x y).pl), .int .i64 (J s j x y).N, .string ⟨(J s j x y).S.toArray⟩, .slice ao2 (J s j x y).L.length cp2]) ∧ RL c.pl (fun g => P g ∨ w.heap.size ≤ g) w' (J s j x y).L ao2 ∧ Below w.heap.size w w'
section
variable {c : PC} {w w' : World} {i j : Nat}
theorem blk4 (w : World) (o1 o2 o3 o5 : Obj) (cs : Array Value) (T : TypeId) : (((((w.alloc o1).alloc o2).alloc o3).alloc (.cells cs T)).alloc o5).heap[w.heap.size + 1 + 1 + 1]? = some (.cells cs T (0, 0)) := by
 rw [blk_alloc_lt _ _ _ (by simp only [nblk_alloc]; omega)]
 have e : w.heap.size + 1 + 1 + 1 = (((w.alloc o1).alloc o2).alloc o3).heap.size := by simp only [nblk_alloc]
 rw [e]
 exact blk_alloc_new _ _
theorem blk5 (w : World) (o1 o2 o3 o4 : Obj) (cs : Array Value) (T : TypeId) : (((((w.alloc o1).alloc o2).alloc o3).alloc o4).alloc (.cells cs T)).heap[w.heap.size + 1 + 1 + 1 + 1]? = some (.cells cs T (0, 0)) := by
 have e : w.heap.size + 1 + 1 + 1 + 1 = ((((w.alloc o1).alloc o2).alloc o3).alloc o4).heap.size := by simp only [nblk_alloc]
 rw [e]
 exact blk_alloc_new _ _
theorem below5 (w : World) (o1 o2 o3 o4 o5 : Obj) : Below w.heap.size w (((((w.alloc o1).alloc o2).alloc o3).alloc o4).alloc o5) := (((((Below.refl _ _).alloc (Nat.le_refl _) _).alloc (by simp only [nblk_alloc]; omega) _).alloc (by simp only [nblk_alloc]; omega) _).alloc (by simp only [nblk_alloc]; omega) _).alloc (by simp only [nblk_alloc]; omega) _
theorem RL.to {f : Nat → Int} {P Q : Nat → Prop} {w w' : World} {L : List Tr} {ao : Option Addr} (h : RL f P w L ao) (b : Below w.heap.size w w') (hq : ∀ g, P g → Q g) : RL f Q w' L ao := (h.keep (fun g _ hl => b.block g hl)).mono (fun g hg _ => hq g hg)
theorem binary8 (c : PC) : JoinOk c 158 #[] (fun _ => True) (fun s j x y => .mk 29 j 0 s [x, y]) := by
 intro w P kd N s j x y ao ao' cp cp' _ hx hy
 have HX := hidden hx
 have HY := hidden hy
 clear hx hy
 simp only [Array.append_empty]
 go_enter Tryz.func158, Tryz.ntmps158
 go_wp2_with fail
 refine bodyPost_ret (results_cell_row rfl _ _ (w.heap.size + 1 + 1 + 1) 25 #[.int .i64 29, .int .i64 (c.pl j), .int .i64 0, .string ⟨s.toArray⟩, .slice (some ⟨w.heap.size + 1 + 1 + 1 + 1, 0, none⟩) 2 2] (0, 0) _ rfl (blk4 _ _ _ _ _ _ _) Tryz.underlying25 rfl (by kernel_rfl)) rfl ?_
 have hb := below5 w (.cells #[.int .i64 kd, .int .i64 (c.pl j), .int .i64 N, .string ⟨s.toArray⟩] 40) (.cells #[.int .i64 x.kind, .int .i64 (c.pl x.pl), .int .i64 x.N, .string ⟨x.S.toArray⟩, .slice ao x.L.length cp] 25) (.cells #[.int .i64 y.kind, .int .i64 (c.pl y.pl), .int .i64 y.N, .string ⟨y.S.toArray⟩, .slice ao' y.L.length cp'] 25) (.cells #[.int .i64 29, .int .i64 (c.pl j), .int .i64 0, .string ⟨s.toArray⟩, .slice (some ⟨w.heap.size + 1 + 1 + 1 + 1, 0, none⟩) 2 2] 25) (.cells #[.int .i64 x.kind, .int .i64 (c.pl x.pl), .int .i64 x.N, .string ⟨x.S.toArray⟩, .slice ao x.L.length cp, .int .i64 y.kind, .int .i64 (c.pl y.pl), .int .i64 y.N, .string ⟨y.S.toArray⟩, .slice ao' y.L.length cp'] 25)
 exact ⟨_, _, rfl, RL.two (blk5 _ _ _ _ _ _ _) (Or.inr (by omega)) (HX.out.to hb (fun g hg => Or.inl hg)) (HY.out.to hb (fun g hg => Or.inl hg)), hb⟩
theorem pair8 (c : PC) (kb : Nat) (k : Int) : JoinOk c 129 #[.pointer (some ⟨kb, 0, none⟩)] (fun w => w.cell? ⟨kb, 0, none⟩ = some (.int .i64 k)) (fun s j x y => .mk k j 0 [] [x, y]) := by
 intro w P kd N s j x y ao ao' cp cp' hk hx hy
 have HX := hidden hx
 have HY := hidden hy
 have l1 := cell_lt hk
 have l2 : ¬ kb = w.heap.size := by omega
 have l3 : ¬ kb = w.heap.size + 1 := by omega
 have l4 : ¬ kb = w.heap.size + 1 + 1 := by omega
 have l5 : ¬ kb = w.heap.size + 1 + 1 + 1 := by omega
 have l6 : kb < w.heap.size + 1 := by omega
 have l7 : kb < w.heap.size + 1 + 1 := by omega
 have l8 : kb < w.heap.size + 1 + 1 + 1 := by omega
 clear hx hy
 show Calls Tryz.prog 129 #[.agg #[.int .i64 kd, .int .i64 (c.pl j), .int .i64 N, .string ⟨s.toArray⟩], .agg #[.int .i64 x.kind, .int .i64 (c.pl x.pl), .int .i64 x.N, .string ⟨x.S.toArray⟩, .slice ao x.L.length cp], .agg #[.int .i64 y.kind, .int .i64 (c.pl y.pl), .int .i64 y.N, .string ⟨y.S.toArray⟩, .slice ao' y.L.length cp'], .pointer (some ⟨kb, 0, none⟩)] w _
 go_enter Tryz.func129, Tryz.ntmps129
 go_wp2_with fail
 refine bodyPost_ret (results_cell_row rfl _ _ (w.heap.size + 1 + 1 + 1) 25 #[.int .i64 k, .int .i64 (c.pl j), .int .i64 0, .string ⟨#[]⟩, .slice (some ⟨w.heap.size + 1 + 1 + 1 + 1, 0, none⟩) 2 2] (0, 0) _ rfl (blk4 _ _ _ _ _ _ _) Tryz.underlying25 rfl (by kernel_rfl)) rfl ?_
 have hb := below5 w (.cells #[.int .i64 kd, .int .i64 (c.pl j), .int .i64 N, .string ⟨s.toArray⟩] 40) (.cells #[.int .i64 x.kind, .int .i64 (c.pl x.pl), .int .i64 x.N, .string ⟨x.S.toArray⟩, .slice ao x.L.length cp] 25) (.cells #[.int .i64 y.kind, .int .i64 (c.pl y.pl), .int .i64 y.N, .string ⟨y.S.toArray⟩, .slice ao' y.L.length cp'] 25) (.cells #[.int .i64 k, .int .i64 (c.pl j), .int .i64 0, .string ⟨#[]⟩, .slice (some ⟨w.heap.size + 1 + 1 + 1 + 1, 0, none⟩) 2 2] 25) (.cells #[.int .i64 x.kind, .int .i64 (c.pl x.pl), .int .i64 x.N, .string ⟨x.S.toArray⟩, .slice ao x.L.length cp, .int .i64 y.kind, .int .i64 (c.pl y.pl), .int .i64 y.N, .string ⟨y.S.toArray⟩, .slice ao' y.L.length cp'] 25)
 exact ⟨_, _, rfl, RL.two (blk5 _ _ _ _ _ _ _) (Or.inr (by omega)) (HX.out.to hb (fun g hg => Or.inl hg)) (HY.out.to hb (fun g hg => Or.inl hg)), hb⟩
theorem pairF (k : Int) (w : World) : Calls Tryz.prog 114 #[.int .i64 k] w fun e w' => e = .returned (.func (.func 129) #[] #[.pointer (some ⟨w.heap.size, 0, none⟩)]) ∧ w'.cell? ⟨w.heap.size, 0, none⟩ = some (.int .i64 k) ∧ w'.heap.size = w.heap.size + 1 ∧ Below w.heap.size w w' := by
 have hmf : ∀ (fn : Fn) (first cap : Array Value) (w : World), (Instr.makeFunc fn first cap).run Tryz.prog w = .ok (.func fn first cap) w := fun _ _ _ _ => rfl
 go_enter Tryz.func114, Tryz.ntmps114
 go_wp2_with fail
 go_ret
 have hb : (w.alloc (.cells #[.int .i64 k] 3)).heap[w.heap.size]? = some (.cells #[.int .i64 k] 3 (0, 0)) := blk_alloc_new _ _
 exact ⟨rfl, by simp only [World.cell?, hb]; rfl, nblk_alloc _ _, (Below.refl _ _).alloc (Nat.le_refl _) _⟩
theorem pairL (c : PC) (kb : Nat) (k : Int) (w : World) (P : Nat → Prop) (kd N : Int) (s : List UInt8) (j : Nat) (x y : Tr) (ao ao' : Option Addr) (cp cp' : Nat) (hk : w.cell? ⟨kb, 0, none⟩ = some (.int .i64 k)) (hx : RL c.pl P w x.L ao) (hy : RL c.pl P w y.L ao') :
  Calls Tryz.prog 129 #[.agg #[.int .i64 kd, .int .i64 (c.pl j), .int .i64 N, .string ⟨s.toArray⟩], .agg #[.int .i64 x.kind, .int .i64 (c.pl x.pl), .int .i64 x.N, .string ⟨x.S.toArray⟩, .slice ao x.L.length cp], .agg #[.int .i64 y.kind, .int .i64 (c.pl y.pl), .int .i64 y.N, .string ⟨y.S.toArray⟩, .slice ao' y.L.length cp'], .pointer (some ⟨kb, 0, none⟩)] w fun e w' =>
   ∃ (ao2 : Option Addr) (cp2 : Nat), e = .returned (.agg #[.int .i64 k, .int .i64 (c.pl j), .int .i64 0, .string ⟨#[]⟩, .slice ao2 2 cp2]) ∧ RL c.pl (fun g => P g ∨ w.heap.size ≤ g) w' [x, y] ao2 ∧ Below w.heap.size w w' := pair8 c kb k w P kd N s j x y ao ao' cp cp' hk hx hy
theorem B4.on {p : Nat} {a b d : Int} {x : ByteArray} (h : B4 w p a b d x) (hb : Below w.drew.heap.size w.drew w') : B4 w' p a b d x := (hb.block p (lt_of_some h)).trans h
theorem B5.on {p : Nat} {a b d : Int} {x : ByteArray} {v : Value} (h : B5 w p a b d x v) (hb : Below w.drew.heap.size w.drew w') : B5 w' p a b d x v := (hb.block p (lt_of_some h)).trans h
theorem cell_on2 {w w' : World} {g o : Nat} {v : Value} (hb : Below w.heap.size w w') (h : w.cell? ⟨g, o, none⟩ = some v) : w'.cell? ⟨g, o, none⟩ = some v := by
 rw [← h]
 exact World.cell?_of_block (a := ⟨g, o, none⟩) (hb.block g (cell_lt h))
theorem far5 {w : World} {p q o : Nat} {v : Value} {a b d : Int} {x : ByteArray} {u : Value} {ob : Obj} (h : w.cell? ⟨p, o, none⟩ = some v) (hne : p ≠ q) : ((fill5 w q a b d x u).alloc ob).cell? ⟨p, o, none⟩ = some v := by
 rw [← h]
 refine World.cell?_of_block (a := ⟨p, o, none⟩) ?_
 have hl := cell_lt h
 show ((Go.Proofs.YthjmakjhidjbaaaGreat.fill5 w q a b d x u).alloc ob).heap[p]? = _
 rw [blk_alloc_lt _ _ _ (by unfold Go.Proofs.YthjmakjhidjbaaaGreat.fill5; simp only [nblk_setCell]; exact hl)]
 exact fill5_blk w hne a b d x u
theorem far5' {w : World} {p q o : Nat} {v : Value} {a b d : Int} {x : ByteArray} {u : Value} (h : w.cell? ⟨p, o, none⟩ = some v) (hne : p ≠ q) : (fill5 w q a b d x u).cell? ⟨p, o, none⟩ = some v := by
 rw [← h]
 exact World.cell?_of_block (a := ⟨p, o, none⟩) (fill5_blk w hne a b d x u)
theorem fill_new (w : World) (q : Nat) (a b d : Int) (x : ByteArray) (u : Value) (cs : Array Value) (T : TypeId) : ((fill5 w q a b d x u).alloc (.cells cs T)).heap[w.heap.size]? = some (.cells cs T (0, 0)) := by
 have e : w.heap.size = (fill5 w q a b d x u).heap.size := by unfold fill5; simp only [nblk_setCell]
 rw [e]
 exact blk_alloc_new _ _
theorem below_fill {w0 w : World} {q : Nat} (h : Below w0.heap.size w0 w) (hq : w0.heap.size ≤ q) (a b d : Int) (x : ByteArray) (u : Value) (ob : Obj) : Below w0.heap.size w0 ((fill5 w q a b d x u).alloc ob) :=
 (((Only.of_below (S := fun _ => False) h).fill5 hq a b d x u).alloc ob).below (Nat.le_refl _) (fun _ _ c => c)
theorem applied8 (c : PC) (kb tb : Nat) (k t : Int) : JoinOk c 165 #[.pointer (some ⟨kb, 0, none⟩), .pointer (some ⟨tb, 0, none⟩)] (fun w => w.cell? ⟨kb, 0, none⟩ = some (.int .i64 k) ∧ w.cell? ⟨tb, 0, none⟩ = some (.int .i64 t)) (fun s j x y => .mk k j 0 s [.mk t j 0 [] [x, y]]) := by
 rintro w P kd N s j x y ao ao' cp cp' ⟨hk, ht⟩ hx hy
 have HX := hidden hx
 have HY := hidden hy
 have l1 := cell_lt hk
 have m1 := cell_lt ht
 clear hx hy
 show Calls Tryz.prog 165 #[.agg #[.int .i64 kd, .int .i64 (c.pl j), .int .i64 N, .string ⟨s.toArray⟩], .agg #[.int .i64 x.kind, .int .i64 (c.pl x.pl), .int .i64 x.N, .string ⟨x.S.toArray⟩, .slice ao x.L.length cp], .agg #[.int .i64 y.kind, .int .i64 (c.pl y.pl), .int .i64 y.N, .string ⟨y.S.toArray⟩, .slice ao' y.L.length cp'], .pointer (some ⟨kb, 0, none⟩), .pointer (some ⟨tb, 0, none⟩)] w _
 go_enter Tryz.func165, Tryz.ntmps165
 go_wp2_with fail
 obtain ⟨W, hW⟩ : ∃ W, (((w.alloc (.cells #[.int .i64 kd, .int .i64 (c.pl j), .int .i64 N, .string ⟨s.toArray⟩] 40)).alloc (.cells #[.int .i64 x.kind, .int .i64 (c.pl x.pl), .int .i64 x.N, .string ⟨x.S.toArray⟩, .slice ao x.L.length cp] 25)).alloc (.cells #[.int .i64 y.kind, .int .i64 (c.pl y.pl), .int .i64 y.N, .string ⟨y.S.toArray⟩, .slice ao' y.L.length cp'] 25)).alloc (.cells #[.int .i64 0, .int .i64 0, .int .i64 0, .string ⟨#[]⟩, .slice none 0 0] 25) = W := ⟨_, rfl⟩
 have b0 : Below w.heap.size w W := by rw [← hW]; exact (((((Below.refl _ _).alloc (Nat.le_refl _) _).alloc (by simp only [nblk_alloc]; omega) _).alloc (by simp only [nblk_alloc]; omega) _).alloc (by simp only [nblk_alloc]; omega) _)
 have zW : W.heap.size = w.heap.size + 1 + 1 + 1 + 1 := by rw [← hW]; simp only [nblk_alloc]
 have T0 : B4 W w.heap.size kd (c.pl j) N ⟨s.toArray⟩ := by rw [← hW]; exact (((B4.new _ _ _ _ _).alloc _).alloc _).alloc _
 have X0 : B5 W (w.heap.size + 1) x.kind (c.pl x.pl) x.N ⟨x.S.toArray⟩ (.slice ao x.L.length cp) := by rw [← hW]; exact ((B5.newAt _ _ _ _ _ (by simp only [nblk_alloc])).alloc _).alloc _
 have Y0 : B5 W (w.heap.size + 1 + 1) y.kind (c.pl y.pl) y.N ⟨y.S.toArray⟩ (.slice ao' y.L.length cp') := by rw [← hW]; exact (B5.newAt _ _ _ _ _ (by simp only [nblk_alloc])).alloc _
 have R0 : B5 W (w.heap.size + 1 + 1 + 1) 0 0 0 ⟨#[]⟩ (.slice none 0 0) := by rw [← hW]; exact B5.newAt _ _ _ _ _ (by simp only [nblk_alloc])
 have k0 : W.cell? ⟨kb, 0, none⟩ = some (.int .i64 k) := by rw [← hk]; exact World.cell?_of_block (a := ⟨kb, 0, none⟩) (b0.block kb l1)
 have k1 : W.cell? ⟨tb, 0, none⟩ = some (.int .i64 t) := by rw [← ht]; exact World.cell?_of_block (a := ⟨tb, 0, none⟩) (b0.block tb m1)
 have HX0 := hidden ((HX.out.mono (Q := fun g => P g ∧ g < w.heap.size) (fun g hg hl => ⟨hg, hl⟩)).to b0 (fun g hg => hg))
 have HY0 := hidden ((HY.out.mono (Q := fun g => P g ∧ g < w.heap.size) (fun g hg hl => ⟨hg, hl⟩)).to b0 (fun g hg => hg))
 rw [hW]
 obtain ⟨t0, t1, t2, t3, tf⟩ := T0.cells
 obtain ⟨x0, x1, x2, x3, x4, xf⟩ := X0.cells
 obtain ⟨y0, y1, y2, y3, y4, yf⟩ := Y0.cells
 have HB := hidden b0
 have HR := hidden R0
 have HT := hidden T0
 have HX5 := hidden X0
 have HY5 := hidden Y0
 have hmf : EntersF 129 := enters_of Tryz.func129 (by kernel_rfl) rfl
 clear hW hk ht T0 X0 Y0 R0 b0 HX HY tf xf yf
 go_region_held3 (fun w' => w'.cell? ⟨kb, 0, none⟩ = some (.int .i64 k) ∧ w'.cell? ⟨tb, 0, none⟩ = some (.int .i64 t) ∧ w'.cell? ⟨w.heap.size, 0, none⟩ = some (.int .i64 kd) ∧ w'.cell? ⟨w.heap.size, 1, none⟩ = some (.int .i64 (c.pl j)) ∧ w'.cell? ⟨w.heap.size, 2, none⟩ = some (.int .i64 N) ∧ w'.cell? ⟨w.heap.size, 3, none⟩ = some (.string ⟨s.toArray⟩)
   ∧ w'.cell? ⟨w.heap.size + 1, 0, none⟩ = some (.int .i64 x.kind) ∧ w'.cell? ⟨w.heap.size + 1, 1, none⟩ = some (.int .i64 (c.pl x.pl)) ∧ w'.cell? ⟨w.heap.size + 1, 2, none⟩ = some (.int .i64 x.N) ∧ w'.cell? ⟨w.heap.size + 1, 3, none⟩ = some (.string ⟨x.S.toArray⟩) ∧ w'.cell? ⟨w.heap.size + 1, 4, none⟩ = some (.slice ao x.L.length cp)
   ∧ w'.cell? ⟨w.heap.size + 1 + 1, 0, none⟩ = some (.int .i64 y.kind) ∧ w'.cell? ⟨w.heap.size + 1 + 1, 1, none⟩ = some (.int .i64 (c.pl y.pl)) ∧ w'.cell? ⟨w.heap.size + 1 + 1, 2, none⟩ = some (.int .i64 y.N) ∧ w'.cell? ⟨w.heap.size + 1 + 1, 3, none⟩ = some (.string ⟨y.S.toArray⟩) ∧ w'.cell? ⟨w.heap.size + 1 + 1, 4, none⟩ = some (.slice ao' y.L.length cp')) (first | (go_keep; done) | ((repeat' apply And.intro) <;> exact far5 (by assumption) (by omega)))
  (first
   | (go_at_call 114; refine (pairF t _).mono ?_; rintro e w2 ⟨rfl, q1, q2, hb⟩; have B2 := hidden hb; have n0 := cell_on hb k0; have n1 := cell_on hb k1; obtain ⟨r0, r1, r2, r3, rf⟩ := (HT.out.on hb).cells; obtain ⟨u0, u1, u2, u3, u4, uf⟩ := (HX5.out.on hb).cells; obtain ⟨v0, v1, v2, v3, v4, vf⟩ := (HY5.out.on hb).cells; clear hb rf uf vf)
   | (go_at_call 129; refine (pairL c _ t w2 (fun g => P g ∧ g < w.heap.size) kd N s j x y ao ao' cp cp' (zW ▸ q1) (HX0.out.to ((drew_below W).trans B2.out) (fun g hg => hg)) (HY0.out.to ((drew_below W).trans B2.out) (fun g hg => hg))).mono ?_; rintro e w3 ⟨ao2, cp2, rfl, hl, hb⟩; have B3 := hidden hb; have L3 := hidden hl; clear hl; have p0 := cell_on2 hb n0; have p1 := cell_on2 hb n1; have X3 := hidden ((HR.out.on B2.out).below hb (Nat.le_refl _)); obtain ⟨x30, x31, x32, x33, x34, x3f⟩ := X3.out.cells; obtain ⟨r40, r41, r42, r43, r4f⟩ := ((HT.out.on B2.out).below hb).cells; obtain ⟨u40, u41, u42, u43, u44, u4f⟩ := ((HX5.out.on B2.out).below hb (Nat.le_refl _)).cells; obtain ⟨v40, v41, v42, v43, v44, v4f⟩ := ((HY5.out.on B2.out).below hb (Nat.le_refl _)).cells; have z3 := X3.out.lt; have z4 := Nat.ne_of_lt z3; clear hb r4f u4f v4f))
 clear k0 k1 t0 t1 t2 t3 x0 x1 x2 x3 x4 y0 y1 y2 y3 y4 n0 n1 r0 r1 r2 r3 u0 u1 u2 u3 u4 v0 v1 v2 v3 v4 p0 p1 r40 r41 r42 r43 u40 u41 u42 u43 u44 v40 v41 v42 v43 v44
 go_wp2_with fail
 refine bodyPost_ret (results_cell_row rfl _ _ (w.heap.size + 1 + 1 + 1) 25 #[.int .i64 k, .int .i64 (c.pl j), .int .i64 0, .string ⟨s.toArray⟩, .slice (some ⟨w3.heap.size, 0, none⟩) 1 1] (0, 0) _ rfl ((X3.out.fill _ _ _ _ _).alloc _) Tryz.underlying25 rfl (by kernel_rfl)) rfl ?_
 have bb : Below w.heap.size w w3 := (HB.out.trans (((drew_below W).trans B2.out).mono (by omega))).trans (B3.out.mono (by have := B2.out.size; have : W.drew.heap.size = W.heap.size := rfl; omega))
 have z5 : w.heap.size + 1 + 1 + 1 < w3.heap.size := z3
 have L4 : RL c.pl (fun g => (P g ∨ w.heap.size ≤ g) ∧ g ≠ w.heap.size + 1 + 1 + 1) w3 [x, y] ao2 := L3.out.mono (fun g hg _ => by
  have h1 : w2.heap.size = W.heap.size + 1 := q2
  rcases hg with ⟨h2, h3⟩ | h2
  ·exact ⟨Or.inl h2, by omega⟩
  ·exact ⟨Or.inr (by omega), by omega⟩)
 exact ⟨_, _, rfl, RL.one (x := .mk t j 0 [] [x, y]) (fill_new _ _ _ _ _ _ _ _ _) (Or.inr (by omega)) ((L4.fill5 (fun g hg => hg.2) _ _ _ _ _).alloc _ |>.mono (fun g hg _ => hg.1)), below_fill bb (by omega) _ _ _ _ _ _⟩
theorem appliedF (k t : Int) (w : World) : Calls Tryz.prog 162 #[.int .i64 k, .int .i64 t] w fun e w' => e = .returned (.func (.func 165) #[] #[.pointer (some ⟨w.heap.size, 0, none⟩), .pointer (some ⟨w.heap.size + 1, 0, none⟩)]) ∧ (w'.cell? ⟨w.heap.size, 0, none⟩ = some (.int .i64 k) ∧ w'.cell? ⟨w.heap.size + 1, 0, none⟩ = some (.int .i64 t)) ∧ w'.heap.size = w.heap.size + 2 ∧ Below w.heap.size w w' := by
 have hmf : ∀ (fn : Fn) (first cap : Array Value) (w : World), (Instr.makeFunc fn first cap).run Tryz.prog w = .ok (.func fn first cap) w := fun _ _ _ _ => rfl
 go_enter Tryz.func162, Tryz.ntmps162
 go_wp2_with fail
 go_ret
 have h1 : ((w.alloc (.cells #[.int .i64 k] 3)).alloc (.cells #[.int .i64 t] 3)).heap[w.heap.size]? = some (.cells #[.int .i64 k] 3 (0, 0)) := (blk_alloc_lt _ _ _ (by rw [nblk_alloc]; omega)).trans (blk_alloc_new _ _)
 have h2 : ((w.alloc (.cells #[.int .i64 k] 3)).alloc (.cells #[.int .i64 t] 3)).heap[w.heap.size + 1]? = some (.cells #[.int .i64 t] 3 (0, 0)) := by
  rw [← nblk_alloc w (.cells #[.int .i64 k] 3)]
  exact blk_alloc_new _ _
 exact ⟨rfl, ⟨by simp only [World.cell?, h1]; rfl, by simp only [World.cell?, h2]; rfl⟩, by simp only [nblk_alloc], ((Below.refl _ _).alloc (Nat.le_refl _) _).alloc (by rw [nblk_alloc]; omega) _⟩
end
end Go.Proofs.YthjmakjhidjbaaaGreat

/-
 A region that draws its order and whose last operation turns what an earlier one read: a condition on the world that holds behind every operation but the last one lets reads be taken first, if the last one waits for them. No program is named.
-/
namespace Go.Proofs.YthjmakjhidjbaaaGreat
/-! The rules by which an operation and its frame are laid open, with short names. -/
theorem q1 {α : Type _} {xs : List α} {i : Nat} (h : i < xs.toArray.size) : xs.toArray[i] = xs[i]'(by simpa using h) := rfl
theorem q2 {α : Type _} {a : α} {l : List α} (h : 0 < (a :: l).length) : (a :: l)[0]'h = a := rfl
theorem q3 {α : Type _} {a : α} {l : List α} {i : Nat} (h : i + 1 < (a :: l).length) : (a :: l)[i + 1]'h = l[i]'(Nat.lt_of_succ_lt_succ h) := rfl
theorem q4 {α : Type _} {xs : List α} {i : Nat} {a : α} : xs.toArray.setIfInBounds i a = (xs.set i a).toArray := List.setIfInBounds_toArray ..
theorem q5 {α : Type _} {a b : α} {l : List α} : (a :: l).set 0 b = b :: l := rfl
theorem q6 {α : Type _} {a b : α} {l : List α} {i : Nat} : (a :: l).set (i + 1) b = a :: l.set i b := rfl
section
variable {P : Program} {ops : Array Oper} {Q : Exit → Act → World → Prop} {md : Region.Mode} {S : World → Prop} {kz : Nat}

/-- Whatever order is picked from here on; and S holds behind each operation but number kz. -/
def AnyTill (P : Program) (md : Region.Mode) (ops : Array Oper) (Q : Exit → Act → World → Prop) (S : World → Prop) (kz : Nat) : Nat → Array Bool → Act → World → Prop
 | 0, done, a, w => Region.ready md ops done = [] ∧ Q .normal a w
 | n + 1, done, a, w => (Region.ready md ops done = [] → Q .normal a w) ∧
  ∀ k ∈ Region.ready md ops done, wpOp P ops Q k (fun b u => (k ≠ kz → S u) ∧ AnyTill P md ops Q S kz n (done.setIfInBounds k true) b u) a w
theorem AnyTill.any : ∀ {n : Nat} {done : Array Bool} {a : Act} {w : World}, AnyTill P md ops Q S kz n done a w → wpAny P md ops Q n done a w
 | 0, _, _, _, h => h
 | _ + 1, _, _, _, h => ⟨h.1, fun k hk => wpOp_mono (fun _ _ h' => h'.2.any) (h.2 k hk)⟩
/-- Operation kz waits for operation i. -/
def waitsFor (md : Region.Mode) (ops : Array Oper) (kz i : Nat) : Bool := match ops[kz]? with
 | none => true
 | some o => o.after.any fun e => Region.binds md e && e.on == i
theorem waits_not {i : Nat} {done : Array Bool} (h : waitsFor md ops kz i = true) (hi : i ∈ Region.ready md ops done) : ¬ kz ∈ Region.ready md ops done := by
 intro hk
 obtain ⟨_, o, ho, hall⟩ := mem_ready.1 hk
 have h0 := (mem_ready.1 hi).1
 unfold waitsFor at h
 rw [ho] at h
 obtain ⟨e, he, hc⟩ : ∃ e, e ∈ o.after ∧ (Region.binds md e && e.on == i) = true := by
  rw [Array.any_eq_true] at h
  obtain ⟨n, hn, hc⟩ := h
  exact ⟨_, Array.getElem_mem hn, hc⟩
 rw [Bool.and_eq_true, beq_iff_eq] at hc
 have h1 := hall e he hc.1
 rw [hc.2] at h1
 rcases Nat.lt_or_ge i done.size with hl | hl
 ·simp [hl] at h0 h1
  rw [h0] at h1; cases h1
 ·simp [Array.getElem?_eq_none hl] at h1
/-- Number i first: it gives v in every world that meets S; who could come ahead of it lets it be; and kz waits for it. -/
theorem AnyTill.first {i : Nat} {oi : Oper} {v : Value} (hi : ops[i]? = some oi) (hsel : ∀ (j : Nat) (o : Oper) cs b, ops[j]? = some o → o.op ≠ .select cs b)
  (hQ : ∀ c a w, Q (.panic c) (a.put oi.dst v) w → Q (.panic c) a w) (hw : waitsFor md ops kz i = true) :
  ∀ (n : Nat) {done : Array Bool} {a : Act} {w : World},
   (∀ j oj, ops[j]? = some oj → j ≠ i → done.getD j true = false → (∀ e ∈ oj.after, Region.binds md e = true → e.on ≠ i) → oi.apart ops oj = true) →
   i ∈ Region.ready md ops done → YieldsIf P ops S oi v a → S w →
   AnyTill P md ops Q S kz n (done.setIfInBounds i true) (a.put oi.dst v) w → AnyTill P md ops Q S kz (n + 1) done a w := by
 intro n
 induction n with
 | zero =>
  intro done a w _ hr hy hS H
  refine ⟨fun h => (by rw [h] at hr; cases hr), fun k hk => ?_⟩
  by_cases e : k = i
  ·subst e
   exact hy.wpOp hi hS ⟨fun _ => hS, H⟩
  ·have h1 := ready_mono hk e
   rw [H.1] at h1
   cases h1
 | succ n ih =>
  intro done a w hap hr hy hS H
  refine ⟨fun h => (by rw [h] at hr; cases hr), fun k hk => ?_⟩
  by_cases e : k = i
  ·subst e
   exact hy.wpOp hi hS ⟨fun _ => hS, H⟩
  ·have hne : k ≠ kz := fun e2 => waits_not hw hr (e2 ▸ hk)
   obtain ⟨hun, ok, hok, hall⟩ := mem_ready.1 hk
   have hno : ∀ x ∈ ok.after, Region.binds md x = true → x.on ≠ i := fun x hx hb hxi => by
    have h1 := hall x hx hb
    have h0 := (mem_ready.1 hr).1
    rw [hxi] at h1
    rcases Nat.lt_or_ge i done.size with hl | hl
    ·simp [hl] at h0 h1
     rw [h0] at h1; cases h1
    ·simp [Array.getElem?_eq_none hl] at h1
   have step := wpOp_putIf hok (hap k ok hok e hun hno) (fun cs b => hsel i oi cs b hi) (fun cs b => hsel k ok cs b hok) hQ hy (H.2 k (ready_mono hk e))
   refine wpOp_mono (fun b u h3 => ⟨h3.2.1, ih (fun j oj hj hji hun' hno' => hap j oj hj hji ?_ hno') (ready_mono hr (Ne.symm e)) h3.1 (h3.2.1 hne) ?_⟩) step
   ·by_cases ekj : k = j
    ·subst ekj; exact hun
    ·rw [getD_set_ne true ekj] at hun'; exact hun'
   ·rw [Array.setIfInBounds_comm _ _ e]
    exact h3.2.2
theorem AnyTill.take {i : Nat} {oi : Oper} {v : Value} {n : Nat} {done : Array Bool} {a : Act} {w : World} (hi : ops[i]? = some oi)
  (hs : Region.noSelect ops = true) (hf : Region.free md ops done i = true) (hr : (Region.ready md ops done).contains i = true) (hw : waitsFor md ops kz i = true)
  (hQ : ∀ c a w, Q (.panic c) (a.put oi.dst v) w → Q (.panic c) a w) (hy : YieldsIf P ops S oi v a) (hS : S w)
  (h : AnyTill P md ops Q S kz n (done.setIfInBounds i true) (a.put oi.dst v) w) : AnyTill P md ops Q S kz (n + 1) done a w :=
 AnyTill.first hi (Region.noSelect_spec hs) hQ hw n (Region.free_spec hi hf) (by simpa using hr) hy hS h
/-- As take, what is found by running left to itself. -/
theorem AnyTill.tk {i : Nat} {oi : Oper} {v : Value} {n : Nat} {done : Array Bool} {a : Act} {w : World} (hS : S w)
  (hy : ∀ w, S w → (execOp a.eval oi).run P w = .ok (.value v) w)
  (h : AnyTill P md ops Q S kz n (done.setIfInBounds i true) (a.put oi.dst v) w)
  (hi : ops[i]? = some oi := by exact rfl) (hs : Region.noSelect ops = true := by kernel_rfl) (hf : Region.free md ops done i = true := by kernel_rfl) (hr : (Region.ready md ops done).contains i = true := by kernel_rfl) (hw : waitsFor md ops kz i = true := by kernel_rfl)
  (hQ : ∀ c a w, Q (.panic c) (a.put oi.dst v) w → Q (.panic c) a w := by exact fun _ _ _ h => h) (hwn : Region.wanted oi (yielded ops a.tmps) = true := by rfl) : AnyTill P md ops Q S kz (n + 1) done a w :=
 AnyTill.take hi hs hf hr hw hQ (Or.inl ⟨hwn, hy⟩) hS h
/-- One alone may come up. -/
theorem AnyTill.one {i : Nat} {o : Oper} {n : Nat} {done : Array Bool} {a : Act} {w : World} (hr : Region.ready md ops done = [i]) (ho : ops[i]? = some o)
  (h : ∀ K : Act → World → Prop, Shut (∀ b u, (i ≠ kz → S u) → AnyTill P md ops Q S kz n (done.setIfInBounds i true) b u → K b u) → if Region.wanted o (yielded ops a.tmps) = true then Oper.wp P o a w K Q else K (a.put o.dst undef) w) :
  AnyTill P md ops Q S kz (n + 1) done a w := by
 refine ⟨fun h0 => (by rw [hr] at h0; cases h0), fun k hk => ?_⟩
 rw [hr] at hk
 have e : k = i := by simpa using hk
 subst e
 exact wpOp_step ho (fun K hK => h K (fun b u h1 h2 => hK b u ⟨h1, h2⟩))
/-- One of two may come up. -/
theorem AnyTill.two {i j : Nat} {o o' : Oper} {n : Nat} {done : Array Bool} {a : Act} {w : World} (hr : Region.ready md ops done = [i, j]) (ho : ops[i]? = some o) (ho' : ops[j]? = some o')
  (h : ∀ K : Act → World → Prop, Shut (∀ b u, (i ≠ kz → S u) → AnyTill P md ops Q S kz n (done.setIfInBounds i true) b u → K b u) → if Region.wanted o (yielded ops a.tmps) = true then Oper.wp P o a w K Q else K (a.put o.dst undef) w)
  (h' : ∀ K : Act → World → Prop, Shut (∀ b u, (j ≠ kz → S u) → AnyTill P md ops Q S kz n (done.setIfInBounds j true) b u → K b u) → if Region.wanted o' (yielded ops a.tmps) = true then Oper.wp P o' a w K Q else K (a.put o'.dst undef) w) :
  AnyTill P md ops Q S kz (n + 1) done a w := by
 refine ⟨fun h0 => (by rw [hr] at h0; cases h0), fun k hk => ?_⟩
 rw [hr] at hk
 have e : k = i ∨ k = j := by simpa using hk
 rcases e with e | e
 ·subst e
  exact wpOp_step ho (fun K hK => h K (fun b u h1 h2 => hK b u ⟨h1, h2⟩))
 ·subst e
  exact wpOp_step ho' (fun K hK => h' K (fun b u h1 h2 => hK b u ⟨h1, h2⟩))
theorem AnyTill.done {done : Array Bool} {a : Act} {w : World} (hr : Region.ready md ops done = []) (h : Q .normal a w) : ∀ n, AnyTill P md ops Q S kz n done a w
 | 0 => ⟨hr, h⟩
 | _ + 1 => ⟨fun _ => h, by rw [hr]; simp⟩
theorem region_till {id : Nat} {a : Act} {w : World} (hm : P.follows .mixedOrders = true) (hS : S w.drew)
  (h : S w.drew → AnyTill P .any ops Q S kz ops.size (Array.replicate ops.size false) a w.drew) : (Code.region id ops true).wp P Q a w :=
 wp_region_any hm (h hS).any
end
end Go.Proofs.YthjmakjhidjbaaaGreat

/-
 Layer 8, the program's parser: what joins from the right. Condition: the rules that it is made of do as the grammar says.
-/
namespace Go.Proofs.YthjmakjhidjbaaaGreat
open Go.ChangeShapes Go.WideShapes Go.ChangeAt Go.RowKit Go.Deep
set_option linter.unusedVariables false
set_option linter.unusedSimpArgs false
set_option maxHeartbeats 1000000
set_option maxRecDepth 20000
attribute [local go_sem ↓] Go.wp_at_zero Go.wp_at_succ

/-- A part, and, behind a sign, another one. -/
def rightR (ts : List Tk) (n1 n2 : NT) (sg : List UInt8) (J : List UInt8 → Nat → Tr → Tr → Tr) (i : Nat) : Res :=
 match reads ts n1 i with
 | .error m => .error m
 | .ok (x, j) => if isS sg (tk ts j) then (match reads ts n2 (j + 1) with | .error m => .error m | .ok (y, q) => .ok (J sg j x y, q)) else .ok (x, j)
/-- What a rule that joins from the right has caught. -/
structure FR (c : PC) (w : World) (s k1 k2 jf : Nat) (cap : Array Value) (sg : List UInt8) : Prop where
 p : w.cell? ⟨s, 0, none⟩ = some (.pointer (some ⟨c.b, 0, none⟩))
 nx : w.cell? ⟨s + 1, 0, none⟩ = some (.func (.func k1) #[.pointer (some ⟨c.b, 0, none⟩)] #[])
 rs : w.cell? ⟨s + 2, 0, none⟩ = some (.func (.func k2) #[.pointer (some ⟨c.b, 0, none⟩)] #[])
 jn : w.cell? ⟨s + 3, 0, none⟩ = some (.func (.func jf) #[] cap)
 sn : w.cell? ⟨s + 4, 0, none⟩ = some (.string ⟨sg.toArray⟩)
section
variable {c : PC} {w w' : World} {i j : Nat}
theorem PS.drew (h : PS c w i) : PS c w.drew i := h.drewN 1
theorem only_cell {S : Nat → Prop} {g o : Nat} {v : Value} (k : Only S w w') (hg : ¬ S g) (h : w.cell? ⟨g, o, none⟩ = some v) : w'.cell? ⟨g, o, none⟩ = some v := by
 rw [← h]
 exact World.cell?_of_block (a := ⟨g, o, none⟩) (k.block g (cell_lt h) hg)
theorem FR.only {s k1 k2 jf : Nat} {cap : Array Value} {sg : List UInt8} (h : FR c w s k1 k2 jf cap sg) (k : OnlyB c.b w w') (hs : c.b < s) : FR c w' s k1 k2 jf cap sg :=
 ⟨only_cell k (by omega) h.p, only_cell k (by omega) h.nx, only_cell k (by omega) h.rs, only_cell k (by omega) h.jn, only_cell k (by omega) h.sn⟩
theorem FR.lt {s k1 k2 jf : Nat} {cap : Array Value} {sg : List UInt8} (h : FR c w s k1 k2 jf cap sg) : s + 4 < w.heap.size := cell_lt h.sn
theorem comes1' (h : PS c w i) (hi : i ≤ c.ts.length) (s : List UInt8) (hs : s ≠ []) {gl : Nat} (hg : w.heap.size = gl) : Calls Tryz.prog 77 #[.pointer (some ⟨c.b, 0, none⟩), .slice (some ⟨gl, 0, none⟩) 1 1] (w.alloc (.cells #[.string ⟨s.toArray⟩] 9)) fun e w' => e = .returned (.bool (isS s (tk c.ts i))) ∧ Below w.heap.size w w' := hg ▸ comes1 h hi s hs
theorem drew_only {S : Nat → Prop} (h : Only S w.drew w') : Only S w w' := ((Only.refl S w).drew).trans h
theorem isS_is {ts : List Tk} {s : List UInt8} (h : isS s (tk ts j) = true) : (tk ts j).S = s ∧ (tk ts j).kind = 5 := by
 unfold isS at h
 rw [Bool.and_eq_true, beq_iff_eq, beq_iff_eq] at h
 exact ⟨h.2, h.1⟩
theorem right1 {s k1 k2 jf : Nat} {cap : Array Value} {sg : List UInt8} {K : World → Prop} {J : List UInt8 → Nat → Tr → Tr → Tr} {n1 n2 : NT}
  (h : PS c w i) (hi : i ≤ c.ts.length) (hf : FR c w s k1 k2 jf cap sg) (hs : c.b < s) (hsg : sg ≠ []) (hh : hard n1 = true)
  (hK : K w) (hKk : ∀ w w', K w → OnlyB c.b w w' → K w') (hJ : JoinOk c jf cap K J) (e1 : EntersF k1) (e2 : EntersF k2) (e3 : EntersF jf)
  (r1 : Rule c k1 n1 i) (r2 : ∀ j, i < j → j ≤ c.ts.length → Rule c k2 n2 j) :
  Calls Tryz.prog 126 #[.pointer (some ⟨s + 1, 0, none⟩), .pointer (some ⟨s, 0, none⟩), .pointer (some ⟨s + 4, 0, none⟩), .pointer (some ⟨s + 3, 0, none⟩), .pointer (some ⟨s + 2, 0, none⟩)] w fun e w' => Got8 c (rightR c.ts n1 n2 sg J i) w e w' := by
 obtain ⟨R, hR⟩ : ∃ R, rightR c.ts n1 n2 sg J i = R := ⟨_, rfl⟩
 rw [hR]
 unfold rightR at hR
 have hl := hf.lt
 have hb := h.lt
 have H := hidden h
 have HF := hidden hf
 have HK := hidden hK
 have HKk := hidden hKk
 have HJ := hidden hJ
 have H1 := hidden r1
 have H2 := hidden r2
 have fn := reads_fine (ts := c.ts) n1 hi
 have c0 := hf.nx
 have l1 : s + 1 < w.heap.size := by omega
 have l2 : ¬ s + 1 = w.heap.size := by omega
 clear h hf hK hKk hJ r1 r2
 go_enter Tryz.func126, Tryz.ntmps126
 go_wp2_with fail
 refine (H1.out _ (H.out.alloc _)).mono ?_
 intro e w1 hg
 cases hx : reads c.ts n1 i with
 | error m =>
  rw [hx] at hg hR
  obtain ⟨rfl, ho⟩ := hg
  subst hR
  exact ⟨rfl, rfl, (alloc_only w c.b _).trans ho⟩
 | ok xj =>
  obtain ⟨x, j⟩ := xj
  rw [hx] at hg hR fn
  obtain ⟨ao, cp, rfl, hl1, hp1, ho1⟩ := hg
  have f1 : j ≤ c.ts.length := fn.2.1
  have f2 : i < j := fn.2.2 x j rfl hh
  have O1 := hidden ((alloc_only w c.b _).trans ho1)
  have P1 := hidden hp1
  have X1 := hidden (hl1.mono (Q := fun g => w.heap.size + 1 ≤ g ∧ g < w1.heap.size) (fun g g1 g2 => ⟨by simpa using g1, g2⟩))
  have Z1 := hidden ((B5.new w 0 0 0 ⟨#[]⟩ (.slice none 0 0)).only ho1 (by omega))
  have F1 := hidden (HF.out.only O1.out hs)
  have K1 := hidden (HKk.out _ _ HK.out O1.out)
  have c1 := F1.out.p
  have c2 := F1.out.sn
  have l3 := F1.out.lt
  have l4 : ¬ s = w1.heap.size := by omega
  have l4' : s < w1.heap.size := by omega
  have l5 : ¬ s + 4 = w1.heap.size := by omega
  clear hl1 hp1 ho1 c0 hx fn H1
  simp only at hR
  cases hs2 : isS sg (tk c.ts j) with
  | false =>
   rw [hs2] at hR
   have HR : Hid (.ok (x, j) = R) := hR
   have HC := comes1' (P1.out.alloc (.cells #[.int .i64 x.kind, .int .i64 (c.pl x.pl), .int .i64 x.N, .string ⟨x.S.toArray⟩, .slice ao x.L.length cp] 25)) f1 sg hsg (nblk_alloc _ _)
   rw [hs2] at HC
   have HC1 := hidden HC
   clear hR hs2 HC
   go_wp2_with (go_at_call 77; refine HC1.out.mono ?_; rintro e w2 ⟨rfl, hb2⟩; have P2 := hidden ((P1.out.alloc _).below hb2); have O2 := hidden ((O1.out.alloc _).trans (Only.of_below hb2)); have Z2 := hidden ((Z1.out.alloc _).below hb2 (Nat.le_refl _)); have N2 := hidden ((B5.new w1 x.kind (c.pl x.pl) x.N ⟨x.S.toArray⟩ (.slice ao x.L.length cp)).below hb2 (Nat.le_refl _)); have X2 := hidden ((X1.out.alloc _).to hb2 (fun g hg => hg)); obtain ⟨z0, z1, z2, z3, z4, zf⟩ := Z2.out.cells; obtain ⟨q0, q1, q2, q3, q4, qf⟩ := N2.out.cells; clear hb2)
   refine bodyPost_ret (results_cell_row rfl _ _ w.heap.size 25 #[.int .i64 x.kind, .int .i64 (c.pl x.pl), .int .i64 x.N, .string ⟨x.S.toArray⟩, .slice ao x.L.length cp] (0, 0) _ rfl (Z2.out.fill _ _ _ _ _) Tryz.underlying25 rfl (by kernel_rfl)) rfl ?_
   rw [← HR.out]
   exact ⟨_, _, rfl, (X2.out.fill5 (fun g hg => by omega) _ _ _ _ _).mono (fun g hg _ => by omega), P2.out.fill5 H.out (Nat.le_refl _) _ _ _ _ _, O2.out.fill5 (Nat.le_refl _) _ _ _ _ _⟩
  | true =>
   have hlt := isS_in hs2
   have hS := isS_is hs2
   rw [hs2] at hR
   simp only [if_true] at hR
   have HC := comes1' (P1.out.alloc (.cells #[.int .i64 x.kind, .int .i64 (c.pl x.pl), .int .i64 x.N, .string ⟨x.S.toArray⟩, .slice ao x.L.length cp] 25)) f1 sg hsg (nblk_alloc _ _)
   rw [hs2] at HC
   have HC1 := hidden HC
   have HR := hidden hR
   clear hR hs2 HC
   go_wp2_with (go_at_call 77; refine HC1.out.mono ?_; rintro e w2 ⟨rfl, hb2⟩; have P2 := hidden ((P1.out.alloc _).below hb2); have O2 := hidden ((O1.out.alloc _).trans (Only.of_below hb2)); have Z2 := hidden ((Z1.out.alloc _).below hb2 (Nat.le_refl _)); have N2 := hidden ((B5.new w1 x.kind (c.pl x.pl) x.N ⟨x.S.toArray⟩ (.slice ao x.L.length cp)).below hb2 (Nat.le_refl _)); have X2 := hidden ((X1.out.alloc _).to hb2 (fun g hg => hg)); clear hb2)
   have F2 := hidden (HF.out.only O2.out hs)
   have K2 := hidden (HKk.out _ _ HK.out O2.out)
   have l6 := Z1.out.lt
   have l7 : c.b < w1.heap.size := P1.out.lt
   have l8 := N2.out.lt
   generalize w1.heap.size = q at *
   obtain ⟨n0, n1', n2', n3, n4, nf⟩ := N2.out.cells
   have g0 := F2.out.p
   have g1 := F2.out.jn
   have g2 := F2.out.rs
   clear c1 c2 HC1 nf
   refine region_till (S := (fun w' => w'.cell? ⟨s, 0, none⟩ = some (.pointer (some ⟨c.b, 0, none⟩)) ∧ w'.cell? ⟨s + 3, 0, none⟩ = some (.func (.func jf) #[] cap) ∧ w'.cell? ⟨s + 2, 0, none⟩ = some (.func (.func k2) #[.pointer (some ⟨c.b, 0, none⟩)] #[]) ∧ w'.cell? ⟨q, 0, none⟩ = some (.int .i64 x.kind) ∧ w'.cell? ⟨q, 1, none⟩ = some (.int .i64 (c.pl x.pl)) ∧ w'.cell? ⟨q, 2, none⟩ = some (.int .i64 x.N) ∧ w'.cell? ⟨q, 3, none⟩ = some (.string ⟨x.S.toArray⟩) ∧ w'.cell? ⟨q, 4, none⟩ = some (.slice ao x.L.length cp))) (kz := 7) (by kernel_rfl) ⟨g0, g1, g2, n0, n1', n2', n3, n4⟩ (fun hHeld => ?_)
   refine AnyTill.tk (i := 0) (v := ?_) hHeld ?_ ?_
   rotate_left
   ·(intro w hSw; (try dsimp only at hSw); go_simp; (try with_reducible rfl))
   (try simp only [Act.put, q4, q5, q6, q1, q2, q3])
   refine AnyTill.tk (i := 1) (v := ?_) hHeld ?_ ?_
   rotate_left
   ·(intro w hSw; (try dsimp only at hSw); go_simp; (try with_reducible rfl))
   (try simp only [Act.put, q4, q5, q6, q1, q2, q3])
   refine AnyTill.tk (i := 3) (v := ?_) hHeld ?_ ?_
   rotate_left
   ·(intro w hSw; (try dsimp only at hSw); go_simp; (try with_reducible rfl))
   (try simp only [Act.put, q4, q5, q6, q1, q2, q3])
   refine AnyTill.tk (i := 4) (v := ?_) hHeld ?_ ?_
   rotate_left
   ·(intro w hSw; (try dsimp only at hSw); go_simp; (try with_reducible rfl))
   (try simp only [Act.put, q4, q5, q6, q1, q2, q3])
   refine AnyTill.one (i := 2) (by kernel_rfl) rfl (fun K hK => ?_)
   (try simp only [q1, q2, q3])
   go_simp
   refine (take8 P2.out.drew hlt).mono ?_
   rintro e w4 ⟨rfl, hp4, ho4'⟩
   have ho4 := drew_only ho4'
   have P4 := hidden hp4
   have O4 := hidden (O2.out.trans ho4)
   have F4 := hidden (HF.out.only O4.out hs)
   have N4 := hidden (N2.out.only ho4 (by omega))
   have X4 := hidden (X2.out.onlyI ho4 (by omega))
   have Z4 := hidden (Z2.out.only ho4 (by omega))
   have s4 := ho4.size
   obtain ⟨d3, d4, d5, d6, d7, d8⟩ := N4.out.cells
   refine hK.out _ _ (fun _ => ⟨F4.out.p, F4.out.jn, F4.out.rs, d3, d4, d5, d6, d7⟩) ?_
   clear hp4 ho4 ho4' d3 d4 d5 d6 d7 d8 hHeld
   clear hK K
   (try simp only [Act.put, q4, q5, q6, q1, q2, q3])
   refine AnyTill.one (i := 5) (by kernel_rfl) rfl (fun K hK => ?_)
   (try simp only [q1, q2, q3])
   go_simp
   refine (H2.out (j + 1) (by omega) hlt w4 P4.out).mono ?_
   intro e w5 hg5
   cases hy : reads c.ts n2 (j + 1) with
   | error m =>
    rw [hy] at hg5
    obtain ⟨rfl, ho5⟩ := hg5
    have HE : Except.error m = R := by have := HR.out; rw [hy] at this; exact this
    subst HE
    exact ⟨rfl, rfl, O4.out.trans ho5⟩
   | ok yq =>
    obtain ⟨y, e⟩ := yq
    rw [hy] at hg5
    have HE : Hid (Except.ok (J sg j x y, e) = R) := by have := HR.out; rw [hy] at this; exact this
    obtain ⟨ao5, cp5, rfl, hl5, hp5, ho5⟩ := hg5
    have Y5 := hidden hl5
    have P5 := hidden hp5
    have O5 := hidden (O4.out.trans ho5)
    have F5 := hidden (HF.out.only O5.out hs)
    have N5 := hidden (N4.out.only ho5 (by omega))
    have X5 := hidden (X4.out.onlyI ho5 (by omega))
    have Z5 := hidden (Z4.out.only ho5 (by omega))
    have s5 := ho5.size
    obtain ⟨d3, d4, d5, d6, d7, d8⟩ := N5.out.cells
    refine hK.out _ _ (fun _ => ⟨F5.out.p, F5.out.jn, F5.out.rs, d3, d4, d5, d6, d7⟩) ?_
    clear hl5 hp5 ho5 d3 d4 d5 d6 d7 d8 hy HR H2
    clear hK K
    (try simp only [Act.put, q4, q5, q6, q1, q2, q3])
    refine AnyTill.one (i := 6) (by kernel_rfl) rfl (fun K hK => ?_)
    (try simp only [q1, q2, q3])
    go_simp
    refine (HJ.out w5 (fun g => w.heap.size + 1 ≤ g ∧ g ≠ q ∧ g < w5.heap.size) _ _ sg j x y ao ao5 cp cp5 (HKk.out _ _ HK.out O5.out) (X5.out.mono (fun g hg hl => by omega)) (Y5.out.mono (fun g hg hl => by omega))).mono ?_
    rintro e6 w6 ⟨ao6, cp6, rfl, hl6, hb6⟩
    have L6 := hidden (hl6.mono (Q := fun g => w.heap.size + 1 ≤ g) (fun g hg _ => by omega))
    have P6 := hidden (P5.out.below hb6)
    have O6 := hidden (O5.out.trans (Only.of_below hb6))
    have Z6 := hidden (Z5.out.below hb6 (Nat.le_refl _))
    have F6 := hidden (HF.out.only O6.out hs)
    have N6 := hidden (N5.out.below hb6 (Nat.le_refl _))
    obtain ⟨d3, d4, d5, d6, d7, d8⟩ := N6.out.cells
    refine hK.out _ _ (fun _ => ⟨F6.out.p, F6.out.jn, F6.out.rs, d3, d4, d5, d6, d7⟩) ?_
    clear hl6 hb6 d3 d4 d5 d6 d7 d8
    clear hK K
    (try simp only [Act.put, q4, q5, q6, q1, q2, q3])
    obtain ⟨z0, z1, z2, z3, z4, zf⟩ := Z6.out.cells
    refine AnyTill.one (i := 7) (by kernel_rfl) rfl (fun K hK => ?_)
    (try simp only [q1, q2, q3])
    go_simp
    refine hK.out _ _ (fun h => absurd rfl h) ?_
    clear hK K
    (try simp only [Act.put, q4, q5, q6, q1, q2, q3])
    refine AnyTill.done (by kernel_rfl) ?_ _
    (try simp only [Act.put, q4, q5, q6, q1, q2, q3])
    go_wp2_with fail
    refine bodyPost_ret (results_cell_row rfl _ _ w.heap.size 25 #[.int .i64 (J sg j x y).kind, .int .i64 (c.pl (J sg j x y).pl), .int .i64 (J sg j x y).N, .string ⟨(J sg j x y).S.toArray⟩, .slice ao6 (J sg j x y).L.length cp6] (0, 0) _ rfl (Z6.out.fill _ _ _ _ _) Tryz.underlying25 rfl (by kernel_rfl)) rfl ?_
    rw [← HE.out]
    exact ⟨_, _, rfl, (L6.out.fill5 (fun g hg => by omega) _ _ _ _ _).mono (fun g hg _ => by omega), P6.out.fill5 H.out (Nat.le_refl _) _ _ _ _ _, O6.out.fill5 (Nat.le_refl _) _ _ _ _ _⟩
theorem cellN (w : World) (v : Value) (T : TypeId) {g : Nat} (hg : w.heap.size = g) : (w.alloc (.cells #[v] T)).cell? ⟨g, 0, none⟩ = some v := by
 have hb : (w.alloc (.cells #[v] T)).heap[g]? = some (.cells #[v] T (0, 0)) := hg ▸ blk_alloc_new _ _
 simp only [World.cell?, hb]
 rfl
theorem cellL {w : World} {g o : Nat} {v : Value} (h : w.cell? ⟨g, o, none⟩ = some v) (ob : Obj) : (w.alloc ob).cell? ⟨g, o, none⟩ = some v := by
 rw [← h]
 exact World.cell?_of_block (a := ⟨g, o, none⟩) (blk_alloc_lt _ _ _ (cell_lt h))
theorem FR.new (c : PC) (w : World) (k1 k2 jf : Nat) (cap : Array Value) (sg : List UInt8) : FR c (((((w.alloc (.cells #[.pointer (some ⟨c.b, 0, none⟩)] 63)).alloc (.cells #[.func (.func k1) #[.pointer (some ⟨c.b, 0, none⟩)] #[]] 108)).alloc (.cells #[.func (.func k2) #[.pointer (some ⟨c.b, 0, none⟩)] #[]] 108)).alloc (.cells #[.func (.func jf) #[] cap] 110)).alloc (.cells #[.string ⟨sg.toArray⟩] 9)) w.heap.size k1 k2 jf cap sg :=
 ⟨cellL (cellL (cellL (cellL (cellN _ _ _ rfl) _) _) _) _, cellL (cellL (cellL (cellN _ _ _ (by simp only [nblk_alloc])) _) _) _, cellL (cellL (cellN _ _ _ (by simp only [nblk_alloc])) _) _, cellL (cellN _ _ _ (by simp only [nblk_alloc])) _, cellN _ _ _ (by simp only [nblk_alloc])⟩
theorem rightF {k1 k2 jf : Nat} {cap : Array Value} {sg : List UInt8} (h : PS c w i) : Calls Tryz.prog 112 #[.pointer (some ⟨c.b, 0, none⟩), .func (.func k1) #[.pointer (some ⟨c.b, 0, none⟩)] #[], .func (.func k2) #[.pointer (some ⟨c.b, 0, none⟩)] #[], .func (.func jf) #[] cap, .string ⟨sg.toArray⟩] w fun e w' => e = .returned (.func (.func 126) #[] #[.pointer (some ⟨w.heap.size + 1, 0, none⟩), .pointer (some ⟨w.heap.size, 0, none⟩), .pointer (some ⟨w.heap.size + 4, 0, none⟩), .pointer (some ⟨w.heap.size + 3, 0, none⟩), .pointer (some ⟨w.heap.size + 2, 0, none⟩)]) ∧ FR c w' w.heap.size k1 k2 jf cap sg ∧ Below w.heap.size w w' := by
 have hmf : ∀ (fn : Fn) (first cap : Array Value) (w : World), (Instr.makeFunc fn first cap).run Tryz.prog w = .ok (.func fn first cap) w := fun _ _ _ _ => rfl
 clear h
 go_enter Tryz.func112, Tryz.ntmps112
 go_wp2_with fail
 go_ret
 exact ⟨rfl, FR.new c w k1 k2 jf cap sg, below5 w _ _ _ _ _⟩
end
end Go.Proofs.YthjmakjhidjbaaaGreat

/-
 Layer 8, the program's parser: rows of nodes that a call owns, beside a node that is being made. No condition but that they lie in memory.
-/
namespace Go.Proofs.YthjmakjhidjbaaaGreat
open Go.ChangeShapes Go.WideShapes Go.ChangeAt Go.RowKit Go.Deep
set_option linter.unusedVariables false
set_option linter.unusedSimpArgs false
set_option maxHeartbeats 1000000
set_option maxRecDepth 20000

/-- Nodes in a row of the call's own; what they lead to lies at B or above, not in the row itself, and not at q. -/
structure NWq (f : Nat → Int) (w : World) (B q : Nat) (v : Value) (L : List ND) : Prop where
 own : w.ownsRow B 25 5 v L.length (flat5 f L)
 ne : v.ownBlock ≠ some q
 rl : ∀ d ∈ L, RL f (fun g => B ≤ g ∧ g ≠ q ∧ v.ownBlock ≠ some g) w d.t.L d.ao
section
variable {f : Nat → Int} {w w' : World} {B q b : Nat} {v : Value} {L : List ND} {P : Nat → Prop} {K : List Tr} {ao : Option Addr}
theorem RL.onlyQ (h : RL f P w K ao) (o : OnlyB b w w') (hb : ∀ g, P g → g ≠ b) : RL f P w' K ao := h.keep (fun g hg hl => o.block g hl (hb g hg))
theorem RL.set (h : RL f P w K ao) {a : Addr} (hq : ∀ g, P g → g ≠ a.block) (u : Value) : RL f P (w.setCell a u) K ao := h.keep (fun g hg _ => blk_setCell_other _ _ _ _ (hq g hg))
theorem NWq.slice (h : NWq f w B q v L) : ∃ ao c, v = .slice ao L.length c := by
 rcases h.own.2 with ⟨rfl, e⟩ | ⟨g, cap, cur, rfl, _⟩
 ·rw [e]; exact ⟨none, 0, rfl⟩
 ·exact ⟨_, cap, rfl⟩
theorem NWq.keep (h : NWq f w B q v L) (k : ∀ g, B ≤ g → g ≠ q → g < w.heap.size → w'.heap[g]? = w.heap[g]?) : NWq f w' B q v L := by
 refine ⟨⟨h.own.1, ?_⟩, h.ne, fun d hd => (h.rl d hd).keep (fun g hg hl => k g hg.1 hg.2.1 hl)⟩
 rcases h.own.2 with c | ⟨g, cap, cur, e, hb, hg, rest⟩
 ·exact Or.inl c
 ·have hq : g ≠ q := fun c => h.ne (by rw [e, ← c]; rfl)
  exact Or.inr ⟨g, cap, cur, e, hb, (k g hb hq (lt_of_some hg)).trans hg, rest⟩
theorem NWq.only (h : NWq f w B q v L) (o : OnlyB b w w') (hb : b < B) : NWq f w' B q v L := h.keep (fun g hg _ hl => o.block g hl (by intro (c : g = b); omega))
theorem NWq.alloc (h : NWq f w B q v L) (o : Obj) : NWq f (w.alloc o) B q v L := h.keep (fun g _ _ hl => blk_alloc_lt _ _ _ hl)
theorem NWq.set (h : NWq f w B q v L) (o : Nat) (u : Value) : NWq f (w.setCell ⟨q, o, none⟩ u) B q v L := h.keep (fun g _ hq _ => blk_setCell_other _ _ _ _ hq)
theorem NWq.low (h : NWq f w B q v L) {a : Addr} (ha : a.block < B) (u : Value) : NWq f (w.setCell a u) B q v L := h.keep (fun g hg _ _ => blk_setCell_other _ _ _ _ (by omega))
theorem NWq.drew (h : NWq f w B q v L) : NWq f w.drew B q v L := h.keep (fun _ _ _ _ => rfl)
theorem NWq.nil (f : Nat → Int) (w : World) (B q : Nat) : NWq f w B q (.slice none 0 0) [] := ⟨⟨rfl, Or.inl ⟨rfl, rfl⟩⟩, by simp [Value.ownBlock], fun d hd => by cases hd⟩
/-- A row of its own is a tree's. -/
theorem NWq.tree {n c : Nat} (h : NWq f w B q (.slice ao n c) L) : RL f (fun g => B ≤ g ∧ g ≠ q) w (L.map ND.t) ao ∧ n = L.length := by
 have hn : n = L.length := by
  rcases h.own.2 with ⟨e, e2⟩ | ⟨g, cap, cur, e, _⟩
  ·simp only [Value.slice.injEq] at e; omega
  ·simp only [Value.slice.injEq] at e; exact e.2.1
 refine ⟨?_, hn⟩
 refine .mk (fun k => (L[k]?.map ND.ao).getD none) (fun k => (L[k]?.map ND.cp).getD 0) (fun k t hk => ?_) (fun k t hk => ?_)
 ·rw [List.getElem?_map] at hk
  cases hd : L[k]? with
  | none => rw [hd] at hk; cases hk
  | some d =>
   rw [hd] at hk
   simp only [Option.map_some, Option.some.injEq] at hk
   subst hk
   have hkl : k < L.length := (List.getElem?_eq_some_iff.1 hd).1
   rcases h.own.2 with ⟨e, e2⟩ | ⟨g, cap, cur, e, hb, hg, hc, hm, hs, ht⟩
   ·omega
   ·have hne : g ≠ q := fun c => h.ne (by rw [e, ← c]; rfl)
    simp only [Value.slice.injEq] at e
    obtain ⟨rfl, _, rfl⟩ := e
    have hcell : ∀ j, j < 5 → w.cell? ⟨g, k * 5 + j, none⟩ = (d.cells f)[j]? := fun j hj => by
     have h1 := flat5_at f L k j d hd hj
     rw [← ht, List.getElem?_take, if_pos (by omega)] at h1
     have h2 : cur[k * 5 + j]? = (d.cells f)[j]? := by rw [← h1]; simp
     simp only [World.cell?, hg]
     rw [← h2]
     simp
    refine ⟨g, rfl, ⟨hb, hne⟩, hcell 0 (by omega), hcell 1 (by omega), hcell 2 (by omega), hcell 3 (by omega), ?_⟩
    simp only [hd, Option.map_some, Option.getD_some]
    exact hcell 4 (by omega)
 ·rw [List.getElem?_map] at hk
  cases hd : L[k]? with
  | none => rw [hd] at hk; cases hk
  | some d =>
   rw [hd] at hk
   simp only [Option.map_some, Option.some.injEq] at hk
   subst hk
   simp only [hd, Option.map_some, Option.getD_some]
   exact (h.rl d (List.mem_of_getElem? hd)).mono (fun g hg _ => ⟨hg.1, hg.2.1⟩)
/-- A row of one that was just laid. -/
theorem NWq.one {g : Nat} {x : Tr} {c : Nat} (hb : w.heap[g]? = some (.cells #[.int .i64 x.kind, .int .i64 (f x.pl), .int .i64 x.N, .string ⟨x.S.toArray⟩, .slice ao x.L.length c] 25 (0, 0))) (hg : B ≤ g) (hq : g ≠ q) (hx : RL f (fun k => B ≤ k ∧ k ≠ q ∧ k ≠ g) w x.L ao) : NWq f w B q (.slice (some ⟨g, 0, none⟩) 1 1) [⟨x, ao, c⟩] := by
 refine ⟨⟨by rw [flat5_len], Or.inr ⟨g, 1, _, rfl, hg, hb, Nat.le_refl _, by unfold maxLen; omega, rfl, ?_⟩⟩, by simpa [Value.ownBlock] using hq, fun d hd => ?_⟩
 ·simp [flat5, ND.cells]
 ·rw [List.mem_singleton.1 hd]
  exact hx.mono (fun k hk _ => ⟨hk.1, hk.2.1, by simpa [Value.ownBlock] using (Ne.symm hk.2.2)⟩)
/-- Behind an append. -/
theorem NWq.more {D : List ND} {g cap : Nat} (hown : NWq f w B q v L) (hd : ∀ d ∈ D, RL f (fun g => B ≤ g ∧ g ≠ q ∧ v.ownBlock ≠ some g) w d.t.L d.ao) (hqw : q < w.heap.size)
  (q1 : w'.ownsRow B 25 5 (.slice (some ⟨g, 0, none⟩) (L.length + D.length) cap) (L.length + D.length) (flat5 f L ++ flat5 f D)) (q2 : w.grownBy w' v.ownBlock) (q3 : v.ownBlock = some g ∨ g = w.heap.size) : NWq f w' B q (.slice (some ⟨g, 0, none⟩) (L.length + D.length) cap) (L ++ D) := by
 have hgq : g ≠ q := by
  rcases q3 with q3 | q3
  ·exact fun c => hown.ne (by rw [q3, c])
  ·omega
 refine ⟨?_, by simpa [Value.ownBlock] using hgq, ?_⟩
 ·rw [flat5_app, List.length_append]
  exact q1
 ·have key : ∀ (t : Tr) (ao : Option Addr), RL f (fun g => B ≤ g ∧ g ≠ q ∧ v.ownBlock ≠ some g) w t.L ao → RL f (fun g' => B ≤ g' ∧ g' ≠ q ∧ (Value.slice (some ⟨g, 0, none⟩) (L.length + D.length) cap).ownBlock ≠ some g') w' t.L ao := fun t ao hr => by
   have h1 : RL f (fun g' => B ≤ g' ∧ g' ≠ q ∧ v.ownBlock ≠ some g' ∧ g' < w.heap.size) w t.L ao := hr.mono (fun g' hg hl => ⟨hg.1, hg.2.1, hg.2.2, hl⟩)
   refine (h1.keep (w' := w') (fun g' hg hl => q2.block g' hl (fun e => hg.2.2.1 e.symm))).mono (fun g' hg _ => ⟨hg.1, hg.2.1, fun e => ?_⟩)
   have e2 : g = g' := by simpa [Value.ownBlock] using e
   rcases q3 with q3 | q3
   ·exact hg.2.2.1 (by rw [q3, e2])
   ·omega
  intro d' hd'
  rcases List.mem_append.1 hd' with hm | hm
  ·exact key d'.t d'.ao (hown.rl d' hm)
  ·exact key d'.t d'.ao (hd d' hm)
theorem flat5_one (f : Nat → Int) (D : List ND) : ∀ y ∈ flat5 f D, y.oneCell' = true := by
 intro y hy
 unfold flat5 at hy
 obtain ⟨d, _, h⟩ := List.mem_flatMap.1 hy
 simp [ND.cells] at h
 rcases h with rfl | rfl | rfl | rfl | rfl <;> rfl
/-- append, in a region that draws. -/
theorem step_nodes {ops : Array Oper} {o : Oper} {a : Act} {K : Act → World → Prop} {Q : Exit → Act → World → Prop} {E : Prop} (hgd : o.guard = none) (s x : Operand)
  (ho : o.op = .call { callee := .builtin .append, args := #[s, x], argTypes := #[23, 23] }) (v : Value) (L D : List ND) (hs : a.eval s = v) (hown : NWq f w B q v L) (hqw : q < w.heap.size)
  (gx c : Nat) (hx : a.eval x = .slice (some ⟨gx, 0, none⟩) D.length c) (hnews : ∀ j u, (flat5 f D)[j]? = some u → w.cell? ((Addr.mk gx 0 none).add j) = some u) (hd : ∀ d ∈ D, RL f (fun g => B ≤ g ∧ g ≠ q ∧ v.ownBlock ≠ some g) w d.t.L d.ao) (h0 : 0 < D.length) (hn : L.length + D.length ≤ 1000000) (hB : B ≤ w.heap.size)
  (h : ∀ ao' n' c' w', NWq f w' B q (.slice ao' n' c') (L ++ D) → w.grownBy w' v.ownBlock → K (a.put o.dst (.slice ao' n' c')) w') : if Region.wanted o (yielded ops a.tmps) = true then o.wp Tryz.prog a w K Q else E := by
 obtain ⟨i0, hi, hz0, hz1, hz2⟩ := info_parts infoN
 refine step_append_lies (w := w) (E := E) hgd s x 23 ho B 25 i0 _ 5 64 Tryz.underlying23 hi hz0 hz1 hz2 rfl (by decide) v L.length (flat5 f L) hs hown.own ⟨gx, 0, none⟩ D.length c (flat5 f D) hx (flat5_len f D) hnews (flat5_one f D) h0 (by unfold maxLen; omega) (by omega) hB _ rfl ?_
 intro g cap w' q1 q2 q3 q4
 exact h _ _ _ w' (hown.more hd hqw q1 q2 q3) q2
theorem news_one {gx : Nat} {d : ND} {fr : Nat × Nat} (hu : w.heap[gx]? = some (.cells #[.int .i64 d.t.kind, .int .i64 (f d.t.pl), .int .i64 d.t.N, .string ⟨d.t.S.toArray⟩, .slice d.ao d.t.L.length d.cp] 25 fr)) : ∀ j u, (flat5 f [d])[j]? = some u → w.cell? ((Addr.mk gx 0 none).add j) = some u := fun j y hy => World.news_of_block hu j y (by simpa [flat5, ND.cells] using hy)
/-- append, where the region doesn't draw. -/
theorem app_nodes {ops : Array Oper} {rest : List Oper} {o : Oper} {a : Act} {Q : Exit → Act → World → Prop} (hgd : o.guard = none) (s x : Operand)
  (ho : o.op = .call { callee := .builtin .append, args := #[s, x], argTypes := #[23, 23] }) (v : Value) (L D : List ND) (hs : a.eval s = v) (hown : NWq f w B q v L) (hqw : q < w.heap.size)
  (gx c : Nat) (hx : a.eval x = .slice (some ⟨gx, 0, none⟩) D.length c) (hnews : ∀ j u, (flat5 f D)[j]? = some u → w.cell? ((Addr.mk gx 0 none).add j) = some u) (hd : ∀ d ∈ D, RL f (fun g => B ≤ g ∧ g ≠ q ∧ v.ownBlock ≠ some g) w d.t.L d.ao) (h0 : 0 < D.length) (hn : L.length + D.length ≤ 1000000) (hB : B ≤ w.heap.size)
  (h : ∀ ao' n' c' w', NWq f w' B q (.slice ao' n' c') (L ++ D) → w.grownBy w' v.ownBlock → wpList Tryz.prog ops Q rest (a.put o.dst (.slice ao' n' c')) w') : wpList Tryz.prog ops Q (o :: rest) a w := by
 obtain ⟨i0, hi, hz0, hz1, hz2⟩ := info_parts infoN
 refine wpList_append_lies w hgd s x 23 ho B 25 i0 _ 5 64 Tryz.underlying23 hi hz0 hz1 hz2 rfl (by decide) v L.length (flat5 f L) hs hown.own ⟨gx, 0, none⟩ D.length c (flat5 f D) hx (flat5_len f D) hnews (flat5_one f D) h0 (by unfold maxLen; omega) (by omega) hB _ rfl ?_
 intro g cap w' q1 q2 q3 q4
 exact h _ _ _ w' (hown.more hd hqw q1 q2 q3) q2
theorem B5.set4 {p : Nat} {a b d : Int} {x : ByteArray} {u : Value} (h : B5 w p a b d x u) (v' : Value) : B5 (w.setCell ⟨p, 4, none⟩ v') p a b d x v' := by
 unfold B5 at *
 simp [World.setCell, Array.getElem?_modify, h]
theorem B5.set3 {p : Nat} {a b d : Int} {x : ByteArray} {u : Value} (h : B5 w p a b d x u) (x' : ByteArray) : B5 (w.setCell ⟨p, 3, none⟩ (.string x')) p a b d x' u := by
 unfold B5 at *
 simp [World.setCell, Array.getElem?_modify, h]
theorem B5.set2 {p : Nat} {a b d : Int} {x : ByteArray} {u : Value} (h : B5 w p a b d x u) (d' : Int) : B5 (w.setCell ⟨p, 2, none⟩ (.int .i64 d')) p a b d' x u := by
 unfold B5 at *
 simp [World.setCell, Array.getElem?_modify, h]
theorem B5.set1 {p : Nat} {a b d : Int} {x : ByteArray} {u : Value} (h : B5 w p a b d x u) (b' : Int) : B5 (w.setCell ⟨p, 1, none⟩ (.int .i64 b')) p a b' d x u := by
 unfold B5 at *
 simp [World.setCell, Array.getElem?_modify, h]
theorem B5.set0 {p : Nat} {a b d : Int} {x : ByteArray} {u : Value} (h : B5 w p a b d x u) (a' : Int) : B5 (w.setCell ⟨p, 0, none⟩ (.int .i64 a')) p a' b d x u := by
 unfold B5 at *
 simp [World.setCell, Array.getElem?_modify, h]
/-- What an append has not touched. -/
theorem grown_only {S : Nat → Prop} (h : w.grownBy w' v.ownBlock) (hS : ∀ g, v.ownBlock = some g → S g) : Only S w w' := ⟨h.os, h.tape, h.output, h.size, fun k hk hs => h.block k hk (fun e => hs (hS k e.symm))⟩
theorem B5.grown {p : Nat} {a b d : Int} {x : ByteArray} {u : Value} (h : B5 w p a b d x u) (k : w.grownBy w' v.ownBlock) (hp : v.ownBlock ≠ some p) : B5 w' p a b d x u := (k.block p (lt_of_some h) (fun e => hp e.symm)).trans h
end
end Go.Proofs.YthjmakjhidjbaaaGreat
