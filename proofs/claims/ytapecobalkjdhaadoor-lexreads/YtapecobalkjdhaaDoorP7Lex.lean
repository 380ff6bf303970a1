/-
  Layer 7, the program's Lex: a source's tokens, or what is wrong first, and where. No condition.
-/
import Derived.Test.YtapecobalkjdhaaDoorP7Rec
namespace Go.Proofs.YtapecobalkjdhaaDoor
open Go.ChangeShapes Go.WideShapes Go.ChangeAt Go.RowKit Go.Deep
set_option linter.unusedVariables false
set_option linter.unusedSimpArgs false
set_option maxHeartbeats 1000000

theorem assert_fault (v : Value) (t : TypeId) (w : World) : (Instr.typeAssert (.iface 35 v) t 35 true).run Tryd.prog w = .ok (.tuple #[v, .bool true]) w := by
  simp [Instr.typeAssert, run_underlying Tryd.underlying35, go_sem, Result.andThen]
theorem assert_nil (t : TypeId) (w : World) : (Instr.typeAssert .nilIface t 35 true).run Tryd.prog w = .ok (.tuple #[.agg #[.int .i64 0, .int .i64 0], .bool false]) w := by
  simp [Instr.typeAssert, run_underlying Tryd.underlying35, go_sem, Result.andThen]
theorem catch_idle (p q r : Addr) (w : World) :
    CallsD Tryd.prog 14 #[.pointer (some p), .pointer (some q), .pointer (some r)] .returning w fun e u' w' => e = .returned (.tuple #[]) ∧ u' = .returning ∧ Below w.heap.size w w' := by
  refine callsD_of_wpS Tryd.func14 rfl fun c₀ cs hu => ?_
  have ha : (#[.pointer (some p), .pointer (some q), .pointer (some r)] ++ Array.replicate (Tryd.f14.ntmps - (#[.pointer (some p), .pointer (some q), .pointer (some r)] : Array Value).size) undef : Array Value) = #[.pointer (some p), .pointer (some q), .pointer (some r), undef, undef, undef, undef, undef, undef, undef, undef, undef, undef, undef, undef] := by rw [Tryd.ntmps14]; rfl
  rw [ha]
  apply wpS_seq
  apply wpS_region_lit
  refine opsS_idle rfl (by simp [execOp, go_sem]) (by simp [recoverD, hu]) ?_
  simp only [Act.put, List.setIfInBounds_toArray, List.set_cons_succ, List.set_cons_zero]
  refine opsS_assert (v := .tuple #[.agg #[.int .i64 0, .int .i64 0], .bool false]) rfl rfl (u := .nilIface) (by simp [Act.eval]) (assert_nil _ _) ?_
  simp only [Act.put, List.setIfInBounds_toArray, List.set_cons_succ, List.set_cons_zero]
  refine opsS_move (v := .tuple #[.agg #[.int .i64 0, .int .i64 0], .bool false]) rfl rfl (by simp [Act.eval]) ?_
  simp only [Act.put, List.setIfInBounds_toArray, List.set_cons_succ, List.set_cons_zero]
  refine opsS_extract (v := .agg #[.int .i64 0, .int .i64 0]) (vs := #[.agg #[.int .i64 0, .int .i64 0], .bool false]) rfl rfl (by simp [Act.eval]) rfl ?_
  simp only [Act.put, List.setIfInBounds_toArray, List.set_cons_succ, List.set_cons_zero]
  refine opsS_extract (v := .bool false) (vs := #[.agg #[.int .i64 0, .int .i64 0], .bool false]) rfl rfl (by simp [Act.eval]) rfl ?_
  simp only [Act.put, List.setIfInBounds_toArray, List.set_cons_succ, List.set_cons_zero]
  refine opsS_val rfl (v := .pointer (some ⟨w.heap.size, 0, none⟩)) (w' := w.alloc (.cells #[.int .i64 0, .int .i64 0] 35)) (by simp [execOp, go_sem]) ?_
  simp only [Act.put, List.setIfInBounds_toArray, List.set_cons_succ, List.set_cons_zero]
  refine opsS_skip rfl (w' := ((w.alloc (.cells #[.int .i64 0, .int .i64 0] 35)).setCell ⟨w.heap.size, 0, none⟩ (.int .i64 0)).setCell ⟨w.heap.size, 1, none⟩ (.int .i64 0)) (by simp [execOp, go_sem, Act.eval]) ?_
  simp only [Act.put, List.setIfInBounds_toArray, List.set_cons_succ, List.set_cons_zero]
  refine opsS_assign (v := .bool false) rfl rfl (by simp [Act.eval]) ?_
  simp only [Act.put, List.setIfInBounds_toArray, List.set_cons_succ, List.set_cons_zero]
  refine wl_nil ?_
  show Code.wpS _ _ _ _ _ _
  apply wpS_seq
  apply wpS_region_lit
  refine opsS_move (v := .bool false) rfl rfl (by simp [Act.eval]) ?_
  simp only [Act.put, List.setIfInBounds_toArray, List.set_cons_succ, List.set_cons_zero]
  refine wl_nil ?_
  show Code.wpS _ _ _ _ _ _
  refine wpS_cond (t := false) rfl ?_
  simp only [Bool.false_eq_true, if_false]
  refine wpS_of_wp (wp_skip ?_)
  have hb : Below w.heap.size w (((w.alloc (.cells #[.int .i64 0, .int .i64 0] 35)).setCell ⟨w.heap.size, 0, none⟩ (.int .i64 0)).setCell ⟨w.heap.size, 1, none⟩ (.int .i64 0)) := (((Below.refl _ _).alloc (Nat.le_refl _) _).setCell (Nat.le_refl _) _).setCell (Nat.le_refl _) _
  generalize ((w.alloc (.cells #[.int .i64 0, .int .i64 0] 35)).setCell ⟨w.heap.size, 0, none⟩ (.int .i64 0)).setCell ⟨w.heap.size, 1, none⟩ (.int .i64 0) = w2 at *
  cases c₀
  simp_all [bodyPostS, results, Tryd.results14]
/-- Three results, in blocks of their own. -/
def Out (w : World) (p : Nat) (v : Value) (e k : Int) : Prop := w.heap[p]? = some (.cells #[v] 23 (0, 0)) ∧ w.heap[p + 1]? = some (.cells #[.int .i64 e] 24 (0, 0)) ∧ w.heap[p + 2]? = some (.cells #[.int .i64 k] 3 (0, 0))
theorem Out.cells {w : World} {p : Nat} {v : Value} {e k : Int} (h : Out w p v e k) : w.cell? ⟨p, 0, none⟩ = some v ∧ w.cell? ⟨p + 1, 0, none⟩ = some (.int .i64 e) ∧ w.cell? ⟨p + 2, 0, none⟩ = some (.int .i64 k) ∧ w.frozen? ⟨p, 0, none⟩ = false ∧ w.frozen? ⟨p + 1, 0, none⟩ = false ∧ w.frozen? ⟨p + 2, 0, none⟩ = false := by
  obtain ⟨h1, h2, h3⟩ := h
  simp [World.cell?, World.frozen?, h1, h2, h3]
theorem Out.below {w w' : World} {p : Nat} {v : Value} {e k : Int} (h : Out w p v e k) (b : Below w.heap.size w w') : Out w' p v e k := ⟨(b.block _ (lt_of_some h.1)).trans h.1, (b.block _ (lt_of_some h.2.1)).trans h.2.1, (b.block _ (lt_of_some h.2.2)).trans h.2.2⟩
theorem Out.three {w : World} {p : Nat} {v v' : Value} {e k e' k' : Int} (h : Out w p v e k) : Out (((w.setCell ⟨p, 0, none⟩ v').setCell ⟨p + 1, 0, none⟩ (.int .i64 e')).setCell ⟨p + 2, 0, none⟩ (.int .i64 k')) p v' e' k' := by
  obtain ⟨h1, h2, h3⟩ := h
  refine ⟨?_, ?_, ?_⟩ <;> simp [World.setCell, Array.getElem?_modify, h1, h2, h3]
theorem only_three {S : Nat → Prop} {w w' : World} {p : Nat} {v1 v2 v3 : Value} (h : Only S w w') (h1 : w.heap.size ≤ p ∨ (S p ∧ S (p + 1) ∧ S (p + 2))) : Only S w (((w'.setCell ⟨p, 0, none⟩ v1).setCell ⟨p + 1, 0, none⟩ v2).setCell ⟨p + 2, 0, none⟩ v3) :=
  ((h.setCell (a := ⟨p, 0, none⟩) (h1.imp id (fun c => c.1)) _).setCell (a := ⟨p + 1, 0, none⟩) (h1.imp (fun c => Nat.le_succ_of_le c) (fun c => c.2.1)) _).setCell (a := ⟨p + 2, 0, none⟩) (h1.imp (fun c => Nat.le_succ_of_le (Nat.le_succ_of_le c)) (fun c => c.2.2)) _
theorem catch_panicking (p : Nat) (v : Value) (e0 k0 e k : Int) (older : List PanicEntry) (w : World) (ho : Out w p v e0 k0) :
    CallsD Tryd.prog 14 #[.pointer (some ⟨p, 0, none⟩), .pointer (some ⟨p + 1, 0, none⟩), .pointer (some ⟨p + 2, 0, none⟩)] (.panicking (faultP e k :: older)) w fun r u' w' => r = .returned (.tuple #[]) ∧ u' = .panicking ({ faultP e k with recovered := true } :: older) ∧ Out w' p (.slice none 0 0) e k ∧ Only (fun b => b = p ∨ b = p + 1 ∨ b = p + 2) w w' := by
  refine callsD_of_wpS Tryd.func14 rfl fun c₀ cs hu => ?_
  have ha : (#[.pointer (some ⟨p, 0, none⟩), .pointer (some ⟨p + 1, 0, none⟩), .pointer (some ⟨p + 2, 0, none⟩)] ++ Array.replicate (Tryd.f14.ntmps - (#[.pointer (some ⟨p, 0, none⟩), .pointer (some ⟨p + 1, 0, none⟩), .pointer (some ⟨p + 2, 0, none⟩)] : Array Value).size) undef : Array Value) = #[.pointer (some ⟨p, 0, none⟩), .pointer (some ⟨p + 1, 0, none⟩), .pointer (some ⟨p + 2, 0, none⟩), undef, undef, undef, undef, undef, undef, undef, undef, undef, undef, undef, undef] := by rw [Tryd.ntmps14]; rfl
  rw [ha]
  clear ha
  unfold faultP at hu
  apply wpS_seq
  apply wpS_region_lit
  refine opsS_rec rfl (by simp [execOp, go_sem]) (v := .iface 35 (.agg #[.int .i64 e, .int .i64 k])) (cs' := { c₀ with mode := .panicking ({ faultP e k with recovered := true } :: older) } :: cs) (by simp [recoverD, hu, faultP]) ?_
  simp only [Act.put, List.setIfInBounds_toArray, List.set_cons_succ, List.set_cons_zero]
  refine opsS_assert (v := .tuple #[.agg #[.int .i64 e, .int .i64 k], .bool true]) rfl rfl (u := .iface 35 (.agg #[.int .i64 e, .int .i64 k])) (by simp [Act.eval]) (assert_fault _ _ _) ?_
  simp only [Act.put, List.setIfInBounds_toArray, List.set_cons_succ, List.set_cons_zero]
  refine opsS_move (v := .tuple #[.agg #[.int .i64 e, .int .i64 k], .bool true]) rfl rfl (by simp [Act.eval]) ?_
  simp only [Act.put, List.setIfInBounds_toArray, List.set_cons_succ, List.set_cons_zero]
  refine opsS_extract (v := .agg #[.int .i64 e, .int .i64 k]) (vs := #[.agg #[.int .i64 e, .int .i64 k], .bool true]) rfl rfl (by simp [Act.eval]) rfl ?_
  simp only [Act.put, List.setIfInBounds_toArray, List.set_cons_succ, List.set_cons_zero]
  refine opsS_extract (v := .bool true) (vs := #[.agg #[.int .i64 e, .int .i64 k], .bool true]) rfl rfl (by simp [Act.eval]) rfl ?_
  simp only [Act.put, List.setIfInBounds_toArray, List.set_cons_succ, List.set_cons_zero]
  refine opsS_val rfl (v := .pointer (some ⟨w.heap.size, 0, none⟩)) (w' := w.alloc (.cells #[.int .i64 0, .int .i64 0] 35)) (by simp [execOp, go_sem]) ?_
  simp only [Act.put, List.setIfInBounds_toArray, List.set_cons_succ, List.set_cons_zero]
  refine opsS_skip rfl (w' := ((w.alloc (.cells #[.int .i64 0, .int .i64 0] 35)).setCell ⟨w.heap.size, 0, none⟩ (.int .i64 e)).setCell ⟨w.heap.size, 1, none⟩ (.int .i64 k)) (by simp [execOp, go_sem, Act.eval]) ?_
  simp only [Act.put, List.setIfInBounds_toArray, List.set_cons_succ, List.set_cons_zero]
  refine opsS_assign (v := .bool true) rfl rfl (by simp [Act.eval]) ?_
  simp only [Act.put, List.setIfInBounds_toArray, List.set_cons_succ, List.set_cons_zero]
  refine wl_nil ?_
  show Code.wpS _ _ _ _ _ _
  have hb : Below w.heap.size w (((w.alloc (.cells #[.int .i64 0, .int .i64 0] 35)).setCell ⟨w.heap.size, 0, none⟩ (.int .i64 e)).setCell ⟨w.heap.size, 1, none⟩ (.int .i64 k)) := (((Below.refl _ _).alloc (Nat.le_refl _) _).setCell (Nat.le_refl _) _).setCell (Nat.le_refl _) _
  have hff : (((w.alloc (.cells #[.int .i64 0, .int .i64 0] 35)).setCell ⟨w.heap.size, 0, none⟩ (.int .i64 e)).setCell ⟨w.heap.size, 1, none⟩ (.int .i64 k)).heap[w.heap.size]? = some (.cells #[.int .i64 e, .int .i64 k] 35 (0, 0)) := by
    have h0 : (w.alloc (.cells #[.int .i64 0, .int .i64 0] 35)).heap[w.heap.size]? = some (.cells #[.int .i64 0, .int .i64 0] 35 (0, 0)) := blk_alloc_new _ _
    generalize w.alloc (.cells #[.int .i64 0, .int .i64 0] 35) = w3 at *
    simp [World.setCell, Array.getElem?_modify, h0]
  generalize ((w.alloc (.cells #[.int .i64 0, .int .i64 0] 35)).setCell ⟨w.heap.size, 0, none⟩ (.int .i64 e)).setCell ⟨w.heap.size, 1, none⟩ (.int .i64 k) = w2 at *
  have ho2 := ho.below hb
  obtain ⟨c1, c2, c3, c4, c5, c6⟩ := ho2.cells
  have f0 : w2.cell? ⟨w.heap.size, 0, none⟩ = some (.int .i64 e) := by simp [World.cell?, hff]
  have f1 : w2.cell? ⟨w.heap.size, 1, none⟩ = some (.int .i64 k) := by simp [World.cell?, hff]
  have n0 : ¬ w.heap.size = p := by have := lt_of_some ho.1; omega
  have n1 : ¬ w.heap.size = p + 1 := by have := lt_of_some ho.2.1; omega
  have n2 : ¬ w.heap.size = p + 2 := by have := lt_of_some ho.2.2; omega
  have HB := hidden hb
  have HO := hidden ho2
  clear hb ho2 ho hff
  apply wpS_seq
  apply wpS_region_lit
  refine opsS_move (v := .bool true) rfl rfl (by simp [Act.eval]) ?_
  simp only [Act.put, List.setIfInBounds_toArray, List.set_cons_succ, List.set_cons_zero]
  refine wl_nil ?_
  show Code.wpS _ _ _ _ _ _
  refine wpS_cond (t := true) rfl ?_
  simp only [if_true]
  refine wpS_of_wp ?_
  go_region
  exact ⟨rfl, _, rfl, _, results_none rfl _ _ _, rfl, rfl, HO.out.three, (only_three (Only.of_below HB.out) (Or.inr ⟨Or.inl rfl, Or.inr (Or.inl rfl), Or.inr (Or.inr rfl)⟩)).drewN 1⟩
theorem lex_results {w : World} {p : Nat} {v : Value} {e k : Int} (h : Out w p v e k) (tmps : Array Value) (h2 : tmps.getD 2 undef = .pointer (some ⟨p, 0, none⟩)) (h3 : tmps.getD 3 undef = .pointer (some ⟨p + 1, 0, none⟩)) (h4 : tmps.getD 4 undef = .pointer (some ⟨p + 2, 0, none⟩)) (hv : v.oneCell' = true) : (results Tryd.f9 tmps).run Tryd.prog w = .ok (.tuple #[v, .int .i64 e, .int .i64 k]) w := by
  obtain ⟨c1, c2, c3, _⟩ := h.cells
  have g2 : tmps[2]?.getD undef = .pointer (some ⟨p, 0, none⟩) := by simpa using h2
  have g3 : tmps[3]?.getD undef = .pointer (some ⟨p + 1, 0, none⟩) := by simpa using h3
  have g4 : tmps[4]?.getD undef = .pointer (some ⟨p + 2, 0, none⟩) := by simpa using h4
  simp [results, Tryd.results9, g2, g3, g4, asAddr, go_sem, c1, c2, c3]
theorem out_new (w : World) (v : Value) (e k : Int) : Out (((w.alloc (.cells #[v] 23)).alloc (.cells #[.int .i64 e] 24)).alloc (.cells #[.int .i64 k] 3)) w.heap.size v e k := by
  refine ⟨?_, ?_, ?_⟩
  · rw [blk_alloc_lt _ _ _ (by rw [nblk_alloc, nblk_alloc]; omega), blk_alloc_lt _ _ _ (by rw [nblk_alloc]; omega)]
    exact blk_alloc_new _ _
  · rw [blk_alloc_lt _ _ _ (by rw [nblk_alloc, nblk_alloc]; omega), ← nblk_alloc w (.cells #[v] 23)]
    exact blk_alloc_new _ _
  · have e3 : w.heap.size + 2 = ((w.alloc (.cells #[v] 23)).alloc (.cells #[.int .i64 e] 24)).heap.size := by rw [nblk_alloc, nblk_alloc]
    rw [e3]
    exact blk_alloc_new _ _
theorem lexP_big (s : ByteArray) (w : World) (hs : 4096 < s.size) (hz : s.size ≤ maxLen) : Calls Tryd.prog 9 #[.string s] w fun e w' => e = .returned (.tuple #[.slice none 0 0, .int .i64 4, .int .i64 0]) ∧ Below w.heap.size w w' := by
  have z1 : (4096 : Int) < (s.size : Int) := by omega
  unfold maxLen at hz
  go_enter_defers Tryd.func9, Tryd.ntmps9
  go_wp2
  exact ⟨_, lex_results (out_new w _ _ _) _ rfl rfl rfl rfl, rfl, (((Below.refl _ _).alloc (Nat.le_refl _) _).alloc (by rw [nblk_alloc]; omega) _).alloc (by rw [nblk_alloc, nblk_alloc]; omega) _⟩
/-- What Lex tells. -/
def LexAs (R : Except (Int × Nat) (List (Tk × Nat))) (s : ByteArray) (w : World) (e : Ending) (w' : World) : Prop :=
  Below w.heap.size w w' ∧
  match R with
  | .ok ts => ∃ v, e = .returned (.tuple #[v, .int .i64 0, .int .i64 0]) ∧ TR w' w.heap.size v (tvs s.size ts ++ [endV s.size])
  | .error (e', k) => e = .returned (.tuple #[.slice none 0 0, .int .i64 e', .int .i64 ((s.size - k : Nat) : Int)])
theorem own_keepS {S : Nat → Prop} {w w' : World} {B size n : Nat} {e : TypeId} {v : Value} {xs : List Value} (h : w.ownsRow B e size v n xs) (k : Only S w w') (hS : ∀ q, B ≤ q → ¬ S q) : w'.ownsRow B e size v n xs := by
  obtain ⟨h1, h2⟩ := h
  refine ⟨h1, h2.imp id ?_⟩
  rintro ⟨g, cap, cur, e1, e2, e3, e4⟩
  exact ⟨g, cap, cur, e1, e2, (k.block g (lt_of_some e3) (hS g e2)).trans e3, e4⟩
theorem Out.onlyS {S : Nat → Prop} {w w' : World} {p : Nat} {v : Value} {e k : Int} (h : Out w p v e k) (b : Only S w w') (h0 : ¬ S p) (h1 : ¬ S (p + 1)) (h2 : ¬ S (p + 2)) : Out w' p v e k := ⟨(b.block _ (lt_of_some h.1) h0).trans h.1, (b.block _ (lt_of_some h.2.1) h1).trans h.2.1, (b.block _ (lt_of_some h.2.2) h2).trans h.2.2⟩
theorem own_base {w : World} {B B' size n : Nat} {e : TypeId} {v : Value} {xs : List Value} (h : w.ownsRow B e size v n xs) (hb : B' ≤ B) : w.ownsRow B' e size v n xs := by
  obtain ⟨h1, h2⟩ := h
  refine ⟨h1, h2.imp id ?_⟩
  rintro ⟨g, cap, cur, e1, e2, e3⟩
  exact ⟨g, cap, cur, e1, by omega, e3⟩
theorem start_rd (w : World) (s : ByteArray) : RD ((((w.alloc (.cells #[.slice none 0 0] 23)).alloc (.cells #[.int .i64 0] 24)).alloc (.cells #[.int .i64 0] 3)).alloc (.cells #[.string s, .int .i64 0, .int .i64 0] 39)) (w.heap.size + 1 + 1 + 1) s 0 0 := by
  have e3 : w.heap.size + 1 + 1 + 1 = (((w.alloc (.cells #[.slice none 0 0] 23)).alloc (.cells #[.int .i64 0] 24)).alloc (.cells #[.int .i64 0] 3)).heap.size := by rw [nblk_alloc, nblk_alloc, nblk_alloc]
  show _ = _
  rw [e3]
  exact blk_alloc_new _ _
theorem start_out (w : World) (s : ByteArray) : Out ((((w.alloc (.cells #[.slice none 0 0] 23)).alloc (.cells #[.int .i64 0] 24)).alloc (.cells #[.int .i64 0] 3)).alloc (.cells #[.string s, .int .i64 0, .int .i64 0] 39)) w.heap.size (.slice none 0 0) 0 0 :=
  (out_new w _ _ _).below ((Below.refl _ _).alloc (Nat.le_refl _) _)
theorem start_below (w : World) (s : ByteArray) : Below w.heap.size w ((((w.alloc (.cells #[.slice none 0 0] 23)).alloc (.cells #[.int .i64 0] 24)).alloc (.cells #[.int .i64 0] 3)).alloc (.cells #[.string s, .int .i64 0, .int .i64 0] 39)) :=
  ((((Below.refl _ _).alloc (Nat.le_refl _) _).alloc (by rw [nblk_alloc]; omega) _).alloc (by rw [nblk_alloc, nblk_alloc]; omega) _).alloc (by rw [nblk_alloc, nblk_alloc, nblk_alloc]; omega) _
theorem start_size (w : World) (s : ByteArray) : ((((w.alloc (.cells #[.slice none 0 0] 23)).alloc (.cells #[.int .i64 0] 24)).alloc (.cells #[.int .i64 0] 3)).alloc (.cells #[.string s, .int .i64 0, .int .i64 0] 39)).heap.size = w.heap.size + 4 := by rw [nblk_alloc, nblk_alloc, nblk_alloc, nblk_alloc]
set_option maxRecDepth 20000 in
theorem lexP_as (s : ByteArray) (w : World) (hs : s.size ≤ 4096) : Calls Tryd.prog 9 #[.string s] w fun e w' => LexAs (lexC docW (suf s 0)) s w e w' := by
  have z1 : ¬ (4096 : Int) < (s.size : Int) := by omega
  have hmf : ∀ (fn : Fn) (first cap : Array Value) (w : World), (Instr.makeFunc fn first cap).run Tryd.prog w = .ok (.func fn first cap) w := fun _ _ _ _ => rfl
  have R4 := hidden (start_rd w s)
  have O4 := hidden (start_out w s)
  have B4 := hidden (start_below w s)
  have S4 := hidden (start_size w s)
  cases hR : lexC docW (suf s 0) with
  | ok ts =>
    have HR := hidden hR
    clear hR
    go_enter_defers Tryd.func9, Tryd.ntmps9
    go_wp2_with fail
    generalize (((w.alloc (.cells #[.slice none 0 0] 23)).alloc (.cells #[.int .i64 0] 24)).alloc (.cells #[.int .i64 0] 3)).alloc (.cells #[.string s, .int .i64 0, .int .i64 0] 39) = w4 at *
    refine (all_as R4.out (by omega)).mono ?_
    rw [HR.out]
    rintro e w5 ⟨v, rfl, ht, ho⟩
    obtain ⟨L, hL⟩ : ∃ L, tvs s.size ts ++ [endV s.size] = L := ⟨_, rfl⟩
    rw [hL] at ht
    have HL := hidden hL
    clear hL
    have hs4 := S4.out
    have O5 := hidden (O4.out.onlyS ho (by omega) (by omega) (by omega))
    obtain ⟨c1, c2, c3, c4, c5, c6⟩ := O5.out.cells
    have c3' : w5.cell? ⟨w.heap.size + 1 + 1, 0, none⟩ = some (.int .i64 0) := c3
    have c6' : w5.frozen? ⟨w.heap.size + 1 + 1, 0, none⟩ = false := c6
    have T5 := hidden ht
    have L5 := hidden ho
    have hv : v.oneCell' = true := by
      obtain ⟨ao, c, rfl⟩ := ht.slice
      rfl
    obtain ⟨ao, cp, rfl⟩ := ht.slice
    clear ht ho c3 c6
    go_wp2_with fail
    have O6 := O5.out.three (v' := .slice ao L.length cp) (e' := 0) (k' := 0)
    have K6 : Only (fun b => b = w.heap.size ∨ b = w.heap.size + 1 ∨ b = w.heap.size + 2) w5 (((w5.setCell ⟨w.heap.size, 0, none⟩ (.slice ao L.length cp)).setCell ⟨w.heap.size + 1, 0, none⟩ (.int .i64 0)).setCell ⟨w.heap.size + 2, 0, none⟩ (.int .i64 0)) := only_three (Only.refl _ _) (Or.inr ⟨Or.inl rfl, Or.inr (Or.inl rfl), Or.inr (Or.inr rfl)⟩)
    have T6 := own_keepS T5.out K6 (fun q hq c => by have := S4.out; rcases c with c | c | c <;> omega)
    have B5 : Below w.heap.size w w5 := B4.out.trans (L5.out.below (by omega) (fun k hk c => by omega))
    have B6 : Below w.heap.size w (((w5.setCell ⟨w.heap.size, 0, none⟩ (.slice ao L.length cp)).setCell ⟨w.heap.size + 1, 0, none⟩ (.int .i64 0)).setCell ⟨w.heap.size + 2, 0, none⟩ (.int .i64 0)) := B5.trans (K6.below B5.size (fun k hk c => by rcases c with c | c | c <;> omega))
    refine leaves_cons (f := 14) (args := #[.pointer (some ⟨w.heap.size, 0, none⟩), .pointer (some ⟨w.heap.size + 1, 0, none⟩), .pointer (some ⟨w.heap.size + 1 + 1, 0, none⟩)]) (by simp) (by simp [go_sem]) ?_
    refine (catch_idle _ _ _ _).mono ?_
    rintro e u' w7 ⟨rfl, rfl, hb⟩
    refine ⟨_, lex_results (O6.below hb) _ rfl rfl rfl rfl, B6.trans (hb.mono B6.size), _, rfl, ?_⟩
    rw [HL.out]
    exact own_base (own_keepS T6 (Only.of_below (S := fun _ => False) hb) (fun _ _ c => c)) (by have := S4.out; omega)
  | error ek =>
    obtain ⟨e', k⟩ := ek
    have HR := hidden hR
    clear hR
    go_enter_defers Tryd.func9, Tryd.ntmps9
    go_wp2_with fail
    generalize (((w.alloc (.cells #[.slice none 0 0] 23)).alloc (.cells #[.int .i64 0] 24)).alloc (.cells #[.int .i64 0] 3)).alloc (.cells #[.string s, .int .i64 0, .int .i64 0] 39) = w4 at *
    refine (all_as R4.out (by omega)).mono ?_
    rw [HR.out]
    rintro e w5 ⟨rfl, ho⟩
    have hs4 := S4.out
    have O5 := O4.out.onlyS ho (by omega) (by omega) (by omega)
    have B5 : Below w.heap.size w w5 := B4.out.trans (ho.below (by omega) (fun k hk c => by omega))
    show bodyPostD _ _ _ _ _ _
    refine leaves_cons (f := 14) (args := #[.pointer (some ⟨w.heap.size, 0, none⟩), .pointer (some ⟨w.heap.size + 1, 0, none⟩), .pointer (some ⟨w.heap.size + 1 + 1, 0, none⟩)]) (by simp) (by simp [go_sem]) ?_
    refine (catch_panicking w.heap.size (.slice none 0 0) 0 0 e' ((s.size - k : Nat) : Int) [] w5 O5).mono ?_
    rintro e u' w7 ⟨rfl, rfl, hout, hon⟩
    refine ⟨_, lex_results hout _ rfl rfl rfl rfl, B5.trans (hon.below B5.size (fun k hk c => by rcases c with c | c | c <;> omega)), rfl⟩
end Go.Proofs.YtapecobalkjdhaaDoor
