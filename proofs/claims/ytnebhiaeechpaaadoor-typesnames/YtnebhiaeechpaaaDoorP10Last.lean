/-
 Layer 10: the program's last: the variable that a variable is at last; ways become shorter. Condition: the Table lies in memory.
-/
import Derived.Test.YtnebhiaeechpaaaDoorP10Tab
namespace Go.Proofs.YtnebhiaeechpaaaDoor
open Go.ChangeShapes Go.WideShapes Go.ChangeAt Go.RowKit Go.Deep
set_option linter.unusedVariables false
set_option linter.unusedSimpArgs false
set_option maxHeartbeats 4000000
set_option maxRecDepth 20000
theorem fldT (a b c : Value) (w : World) : (Instr.field 24 (.agg #[a, b, c]) 0).run Tryd.prog w = .ok a w := by kernel_rfl
/-- A type's block filled. -/
def fill3 (w : World) (p : Nat) (V : Int) (x : ByteArray) (v : Value) : World := ((w.setCell ⟨p, 0, none⟩ (.int .i64 V)).setCell ⟨p, 1, none⟩ (.string x)).setCell ⟨p, 2, none⟩ v
theorem fill3_blk (w : World) {p g : Nat} (h : g ≠ p) (V : Int) (x : ByteArray) (v : Value) : (fill3 w p V x v).heap[g]? = w.heap[g]? := by
 unfold fill3
 rw [blk_setCell_other _ _ _ _ h, blk_setCell_other _ _ _ _ h, blk_setCell_other _ _ _ _ h]
theorem fill3_size (w : World) (p : Nat) (V : Int) (x : ByteArray) (v : Value) : (fill3 w p V x v).heap.size = w.heap.size := by
 unfold fill3
 rw [nblk_setCell, nblk_setCell, nblk_setCell]
theorem B3.fill {w : World} {p : Nat} {V : Int} {x : ByteArray} {v : Value} (h : B3 w p V x v) (V' : Int) (x' : ByteArray) (v' : Value) : B3 (fill3 w p V' x' v') p V' x' v' := by
 unfold B3 fill3 at *
 simp [World.setCell, Array.getElem?_modify, h]
theorem Only.fill3 {S : Nat → Prop} {w w' : World} (h : Only S w w') {p : Nat} (hp : w.heap.size ≤ p ∨ S p) (V : Int) (x : ByteArray) (v : Value) : Only S w (fill3 w' p V x v) := ((h.setNew hp _ _).setNew hp _ _).setNew hp _ _
theorem B3.keep {w w' : World} {p : Nat} {V : Int} {x : ByteArray} {v : Value} (h : B3 w p V x v) (e : w'.heap[p]? = w.heap[p]?) : B3 w' p V x v := e.trans h
/-- What last tells. -/
def LastAs (O : Nat → Prop) (tb q r K nm own : Nat) (hi : Int) (F : List Int) (R : Int → Ty) (d : Int → Nat) (σ : Int → Option Rw) (μ : Int → Option Int) (v : Int) (w : World) (e : Ending) (w' : World) : Prop := ∃ (u : Int) (σ' : Int → Option Rw), e = .returned (.int .i64 u) ∧ OkV F σ' u ∧ End σ' u ∧ R u = R v ∧ Cmp σ σ' ∧ PS F own σ' R d ∧ PT O w' tb q r K nm own hi σ' μ ∧ Only (Own3 tb q r) w w'
def InLast (O : Nat → Prop) (tb q r K nm own : Nat) (hi : Int) (F : List Int) (R : Int → Ty) (d : Int → Nat) (σ : Int → Option Rw) (μ : Int → Option Int) (v : Int) (w : World) (vv : Value) (w' : World) : Prop := ∃ (u : Int) (σ' : Int → Option Rw), vv = .int .i64 u ∧ OkV F σ' u ∧ R u = R v ∧ Cmp σ σ' ∧ PS F own σ' R d ∧ PT O w' tb q r K nm own hi σ' μ ∧ Only (Own3 tb q r) w w'
theorem last_any {O : Nat → Prop} {tb q r K nm own : Nat} {hi : Int} {F : List Int} {R : Int → Ty} {d : Int → Nat} {σ : Int → Option Rw} {μ : Int → Option Int} {w : World} (hK : K ≤ 1000000000) (h : PT O w tb q r K nm own hi σ μ) (hs : PS F own σ R d) {v : Int} (hv : OkV F σ v) : Calls Tryd.prog 48 #[.pointer (some ⟨tb, 0, none⟩), .int .i64 v] w fun e w' => LastAs O tb q r K nm own hi F R d σ μ v w e w' := by
 have T := hidden h
 have HS := hidden hs
 have HV := hidden hv
 have how := h.ow
 clear h hs hv
 go_enter Tryd.func48, Tryd.ntmps48
 go_upto_region 1 with fail
 go_loopw [1] (fun vv wr => InLast O tb q r K nm own hi F R d σ μ v w vv wr) (fun vv wr => d (intOf vv))
 case atStart => exact ⟨v, σ, rfl, HV.out, rfl, Cmp.refl σ, HS.out, T.out, Only.refl _ _⟩
 case round =>
  obtain ⟨u, σ1, rfl, hu, hR, hc, hp, ht, hl⟩ := hrel
  have T1 := hidden ht
  have HU := hidden hu
  have HP := hidden hp
  have HC := hidden hc
  have HR := hidden hR
  have HL := hidden hl
  have hru := hp.rng hu
  have rg : -9223372036854775808 ≤ u ∧ u ≤ 9223372036854775807 := by omega
  clear hu hR hc hp ht hl hru HV HS T
  obtain ⟨t0, t1, t2, t3, tf⟩ := T1.out.cells
  clear t1 t2 t3 tf
  cases hz : σ1 u with
  | none =>
   have l1 := (T1.out.val_no rg hz).1
   have f1 := fldT (.int .i64 0) (.string ⟨#[]⟩) (.slice none 0 0)
   go_wp2_with fail
   go_ret
   exact ⟨u, σ1, rfl, HU.out, (fun z h => by rw [hz] at h; cases h), HR.out, HC.out, HP.out, T1.out, HL.out⟩
  | some y =>
   obtain ⟨al, cp, hr, hV, l1, _⟩ := T1.out.val_yes rg hz
   have RY := hidden hr
   have HZ := hidden hz
   clear hr hz
   have f1 := fldT (.int .i64 y.V) (.string ⟨y.S.toArray⟩) (.slice al y.L.length cp)
   by_cases hy : y.V = 0
   ·have hb : (!(y.V == 0)) = false := by rw [hy]; rfl
    rw [hy] at l1 f1
    go_wp2_with fail
    go_ret
    exact ⟨u, σ1, rfl, HU.out, (fun z h => by rw [HZ.out] at h; cases h; exact hy), HR.out, HC.out, HP.out, T1.out, HL.out⟩
   ·have hb : (y.V == 0) = false := beq_eq_false_iff_ne.2 hy
    have LK := HP.out.link u y HZ.out hy
    have HY := hidden LK.2.1
    have HD := hidden LK.2.2.2
    have HE := hidden LK.2.2.1
    have hry := HP.out.rng LK.2.1
    have rgy : -9223372036854775808 ≤ y.V ∧ y.V ≤ 9223372036854775807 := ⟨hV.1, hV.2.1⟩
    clear LK hry
    go_upto_region 3 with fail
    have B5 := hidden (B3.new wr y.V ⟨y.S.toArray⟩ (.slice al y.L.length cp))
    have T2 := hidden (T1.out.alloc (.cells #[.int .i64 y.V, .string ⟨y.S.toArray⟩, .slice al y.L.length cp] 24))
    have L2 := hidden (HL.out.alloc (.cells #[.int .i64 y.V, .string ⟨y.S.toArray⟩, .slice al y.L.length cp] 24))
    have RY2 := hidden (RY.out.alloc (.cells #[.int .i64 y.V, .string ⟨y.S.toArray⟩, .slice al y.L.length cp] 24))
    have sz1 := HL.out.size
    have sz2 := nblk_alloc wr (.cells #[.int .i64 y.V, .string ⟨y.S.toArray⟩, .slice al y.L.length cp] 24)
    generalize wr.alloc (.cells #[.int .i64 y.V, .string ⟨y.S.toArray⟩, .slice al y.L.length cp] 24) = w1 at *
    obtain ⟨b, hb5⟩ : ∃ b, wr.heap.size = b := ⟨_, rfl⟩
    rw [hb5] at B5 sz1 sz2 ⊢
    have SZ2 := hidden sz2
    have HWB : Hid (w.heap.size ≤ b) := sz1
    have HBB : Hid (∀ g, O g ∨ Own3 tb q r g → g ≠ b) := fun g hg => by have h9 := T1.out.new hg; omega
    have HBQ : Hid (b ≠ q) := fun e => HBB.out q (Or.inr (Or.inr (Or.inl rfl))) e.symm
    have SB := hidden hb5
    clear sz2 hb5 t0 l1 f1 RY T1 HL
    obtain ⟨t0, t1, t2, t3, tf⟩ := T2.out.cells
    clear t1 t2 t3 tf
    obtain ⟨b0, b1, b2, bf⟩ := B5.out.cells
    clear b1 b2 bf
    cases hz : σ1 y.V with
    | none =>
     have hlk := T2.out.look_no rgy hz
     refine region_till (S := (fun w' => w'.cell? ⟨tb, 0, none⟩ = some (.map (some q)) ∧ w'.cell? ⟨b, 0, none⟩ = some (.int .i64 y.V) ∧ w'.heap[q]? = w1.heap[q]?)) (kz := 8) (by kernel_rfl) ⟨t0, b0, rfl⟩ (fun hHeld => ?_)
     refine AnyTill.tk (i := 0) (v := ?_) hHeld ?_ ?_
     rotate_left
     ·(intro w hSw; (try dsimp only at hSw); go_simp; (try with_reducible rfl))
     (try simp only [Act.put, q4, q5, q6, q1, q2, q3])
     refine AnyTill.tk (i := 1) (v := ?_) hHeld ?_ ?_
     rotate_left
     ·(intro w hSw; (try dsimp only at hSw); go_simp; (try with_reducible rfl))
     (try simp only [Act.put, q4, q5, q6, q1, q2, q3])
     refine AnyTill.tk (i := 2) (v := ?_) hHeld ?_ ?_
     rotate_left
     ·(intro w hSw; (try dsimp only at hSw); go_simp; (try with_reducible rfl))
     (try simp only [Act.put, q4, q5, q6, q1, q2, q3])
     refine AnyTill.tk (i := 3) (v := ?_) hHeld ?_ ?_
     rotate_left
     ·(intro w hSw; (try dsimp only at hSw); go_simp; (try with_reducible rfl))
     (try simp only [Act.put, q4, q5, q6, q1, q2, q3])
     refine AnyTill.tk (i := 4) (v := ?_) hHeld ?_ ?_
     rotate_left
     ·(intro w hSw; (try dsimp only at hSw); go_simp; (try with_reducible rfl))
     (try simp only [Act.put, q4, q5, q6, q1, q2, q3])
     refine AnyTill.tk (i := 5) (v := ?_) hHeld ?_ ?_
     rotate_left
     ·(intro w hSw; (try dsimp only at hSw); go_simp; (try with_reducible rfl))
     (try simp only [Act.put, q4, q5, q6, q1, q2, q3])
     refine AnyTill.tk (i := 6) (v := ?_) hHeld ?_ ?_
     rotate_left
     ·(intro w hSw; (try dsimp only at hSw); have h9 := (hlk w hSw.2.2).1; go_simp; (try with_reducible rfl))
     (try simp only [Act.put, q4, q5, q6, q1, q2, q3])
     refine AnyTill.one (i := 7) (by kernel_rfl) rfl (fun K9 hK9 => ?_)
     (try simp only [q1, q2, q3])
     go_simp
     have TA : Hid (PT O (w1.alloc (.cells #[.int .i64 0, .string ⟨#[]⟩, .slice none 0 0] 24)).drew tb q r K nm own hi σ1 μ) := T2.out.keep (fun g _ hl => blk_alloc_lt _ _ _ hl)
     have BA : Hid (B3 (w1.alloc (.cells #[.int .i64 0, .string ⟨#[]⟩, .slice none 0 0] 24)).drew b y.V ⟨y.S.toArray⟩ (.slice al y.L.length cp)) := (blk_alloc_lt _ _ _ B5.out.lt).trans B5.out
     have BN : Hid (B3 (w1.alloc (.cells #[.int .i64 0, .string ⟨#[]⟩, .slice none 0 0] 24)).drew w1.heap.size 0 ⟨#[]⟩ (.slice none 0 0)) := B3.new w1 0 ⟨#[]⟩ (.slice none 0 0)
     have LA : Hid (Only (Own3 tb q r) w (w1.alloc (.cells #[.int .i64 0, .string ⟨#[]⟩, .slice none 0 0] 24)).drew) := (L2.out.alloc (.cells #[.int .i64 0, .string ⟨#[]⟩, .slice none 0 0] 24)).drewN 1
     have QA : Hid (((w1.alloc (.cells #[.int .i64 0, .string ⟨#[]⟩, .slice none 0 0] 24)).drew).heap[q]? = w1.heap[q]?) := blk_alloc_lt _ _ _ T2.out.ltq
     generalize (w1.alloc (.cells #[.int .i64 0, .string ⟨#[]⟩, .slice none 0 0] 24)).drew = w2 at *
     obtain ⟨c, hc5⟩ : ∃ c, w1.heap.size = c := ⟨_, rfl⟩
     have HBC : Hid (b ≠ c) := by have h9 := B5.out.lt; show b ≠ c; omega
     have HTC : Hid (∀ g, O g ∨ Own3 tb q r g → g ≠ c) := fun g hg => by have h9 := T2.out.new hg; omega
     have HWC : Hid (w.heap.size ≤ c) := by have h9 := SZ2.out; show w.heap.size ≤ c; omega
     rw [hc5] at BN ⊢
     have s2 := TA.out.cells.1
     have s3 := BA.out.cells.1
     refine hK9.out _ _ (fun _ => ⟨s2, s3, QA.out⟩) ?_
     clear hK9 K9
     (try simp only [Act.put, q4, q5, q6, q1, q2, q3])
     clear s2 s3 hc5
     obtain ⟨n0, n1, n2, nf⟩ := BN.out.cells
     refine AnyTill.one (i := 8) (by kernel_rfl) rfl (fun K9 hK9 => ?_)
     (try simp only [q1, q2, q3])
     go_simp
     refine hK9.out _ _ (fun h => absurd rfl h) ?_
     clear hK9 K9
     (try simp only [Act.put, q4, q5, q6, q1, q2, q3])
     refine AnyTill.done (by kernel_rfl) ?_ _
     (try simp only [Act.put, q4, q5, q6, q1, q2, q3])
     clear n0 n1 n2 nf t0 b0
     have T3 : Hid (PT O (fill3 w2 c 0 ⟨#[]⟩ (.slice none 0 0)) tb q r K nm own hi σ1 μ) := TA.out.keep (fun g hg _ => fill3_blk w2 (HTC.out g hg) _ _ _)
     have B5c : Hid (B3 (fill3 w2 c 0 ⟨#[]⟩ (.slice none 0 0)) b y.V ⟨y.S.toArray⟩ (.slice al y.L.length cp)) := BA.out.keep (fill3_blk w2 HBC.out _ _ _)
     have B6c : Hid (B3 (fill3 w2 c 0 ⟨#[]⟩ (.slice none 0 0)) c 0 ⟨#[]⟩ (.slice none 0 0)) := BN.out.fill _ _ _
     have L3 : Hid (Only (Own3 tb q r) w (fill3 w2 c 0 ⟨#[]⟩ (.slice none 0 0))) := LA.out.fill3 (Or.inl HWC.out) _ _ _
     obtain ⟨w3, hw3⟩ : ∃ w3, fill3 w2 c 0 ⟨#[]⟩ (.slice none 0 0) = w3 := ⟨_, rfl⟩
     rw [hw3] at T3 B5c B6c L3
     unfold fill3 at hw3
     simp only [hw3]
     clear hw3 TA BA BN LA QA L2 T2 B5 hlk
     obtain ⟨b0, b1, b2, bf⟩ := B5c.out.cells
     obtain ⟨c0, c1, c2, cf⟩ := B6c.out.cells
     clear b1 b2 bf c1 c2 cf
     go_wp2_with fail
     go_roundw
     case rel => exact ⟨y.V, σ1, rfl, HY.out, HE.out.symm.trans HR.out, HC.out, HP.out, T3.out, L3.out⟩
     case measure => exact HD.out
    | some z =>
     obtain ⟨al2, cp2, hr2, hV2, hlk⟩ := T2.out.look_yes rgy hz
     have HZ2 := hidden hz
     have RZ2 := hidden hr2
     clear hr2 hz
     refine region_till (S := (fun w' => w'.cell? ⟨tb, 0, none⟩ = some (.map (some q)) ∧ w'.cell? ⟨b, 0, none⟩ = some (.int .i64 y.V) ∧ w'.heap[q]? = w1.heap[q]?)) (kz := 8) (by kernel_rfl) ⟨t0, b0, rfl⟩ (fun hHeld => ?_)
     refine AnyTill.tk (i := 0) (v := ?_) hHeld ?_ ?_
     rotate_left
     ·(intro w hSw; (try dsimp only at hSw); go_simp; (try with_reducible rfl))
     (try simp only [Act.put, q4, q5, q6, q1, q2, q3])
     refine AnyTill.tk (i := 1) (v := ?_) hHeld ?_ ?_
     rotate_left
     ·(intro w hSw; (try dsimp only at hSw); go_simp; (try with_reducible rfl))
     (try simp only [Act.put, q4, q5, q6, q1, q2, q3])
     refine AnyTill.tk (i := 2) (v := ?_) hHeld ?_ ?_
     rotate_left
     ·(intro w hSw; (try dsimp only at hSw); go_simp; (try with_reducible rfl))
     (try simp only [Act.put, q4, q5, q6, q1, q2, q3])
     refine AnyTill.tk (i := 3) (v := ?_) hHeld ?_ ?_
     rotate_left
     ·(intro w hSw; (try dsimp only at hSw); go_simp; (try with_reducible rfl))
     (try simp only [Act.put, q4, q5, q6, q1, q2, q3])
     refine AnyTill.tk (i := 4) (v := ?_) hHeld ?_ ?_
     rotate_left
     ·(intro w hSw; (try dsimp only at hSw); go_simp; (try with_reducible rfl))
     (try simp only [Act.put, q4, q5, q6, q1, q2, q3])
     refine AnyTill.tk (i := 5) (v := ?_) hHeld ?_ ?_
     rotate_left
     ·(intro w hSw; (try dsimp only at hSw); go_simp; (try with_reducible rfl))
     (try simp only [Act.put, q4, q5, q6, q1, q2, q3])
     refine AnyTill.tk (i := 6) (v := ?_) hHeld ?_ ?_
     rotate_left
     ·(intro w hSw; (try dsimp only at hSw); have h9 := (hlk w hSw.2.2).1; go_simp; (try with_reducible rfl))
     (try simp only [Act.put, q4, q5, q6, q1, q2, q3])
     refine AnyTill.one (i := 7) (by kernel_rfl) rfl (fun K9 hK9 => ?_)
     (try simp only [q1, q2, q3])
     go_simp
     have TA : Hid (PT O (w1.alloc (.cells #[.int .i64 0, .string ⟨#[]⟩, .slice none 0 0] 24)).drew tb q r K nm own hi σ1 μ) := T2.out.keep (fun g _ hl => blk_alloc_lt _ _ _ hl)
     have BA : Hid (B3 (w1.alloc (.cells #[.int .i64 0, .string ⟨#[]⟩, .slice none 0 0] 24)).drew b y.V ⟨y.S.toArray⟩ (.slice al y.L.length cp)) := (blk_alloc_lt _ _ _ B5.out.lt).trans B5.out
     have BN : Hid (B3 (w1.alloc (.cells #[.int .i64 0, .string ⟨#[]⟩, .slice none 0 0] 24)).drew w1.heap.size 0 ⟨#[]⟩ (.slice none 0 0)) := B3.new w1 0 ⟨#[]⟩ (.slice none 0 0)
     have LA : Hid (Only (Own3 tb q r) w (w1.alloc (.cells #[.int .i64 0, .string ⟨#[]⟩, .slice none 0 0] 24)).drew) := (L2.out.alloc (.cells #[.int .i64 0, .string ⟨#[]⟩, .slice none 0 0] 24)).drewN 1
     have QA : Hid (((w1.alloc (.cells #[.int .i64 0, .string ⟨#[]⟩, .slice none 0 0] 24)).drew).heap[q]? = w1.heap[q]?) := blk_alloc_lt _ _ _ T2.out.ltq
     have RA : Hid (RT O ((w1.alloc (.cells #[.int .i64 0, .string ⟨#[]⟩, .slice none 0 0] 24)).drew) z.L al2) := RZ2.out.keep (fun g _ hl => blk_alloc_lt _ _ _ hl)
     generalize (w1.alloc (.cells #[.int .i64 0, .string ⟨#[]⟩, .slice none 0 0] 24)).drew = w2 at *
     obtain ⟨c, hc5⟩ : ∃ c, w1.heap.size = c := ⟨_, rfl⟩
     have HBC : Hid (b ≠ c) := by have h9 := B5.out.lt; show b ≠ c; omega
     have HTC : Hid (∀ g, O g ∨ Own3 tb q r g → g ≠ c) := fun g hg => by have h9 := T2.out.new hg; omega
     have HWC : Hid (w.heap.size ≤ c) := by have h9 := SZ2.out; show w.heap.size ≤ c; omega
     rw [hc5] at BN ⊢
     have s2 := TA.out.cells.1
     have s3 := BA.out.cells.1
     refine hK9.out _ _ (fun _ => ⟨s2, s3, QA.out⟩) ?_
     clear hK9 K9
     (try simp only [Act.put, q4, q5, q6, q1, q2, q3])
     clear s2 s3 hc5
     obtain ⟨n0, n1, n2, nf⟩ := BN.out.cells
     refine AnyTill.one (i := 8) (by kernel_rfl) rfl (fun K9 hK9 => ?_)
     (try simp only [q1, q2, q3])
     go_simp
     refine hK9.out _ _ (fun h => absurd rfl h) ?_
     clear hK9 K9
     (try simp only [Act.put, q4, q5, q6, q1, q2, q3])
     refine AnyTill.done (by kernel_rfl) ?_ _
     (try simp only [Act.put, q4, q5, q6, q1, q2, q3])
     clear n0 n1 n2 nf t0 b0
     have T3 : Hid (PT O (fill3 w2 c z.V ⟨z.S.toArray⟩ (.slice al2 z.L.length cp2)) tb q r K nm own hi σ1 μ) := TA.out.keep (fun g hg _ => fill3_blk w2 (HTC.out g hg) _ _ _)
     have B5c : Hid (B3 (fill3 w2 c z.V ⟨z.S.toArray⟩ (.slice al2 z.L.length cp2)) b y.V ⟨y.S.toArray⟩ (.slice al y.L.length cp)) := BA.out.keep (fill3_blk w2 HBC.out _ _ _)
     have B6c : Hid (B3 (fill3 w2 c z.V ⟨z.S.toArray⟩ (.slice al2 z.L.length cp2)) c z.V ⟨z.S.toArray⟩ (.slice al2 z.L.length cp2)) := BN.out.fill _ _ _
     have L3 : Hid (Only (Own3 tb q r) w (fill3 w2 c z.V ⟨z.S.toArray⟩ (.slice al2 z.L.length cp2))) := LA.out.fill3 (Or.inl HWC.out) _ _ _
     have R3 : Hid (RT O (fill3 w2 c z.V ⟨z.S.toArray⟩ (.slice al2 z.L.length cp2)) z.L al2) := RA.out.keep (fun g hg _ => fill3_blk w2 (HTC.out g (Or.inl hg)) _ _ _)
     obtain ⟨w3, hw3⟩ : ∃ w3, fill3 w2 c z.V ⟨z.S.toArray⟩ (.slice al2 z.L.length cp2) = w3 := ⟨_, rfl⟩
     rw [hw3] at T3 B5c B6c L3 R3
     unfold fill3 at hw3
     simp only [hw3]
     clear hw3 TA BA BN LA QA L2 T2 B5 hlk
     by_cases hz0 : z.V = 0
     ·rw [hz0] at B6c
      obtain ⟨b0, b1, b2, bf⟩ := B5c.out.cells
      obtain ⟨c0, c1, c2, cf⟩ := B6c.out.cells
      clear b1 b2 bf c1 c2 cf
      go_wp2_with fail
      go_roundw
      case rel => exact ⟨y.V, σ1, rfl, HY.out, HE.out.symm.trans HR.out, HC.out, HP.out, T3.out, L3.out⟩
      case measure => exact HD.out
     ·have hb0 : (z.V == 0) = false := beq_eq_false_iff_ne.2 hz0
      obtain ⟨b0, b1, b2, bf⟩ := B5c.out.cells
      obtain ⟨c0, c1, c2, cf⟩ := B6c.out.cells
      obtain ⟨t0, t1, t2, t3, tf⟩ := T3.out.cells
      clear t1 t2 t3 tf
      have TD : Hid (PT O w3.drew tb q r K nm own hi σ1 μ) := T3.out.keep (fun g _ _ => rfl)
      obtain ⟨w4, m1, m2, m3⟩ := TD.out.again (k := u) (by unfold maxLen; omega) rg (by rw [HZ.out]; simp) (x := z) ⟨hV2.1, hV2.2.1⟩ hV2.2.2 (al := al2) (cp := cp2) (R3.out.keep (fun g _ _ => rfl))
      have T4 := hidden m2
      have B5d : Hid (B3 w4 b y.V ⟨y.S.toArray⟩ (.slice al y.L.length cp)) := B5c.out.keep (grown_keep m3 B5c.out.lt HBQ.out)
      have B6d : Hid (B3 w4 c z.V ⟨z.S.toArray⟩ (.slice al2 z.L.length cp2)) := B6c.out.keep (grown_keep m3 B6c.out.lt (fun e => HTC.out q (Or.inr (Or.inr (Or.inl rfl))) e.symm))
      have L4 := hidden ((L3.out.drewN 1).trans (Only.grown (S := Own3 tb q r) m3 (Or.inr (Or.inl rfl))))
      clear m2 m3 TD
      go_upto_region 5 with fail
      refine region_till (S := (fun w' => w'.cell? ⟨tb, 0, none⟩ = some (.map (some q)) ∧ w'.cell? ⟨c, 0, none⟩ = some (.int .i64 z.V) ∧ w'.cell? ⟨c, 1, none⟩ = some (.string ⟨z.S.toArray⟩) ∧ w'.cell? ⟨c, 2, none⟩ = some (.slice al2 z.L.length cp2) ∧ w' = w3.drew)) (kz := 6) (by kernel_rfl) ⟨t0, c0, c1, c2, rfl⟩ (fun hHeld => ?_)
      refine AnyTill.tk (i := 0) (v := ?_) hHeld ?_ ?_
      rotate_left
      ·(intro w hSw; (try dsimp only at hSw); go_simp; (try with_reducible rfl))
      (try simp only [Act.put, q4, q5, q6, q1, q2, q3])
      refine AnyTill.tk (i := 1) (v := ?_) hHeld ?_ ?_
      rotate_left
      ·(intro w hSw; (try dsimp only at hSw); go_simp; (try with_reducible rfl))
      (try simp only [Act.put, q4, q5, q6, q1, q2, q3])
      refine AnyTill.tk (i := 2) (v := ?_) hHeld ?_ ?_
      rotate_left
      ·(intro w hSw; (try dsimp only at hSw); go_simp; (try with_reducible rfl))
      (try simp only [Act.put, q4, q5, q6, q1, q2, q3])
      refine AnyTill.tk (i := 3) (v := ?_) hHeld ?_ ?_
      rotate_left
      ·(intro w hSw; (try dsimp only at hSw); go_simp; (try with_reducible rfl))
      (try simp only [Act.put, q4, q5, q6, q1, q2, q3])
      refine AnyTill.tk (i := 4) (v := ?_) hHeld ?_ ?_
      rotate_left
      ·(intro w hSw; (try dsimp only at hSw); go_simp; (try with_reducible rfl))
      (try simp only [Act.put, q4, q5, q6, q1, q2, q3])
      refine AnyTill.tk (i := 5) (v := ?_) hHeld ?_ ?_
      rotate_left
      ·(intro w hSw; (try dsimp only at hSw); go_simp; (try with_reducible rfl))
      (try simp only [Act.put, q4, q5, q6, q1, q2, q3])
      refine AnyTill.one (i := 6) (by kernel_rfl) rfl (fun K9 hK9 => ?_)
      (try simp only [q1, q2, q3])
      go_simp
      refine hK9.out _ _ (fun h => absurd rfl h) ?_
      clear hK9 K9
      (try simp only [Act.put, q4, q5, q6, q1, q2, q3])
      refine AnyTill.done (by kernel_rfl) ?_ _
      (try simp only [Act.put, q4, q5, q6, q1, q2, q3])
      clear t0 b0 b1 b2 bf c0 c1 c2 cf m1
      obtain ⟨b0, b1, b2, bf⟩ := B5d.out.cells
      obtain ⟨c0, c1, c2, cf⟩ := B6d.out.cells
      go_upto_region 7 with fail
      have T5 : Hid (PT O (fill3 w4 b z.V ⟨z.S.toArray⟩ (.slice al2 z.L.length cp2)) tb q r K nm own hi (upd σ1 u z) μ) := T4.out.keep (fun g hg _ => fill3_blk w4 (HBB.out g hg) _ _ _)
      have L5 : Hid (Only (Own3 tb q r) w (fill3 w4 b z.V ⟨z.S.toArray⟩ (.slice al2 z.L.length cp2))) := L4.out.fill3 (Or.inl HWB.out) _ _ _
      have BZ := hidden (B5d.out.fill z.V ⟨z.S.toArray⟩ (.slice al2 z.L.length cp2))
      obtain ⟨w5, hw5⟩ : ∃ w5, fill3 w4 b z.V ⟨z.S.toArray⟩ (.slice al2 z.L.length cp2) = w5 := ⟨_, rfl⟩
      rw [hw5] at T5 L5 BZ
      unfold fill3 at hw5
      simp only [hw5]
      clear hw5 b0 b1 b2 bf c0 c1 c2 cf
      obtain ⟨b0, b1, b2, bf⟩ := BZ.out.cells
      obtain ⟨p1, p2⟩ := HP.out.shorter HZ.out hy HZ2.out hz0
      have LK := HP.out.link y.V z HZ2.out hz0
      have HP2 := hidden p1
      have HC2 := hidden (HC.out.trans p2)
      have HO2 := hidden (p2.okv.2 LK.2.1)
      have HE2 := hidden LK.2.2.1
      have HD2 := hidden LK.2.2.2
      clear p1 p2 LK
      go_wp2_with fail
      go_roundw
      case rel => exact ⟨z.V, upd σ1 u z, rfl, HO2.out, HE2.out.symm.trans (HE.out.symm.trans HR.out), HC2.out, HP2.out, T5.out, L5.out⟩
      case measure => exact Nat.lt_trans HD2.out HD.out
end Go.Proofs.YtnebhiaeechpaaaDoor
