/-
 Layer 10: the program's shorten and name. Condition: the Table lies in memory.
-/
import Derived.Test.YtnebhiaeechpaaaDoorP10Last
namespace Go.Proofs.YtnebhiaeechpaaaDoor
open Go.ChangeShapes Go.WideShapes Go.ChangeAt Go.RowKit Go.Deep
set_option linter.unusedVariables false
set_option linter.unusedSimpArgs false
set_option maxHeartbeats 4000000
set_option maxRecDepth 20000
theorem below_fill3 {w w' : World} {B p : Nat} (h : Below B w w') (hp : B ≤ p) (V : Int) (x : ByteArray) (v : Value) : Below B w (fill3 w' p V x v) := by
 unfold fill3
 exact ((h.setCell hp _).setCell hp _).setCell hp _
theorem below_drew {B : Nat} {w w' : World} (h : Below B w w') : Below B w w'.drew := ⟨h.os, h.tape, h.output, h.size, h.block⟩
theorem two_new (w : World) (V : Int) (x : ByteArray) (v : Value) : B3 ((w.alloc (.cells #[.int .i64 V, .string x, v] 24)).alloc (.cells #[.int .i64 0, .string ⟨#[]⟩, .slice none 0 0] 24)) w.heap.size V x v ∧ B3 ((w.alloc (.cells #[.int .i64 V, .string x, v] 24)).alloc (.cells #[.int .i64 0, .string ⟨#[]⟩, .slice none 0 0] 24)) (w.heap.size + 1) 0 ⟨#[]⟩ (.slice none 0 0) ∧ Below w.heap.size w ((w.alloc (.cells #[.int .i64 V, .string x, v] 24)).alloc (.cells #[.int .i64 0, .string ⟨#[]⟩, .slice none 0 0] 24)) := by
 refine ⟨(B3.new w V x v).alloc _, ?_, ((Below.refl _ _).alloc (Nat.le_refl _) _).alloc (by simp) _⟩
 show _ = _
 rw [← nblk_alloc w (.cells #[.int .i64 V, .string x, v] 24)]
 exact blk_alloc_new _ _
def ShortAs (O : Nat → Prop) (tb q r K nm own : Nat) (hi : Int) (F : List Int) (R : Int → Ty) (d : Int → Nat) (σ : Int → Option Rw) (μ : Int → Option Int) (v : Int) (w : World) (e : Ending) (w' : World) : Prop := ∃ (u : Int) (σ' : Int → Option Rw), e = .returned (.agg #[.int .i64 u, .string ⟨#[]⟩, .slice none 0 0]) ∧ OkV F σ' u ∧ End σ' u ∧ R u = R v ∧ Cmp σ σ' ∧ PS F own σ' R d ∧ PT O w' tb q r K nm own hi σ' μ ∧ Only (Own3 tb q r) w w'
section
variable {O : Nat → Prop} {tb q r K nm own : Nat} {hi : Int} {F : List Int} {R : Int → Ty} {d : Int → Nat} {σ : Int → Option Rw} {μ : Int → Option Int} {w : World}
theorem short_name (x : ByteArray) (v : Value) (hv : ∃ ao l c, v = .slice ao l c) : Calls Tryd.prog 39 #[.pointer (some ⟨tb, 0, none⟩), .agg #[.int .i64 0, .string x, v]] w fun e w' => e = .returned (.agg #[.int .i64 0, .string x, v]) ∧ Below w.heap.size w w' := by
 obtain ⟨ao, l, c, rfl⟩ := hv
 go_enter Tryd.func39, Tryd.ntmps39
 go_upto_region 1 with fail
 obtain ⟨a1, a2, a3⟩ := two_new w 0 x (.slice ao l c)
 have A := hidden a1
 have C := hidden a2
 have D := hidden a3
 clear a1 a2 a3
 generalize (w.alloc (.cells #[.int .i64 0, .string x, .slice ao l c] 24)).alloc (.cells #[.int .i64 0, .string ⟨#[]⟩, .slice none 0 0] 24) = w0 at *
 obtain ⟨a0, a1, a2, af⟩ := A.out.cells
 obtain ⟨c0, c1, c2, cf⟩ := C.out.cells
 go_wp2_with fail
 refine bodyPost_ret (results_cell_row rfl _ _ (w.heap.size + 1) 24 #[.int .i64 0, .string x, .slice ao l c] (0, 0) _ rfl (C.out.fill 0 x (.slice ao l c)) Tryd.underlying24 rfl (by kernel_rfl)) rfl ?_
 exact ⟨rfl, below_fill3 D.out (by omega) _ _ _⟩
theorem short_var (hK : K ≤ 1000000000) (h : PT O w tb q r K nm own hi σ μ) (hs : PS F own σ R d) {V : Int} (hV : OkV F σ V) (x : ByteArray) (v : Value) (hv : ∃ ao l c, v = .slice ao l c) : Calls Tryd.prog 39 #[.pointer (some ⟨tb, 0, none⟩), .agg #[.int .i64 V, .string x, v]] w fun e w' => ShortAs O tb q r K nm own hi F R d σ μ V w e w' := by
 obtain ⟨ao, l, c, rfl⟩ := hv
 have T := hidden h
 have HS := hidden hs
 have HV := hidden hV
 have h0 : (V == 0) = false := beq_eq_false_iff_ne.2 (hs.nz hV)
 clear h hs hV
 go_enter Tryd.func39, Tryd.ntmps39
 go_upto_region 1 with fail
 obtain ⟨a1, a2, a3⟩ := two_new w V x (.slice ao l c)
 have A := hidden a1
 have C := hidden a2
 have D := hidden a3
 have T0 := hidden (T.out.below a3 (Nat.le_refl _))
 clear a1 a2 a3
 generalize (w.alloc (.cells #[.int .i64 V, .string x, .slice ao l c] 24)).alloc (.cells #[.int .i64 0, .string ⟨#[]⟩, .slice none 0 0] 24) = w0 at *
 obtain ⟨a0, a1, a2, af⟩ := A.out.cells
 clear a1 a2 af
 go_wp2_with fail
 refine (last_any hK T0.out HS.out HV.out).mono ?_
 rintro e w1 ⟨u, σ', rfl, h1, h2, h3, h4, h5, h6, h7⟩
 have HB : Hid (∀ g, O g ∨ Own3 tb q r g → g ≠ w.heap.size + 1) := fun g hg => by have h9 := T.out.new hg; omega
 have G1 := hidden h1
 have G2 := hidden h2
 have G3 := hidden h3
 have G4 := hidden h4
 have G5 := hidden h5
 have T1 := hidden h6
 have L1 := hidden h7
 have C1 : Hid (B3 w1 (w.heap.size + 1) 0 ⟨#[]⟩ (.slice none 0 0)) := C.out.keep (h7.block _ C.out.lt (fun c => HB.out _ (Or.inr c) rfl))
 clear h1 h2 h3 h4 h5 h6 h7 a0
 obtain ⟨c0, c1, c2, cf⟩ := C1.out.cells
 go_wp2_with fail
 refine bodyPost_ret (results_cell_row rfl _ _ (w.heap.size + 1) 24 #[.int .i64 u, .string ⟨#[]⟩, .slice none 0 0] (0, 0) _ rfl (C1.out.fill u ⟨#[]⟩ (.slice none 0 0)) Tryd.underlying24 rfl (by kernel_rfl)) rfl ?_
 exact ⟨u, σ', rfl, G1.out, G2.out, G3.out, G4.out, G5.out, T1.out.keep (fun g hg _ => fill3_blk w1 (HB.out g hg) _ _ _), ((Only.of_below D.out).trans L1.out).fill3 (Or.inl (by omega)) _ _ _⟩
theorem name_results {p : Nat} {V : Int} {x : ByteArray} {v : Value} (h : B3 w p V x v) (tmps : Array Value) {v5 : Value} (h4 : tmps.getD 4 undef = .pointer (some ⟨p, 0, none⟩)) (h5 : tmps.getD 5 undef = v5) : (results Tryd.f40 tmps).run Tryd.prog w = .ok (.tuple #[.agg #[.int .i64 V, .string x, v], v5]) w := by
 have g4 : tmps[4]?.getD undef = .pointer (some ⟨p, 0, none⟩) := by simpa using h4
 have g5 : tmps[5]?.getD undef = v5 := by simpa using h5
 unfold B3 at h
 simp [results, Tryd.results40, g4, g5, asAddr, run_loadVar_row w p 24 24 #[.int .i64 V, .string x, v] (0, 0) _ h Tryd.underlying24 rfl (by kernel_rfl)]
theorem name_name (x : ByteArray) (v : Value) (hv : ∃ ao l c, v = .slice ao l c) : Calls Tryd.prog 40 #[.pointer (some ⟨tb, 0, none⟩), .agg #[.int .i64 0, .string x, v]] w fun e w' => e = .returned (.tuple #[.agg #[.int .i64 0, .string x, v], .bool true]) ∧ Below w.heap.size w w' := by
 obtain ⟨ao, l, c, rfl⟩ := hv
 go_enter Tryd.func40, Tryd.ntmps40
 go_upto_region 1 with fail
 obtain ⟨a1, a2, a3⟩ := two_new w 0 x (.slice ao l c)
 have A := hidden a1
 have C := hidden a2
 have D := hidden a3
 clear a1 a2 a3
 generalize (w.alloc (.cells #[.int .i64 0, .string x, .slice ao l c] 24)).alloc (.cells #[.int .i64 0, .string ⟨#[]⟩, .slice none 0 0] 24) = w0 at *
 obtain ⟨a0, a1, a2, af⟩ := A.out.cells
 obtain ⟨c0, c1, c2, cf⟩ := C.out.cells
 go_wp2_with fail
 refine bodyPost_ret (name_results (C.out.fill 0 x (.slice ao l c)) _ rfl rfl) rfl ?_
 exact ⟨rfl, below_fill3 D.out (by omega) _ _ _⟩
theorem name_no (h : PT O w tb q r K nm own hi σ μ) {V : Int} (hV : -9223372036854775808 ≤ V ∧ V ≤ 9223372036854775807) (h0 : V ≠ 0) (hx : σ V = none) (x : ByteArray) (v : Value) (hv : ∃ ao l c, v = .slice ao l c) : Calls Tryd.prog 40 #[.pointer (some ⟨tb, 0, none⟩), .agg #[.int .i64 V, .string x, v]] w fun e w' => e = .returned (.tuple #[.agg #[.int .i64 0, .string ⟨#[]⟩, .slice none 0 0], .bool false]) ∧ Below w.heap.size w w' := by
 obtain ⟨ao, l, c, rfl⟩ := hv
 have T := hidden h
 have hb : (V == 0) = false := beq_eq_false_iff_ne.2 h0
 clear h h0
 go_enter Tryd.func40, Tryd.ntmps40
 go_upto_region 1 with fail
 obtain ⟨a1, a2, a3⟩ := two_new w V x (.slice ao l c)
 have A := hidden a1
 have C := hidden a2
 have D := hidden a3
 have T0 := hidden (T.out.below a3 (Nat.le_refl _))
 clear a1 a2 a3
 generalize (w.alloc (.cells #[.int .i64 V, .string x, .slice ao l c] 24)).alloc (.cells #[.int .i64 0, .string ⟨#[]⟩, .slice none 0 0] 24) = w0 at *
 obtain ⟨a0, a1, a2, af⟩ := A.out.cells
 obtain ⟨t0, t1, t2, t3, tf⟩ := T0.out.cells
 clear a1 a2 af t1 t2 t3 tf
 have hlk := T0.out.look_no hV hx
 go_upto_region 3 with fail
 refine region_till (S := (fun w' => w'.cell? ⟨tb, 0, none⟩ = some (.map (some q)) ∧ w'.cell? ⟨w.heap.size, 0, none⟩ = some (.int .i64 V) ∧ w'.heap[q]? = w0.heap[q]?)) (kz := 12) (by kernel_rfl) ⟨t0, a0, rfl⟩ (fun hHeld => ?_)
 refine AnyTill.tk (i := 0) (v := ?_) hHeld ?_ ?_
 rotate_left
 ·(intro w hSw; (try dsimp only at hSw); go_simp; (try with_reducible rfl))
 (try simp only [Act.put, q4, q5, q6, q1, q2, q3])
 refine AnyTill.tk (i := 1) (v := ?_) hHeld ?_ ?_
 rotate_left
 ·(intro w hSw; (try dsimp only at hSw); go_simp; (try with_reducible rfl))
 (try simp only [Act.put, q4, q5, q6, q1, q2, q3])
 refine AnyTill.tk (i := 2) (v := ?_) hHeld ?_ ?_
 rotate_left
 ·(intro w hSw; (try dsimp only at hSw); go_simp; (try with_reducible rfl))
 (try simp only [Act.put, q4, q5, q6, q1, q2, q3])
 refine AnyTill.tk (i := 3) (v := ?_) hHeld ?_ ?_
 rotate_left
 ·(intro w hSw; (try dsimp only at hSw); go_simp; (try with_reducible rfl))
 (try simp only [Act.put, q4, q5, q6, q1, q2, q3])
 refine AnyTill.tk (i := 4) (v := ?_) hHeld ?_ ?_
 rotate_left
 ·(intro w hSw; (try dsimp only at hSw); go_simp; (try with_reducible rfl))
 (try simp only [Act.put, q4, q5, q6, q1, q2, q3])
 refine AnyTill.tk (i := 5) (v := ?_) hHeld ?_ ?_
 rotate_left
 ·(intro w hSw; (try dsimp only at hSw); go_simp; (try with_reducible rfl))
 (try simp only [Act.put, q4, q5, q6, q1, q2, q3])
 refine AnyTill.tk (i := 6) (v := ?_) hHeld ?_ ?_
 rotate_left
 ·(intro w hSw; (try dsimp only at hSw); have h9 := (hlk w hSw.2.2).2; go_simp; (try with_reducible rfl))
 (try simp only [Act.put, q4, q5, q6, q1, q2, q3])
 refine AnyTill.tk (i := 7) (v := ?_) hHeld ?_ ?_
 rotate_left
 ·(intro w hSw; (try dsimp only at hSw); go_simp; (try with_reducible rfl))
 (try simp only [Act.put, q4, q5, q6, q1, q2, q3])
 refine AnyTill.tk (i := 8) (v := ?_) hHeld ?_ ?_
 rotate_left
 ·(intro w hSw; (try dsimp only at hSw); go_simp; (try with_reducible rfl))
 (try simp only [Act.put, q4, q5, q6, q1, q2, q3])
 refine AnyTill.tk (i := 9) (v := ?_) hHeld ?_ ?_
 rotate_left
 ·(intro w hSw; (try dsimp only at hSw); go_simp; (try with_reducible rfl))
 (try simp only [Act.put, q4, q5, q6, q1, q2, q3])
 refine AnyTill.one (i := 10) (by kernel_rfl) rfl (fun K9 hK9 => ?_)
 (try simp only [q1, q2, q3])
 go_simp
 have TA : Hid (PT O (w0.alloc (.cells #[.int .i64 0, .string ⟨#[]⟩, .slice none 0 0] 24)).drew tb q r K nm own hi σ μ) := T0.out.keep (fun g _ hl => blk_alloc_lt _ _ _ hl)
 have AA : Hid (B3 (w0.alloc (.cells #[.int .i64 0, .string ⟨#[]⟩, .slice none 0 0] 24)).drew w.heap.size V x (.slice ao l c)) := (blk_alloc_lt _ _ _ A.out.lt).trans A.out
 have CA : Hid (B3 (w0.alloc (.cells #[.int .i64 0, .string ⟨#[]⟩, .slice none 0 0] 24)).drew (w.heap.size + 1) 0 ⟨#[]⟩ (.slice none 0 0)) := (blk_alloc_lt _ _ _ C.out.lt).trans C.out
 have BN : Hid (B3 (w0.alloc (.cells #[.int .i64 0, .string ⟨#[]⟩, .slice none 0 0] 24)).drew w0.heap.size 0 ⟨#[]⟩ (.slice none 0 0)) := B3.new w0 0 ⟨#[]⟩ (.slice none 0 0)
 have DA : Hid (Below w.heap.size w (w0.alloc (.cells #[.int .i64 0, .string ⟨#[]⟩, .slice none 0 0] 24)).drew) := below_drew (D.out.trans (((Below.refl w0.heap.size w0).alloc (Nat.le_refl _) (.cells #[.int .i64 0, .string ⟨#[]⟩, .slice none 0 0] 24)).mono D.out.size))
 have QA : Hid (((w0.alloc (.cells #[.int .i64 0, .string ⟨#[]⟩, .slice none 0 0] 24)).drew).heap[q]? = w0.heap[q]?) := blk_alloc_lt _ _ _ T0.out.ltq
 generalize (w0.alloc (.cells #[.int .i64 0, .string ⟨#[]⟩, .slice none 0 0] 24)).drew = w2 at *
 obtain ⟨b, hb5⟩ : ∃ b, w0.heap.size = b := ⟨_, rfl⟩
 have HCB : Hid (w.heap.size + 1 < b) := by have h9 := C.out.lt; show _ < _; omega
 have HTB : Hid (∀ g, O g ∨ Own3 tb q r g → g ≠ b) := fun g hg => by have h9 := T0.out.new hg; omega
 rw [hb5] at BN ⊢
 have s2 := TA.out.cells.1
 have s3 := AA.out.cells.1
 refine hK9.out _ _ (fun _ => ⟨s2, s3, QA.out⟩) ?_
 clear hK9 K9
 (try simp only [Act.put, q4, q5, q6, q1, q2, q3])
 clear s2 s3 hb5
 obtain ⟨n0, n1, n2, nf⟩ := BN.out.cells
 refine AnyTill.one (i := 11) (by kernel_rfl) rfl (fun K9 hK9 => ?_)
 (try simp only [q1, q2, q3])
 go_simp
 have hcl : w.heap.size ≠ b ∧ w.heap.size + 1 ≠ b := ⟨by have h9 := HCB.out; omega, by have h9 := HCB.out; omega⟩
 have T3 : Hid (PT O (fill3 w2 b 0 ⟨#[]⟩ (.slice none 0 0)) tb q r K nm own hi σ μ) := TA.out.keep (fun g hg _ => fill3_blk w2 (HTB.out g hg) _ _ _)
 have A3 : Hid (B3 (fill3 w2 b 0 ⟨#[]⟩ (.slice none 0 0)) w.heap.size V x (.slice ao l c)) := AA.out.keep (fill3_blk w2 hcl.1 _ _ _)
 have C3 : Hid (B3 (fill3 w2 b 0 ⟨#[]⟩ (.slice none 0 0)) (w.heap.size + 1) 0 ⟨#[]⟩ (.slice none 0 0)) := CA.out.keep (fill3_blk w2 hcl.2 _ _ _)
 have N3 : Hid (B3 (fill3 w2 b 0 ⟨#[]⟩ (.slice none 0 0)) b 0 ⟨#[]⟩ (.slice none 0 0)) := BN.out.fill _ _ _
 have D3 : Hid (Below w.heap.size w (fill3 w2 b 0 ⟨#[]⟩ (.slice none 0 0))) := below_fill3 DA.out (by have h9 := HCB.out; omega) _ _ _
 have Q3 : Hid ((fill3 w2 b 0 ⟨#[]⟩ (.slice none 0 0)).heap[q]? = w0.heap[q]?) := (fill3_blk w2 (HTB.out q (Or.inr (Or.inr (Or.inl rfl)))) _ _ _).trans QA.out
 obtain ⟨w3, hw3⟩ : ∃ w3, fill3 w2 b 0 ⟨#[]⟩ (.slice none 0 0) = w3 := ⟨_, rfl⟩
 rw [hw3] at T3 A3 C3 N3 D3 Q3
 unfold fill3 at hw3
 simp only [hw3]
 clear hw3 TA AA CA BN DA QA n0 n1 n2 nf hcl
 have s2 := T3.out.cells.1
 have s3 := A3.out.cells.1
 refine hK9.out _ _ (fun _ => ⟨s2, s3, Q3.out⟩) ?_
 clear hK9 K9
 (try simp only [Act.put, q4, q5, q6, q1, q2, q3])
 clear s2 s3
 refine AnyTill.one (i := 12) (by kernel_rfl) rfl (fun K9 hK9 => ?_)
 (try simp only [q1, q2, q3])
 go_simp
 refine hK9.out _ _ (fun h => absurd rfl h) ?_
 clear hK9 K9
 (try simp only [Act.put, q4, q5, q6, q1, q2, q3])
 refine AnyTill.done (by kernel_rfl) ?_ _
 (try simp only [Act.put, q4, q5, q6, q1, q2, q3])
 clear hlk t0 a0
 obtain ⟨n0, n1, n2, nf⟩ := N3.out.cells
 obtain ⟨c0, c1, c2, cf⟩ := C3.out.cells
 go_wp2_with fail
 refine bodyPost_ret (name_results (C3.out.fill 0 ⟨#[]⟩ (.slice none 0 0)) _ rfl rfl) rfl ?_
 exact ⟨rfl, below_fill3 D3.out (by omega) _ _ _⟩
def NameAs (O : Nat → Prop) (z : Rw) (w : World) (e : Ending) (w' : World) : Prop := ∃ al cp, e = .returned (.tuple #[.agg #[.int .i64 z.V, .string ⟨z.S.toArray⟩, .slice al z.L.length cp], .bool true]) ∧ RT O w' z.L al ∧ (-9223372036854775808 ≤ z.V ∧ z.V ≤ 9223372036854775807 ∧ z.S.length ≤ maxLen) ∧ Below w.heap.size w w'
theorem name_yes (h : PT O w tb q r K nm own hi σ μ) {V : Int} (hV : -9223372036854775808 ≤ V ∧ V ≤ 9223372036854775807) (h0 : V ≠ 0) {z : Rw} (hx : σ V = some z) (x : ByteArray) (v : Value) (hv : ∃ ao l c, v = .slice ao l c) : Calls Tryd.prog 40 #[.pointer (some ⟨tb, 0, none⟩), .agg #[.int .i64 V, .string x, v]] w fun e w' => NameAs O z w e w' := by
 obtain ⟨ao, l, c, rfl⟩ := hv
 have T := hidden h
 have hb : (V == 0) = false := beq_eq_false_iff_ne.2 h0
 clear h h0
 go_enter Tryd.func40, Tryd.ntmps40
 go_upto_region 1 with fail
 obtain ⟨a1, a2, a3⟩ := two_new w V x (.slice ao l c)
 have A := hidden a1
 have C := hidden a2
 have D := hidden a3
 have T0 := hidden (T.out.below a3 (Nat.le_refl _))
 clear a1 a2 a3
 generalize (w.alloc (.cells #[.int .i64 V, .string x, .slice ao l c] 24)).alloc (.cells #[.int .i64 0, .string ⟨#[]⟩, .slice none 0 0] 24) = w0 at *
 obtain ⟨a0, a1, a2, af⟩ := A.out.cells
 obtain ⟨t0, t1, t2, t3, tf⟩ := T0.out.cells
 clear a1 a2 af t1 t2 t3 tf
 obtain ⟨al, cp, hr, hb2, hlk⟩ := T.out.look_yes hV hx
 have RZ := hidden hr
 have hlk := fun (w' : World) (e : w'.heap[q]? = w0.heap[q]?) => hlk w' (e.trans (D.out.block q T.out.ltq))
 clear hr
 go_upto_region 3 with fail
 refine region_till (S := (fun w' => w'.cell? ⟨tb, 0, none⟩ = some (.map (some q)) ∧ w'.cell? ⟨w.heap.size, 0, none⟩ = some (.int .i64 V) ∧ w'.heap[q]? = w0.heap[q]?)) (kz := 12) (by kernel_rfl) ⟨t0, a0, rfl⟩ (fun hHeld => ?_)
 refine AnyTill.tk (i := 0) (v := ?_) hHeld ?_ ?_
 rotate_left
 ·(intro w hSw; (try dsimp only at hSw); go_simp; (try with_reducible rfl))
 (try simp only [Act.put, q4, q5, q6, q1, q2, q3])
 refine AnyTill.tk (i := 1) (v := ?_) hHeld ?_ ?_
 rotate_left
 ·(intro w hSw; (try dsimp only at hSw); go_simp; (try with_reducible rfl))
 (try simp only [Act.put, q4, q5, q6, q1, q2, q3])
 refine AnyTill.tk (i := 2) (v := ?_) hHeld ?_ ?_
 rotate_left
 ·(intro w hSw; (try dsimp only at hSw); go_simp; (try with_reducible rfl))
 (try simp only [Act.put, q4, q5, q6, q1, q2, q3])
 refine AnyTill.tk (i := 3) (v := ?_) hHeld ?_ ?_
 rotate_left
 ·(intro w hSw; (try dsimp only at hSw); go_simp; (try with_reducible rfl))
 (try simp only [Act.put, q4, q5, q6, q1, q2, q3])
 refine AnyTill.tk (i := 4) (v := ?_) hHeld ?_ ?_
 rotate_left
 ·(intro w hSw; (try dsimp only at hSw); go_simp; (try with_reducible rfl))
 (try simp only [Act.put, q4, q5, q6, q1, q2, q3])
 refine AnyTill.tk (i := 5) (v := ?_) hHeld ?_ ?_
 rotate_left
 ·(intro w hSw; (try dsimp only at hSw); go_simp; (try with_reducible rfl))
 (try simp only [Act.put, q4, q5, q6, q1, q2, q3])
 refine AnyTill.tk (i := 6) (v := ?_) hHeld ?_ ?_
 rotate_left
 ·(intro w hSw; (try dsimp only at hSw); have h9 := (hlk w hSw.2.2).2; go_simp; (try with_reducible rfl))
 (try simp only [Act.put, q4, q5, q6, q1, q2, q3])
 refine AnyTill.tk (i := 7) (v := ?_) hHeld ?_ ?_
 rotate_left
 ·(intro w hSw; (try dsimp only at hSw); go_simp; (try with_reducible rfl))
 (try simp only [Act.put, q4, q5, q6, q1, q2, q3])
 refine AnyTill.tk (i := 8) (v := ?_) hHeld ?_ ?_
 rotate_left
 ·(intro w hSw; (try dsimp only at hSw); go_simp; (try with_reducible rfl))
 (try simp only [Act.put, q4, q5, q6, q1, q2, q3])
 refine AnyTill.tk (i := 9) (v := ?_) hHeld ?_ ?_
 rotate_left
 ·(intro w hSw; (try dsimp only at hSw); go_simp; (try with_reducible rfl))
 (try simp only [Act.put, q4, q5, q6, q1, q2, q3])
 refine AnyTill.one (i := 10) (by kernel_rfl) rfl (fun K9 hK9 => ?_)
 (try simp only [q1, q2, q3])
 go_simp
 have TA : Hid (PT O (w0.alloc (.cells #[.int .i64 0, .string ⟨#[]⟩, .slice none 0 0] 24)).drew tb q r K nm own hi σ μ) := T0.out.keep (fun g _ hl => blk_alloc_lt _ _ _ hl)
 have AA : Hid (B3 (w0.alloc (.cells #[.int .i64 0, .string ⟨#[]⟩, .slice none 0 0] 24)).drew w.heap.size V x (.slice ao l c)) := (blk_alloc_lt _ _ _ A.out.lt).trans A.out
 have CA : Hid (B3 (w0.alloc (.cells #[.int .i64 0, .string ⟨#[]⟩, .slice none 0 0] 24)).drew (w.heap.size + 1) 0 ⟨#[]⟩ (.slice none 0 0)) := (blk_alloc_lt _ _ _ C.out.lt).trans C.out
 have BN : Hid (B3 (w0.alloc (.cells #[.int .i64 0, .string ⟨#[]⟩, .slice none 0 0] 24)).drew w0.heap.size 0 ⟨#[]⟩ (.slice none 0 0)) := B3.new w0 0 ⟨#[]⟩ (.slice none 0 0)
 have DA : Hid (Below w.heap.size w (w0.alloc (.cells #[.int .i64 0, .string ⟨#[]⟩, .slice none 0 0] 24)).drew) := below_drew (D.out.trans (((Below.refl w0.heap.size w0).alloc (Nat.le_refl _) (.cells #[.int .i64 0, .string ⟨#[]⟩, .slice none 0 0] 24)).mono D.out.size))
 have QA : Hid (((w0.alloc (.cells #[.int .i64 0, .string ⟨#[]⟩, .slice none 0 0] 24)).drew).heap[q]? = w0.heap[q]?) := blk_alloc_lt _ _ _ T0.out.ltq
 generalize (w0.alloc (.cells #[.int .i64 0, .string ⟨#[]⟩, .slice none 0 0] 24)).drew = w2 at *
 obtain ⟨b, hb5⟩ : ∃ b, w0.heap.size = b := ⟨_, rfl⟩
 have HCB : Hid (w.heap.size + 1 < b) := by have h9 := C.out.lt; show _ < _; omega
 have HTB : Hid (∀ g, O g ∨ Own3 tb q r g → g ≠ b) := fun g hg => by have h9 := T0.out.new hg; omega
 rw [hb5] at BN ⊢
 have s2 := TA.out.cells.1
 have s3 := AA.out.cells.1
 refine hK9.out _ _ (fun _ => ⟨s2, s3, QA.out⟩) ?_
 clear hK9 K9
 (try simp only [Act.put, q4, q5, q6, q1, q2, q3])
 clear s2 s3 hb5
 obtain ⟨n0, n1, n2, nf⟩ := BN.out.cells
 refine AnyTill.one (i := 11) (by kernel_rfl) rfl (fun K9 hK9 => ?_)
 (try simp only [q1, q2, q3])
 go_simp
 have hcl : w.heap.size ≠ b ∧ w.heap.size + 1 ≠ b := ⟨by have h9 := HCB.out; omega, by have h9 := HCB.out; omega⟩
 have T3 : Hid (PT O (fill3 w2 b z.V ⟨z.S.toArray⟩ (.slice al z.L.length cp)) tb q r K nm own hi σ μ) := TA.out.keep (fun g hg _ => fill3_blk w2 (HTB.out g hg) _ _ _)
 have A3 : Hid (B3 (fill3 w2 b z.V ⟨z.S.toArray⟩ (.slice al z.L.length cp)) w.heap.size V x (.slice ao l c)) := AA.out.keep (fill3_blk w2 hcl.1 _ _ _)
 have C3 : Hid (B3 (fill3 w2 b z.V ⟨z.S.toArray⟩ (.slice al z.L.length cp)) (w.heap.size + 1) 0 ⟨#[]⟩ (.slice none 0 0)) := CA.out.keep (fill3_blk w2 hcl.2 _ _ _)
 have N3 : Hid (B3 (fill3 w2 b z.V ⟨z.S.toArray⟩ (.slice al z.L.length cp)) b z.V ⟨z.S.toArray⟩ (.slice al z.L.length cp)) := BN.out.fill _ _ _
 have D3 : Hid (Below w.heap.size w (fill3 w2 b z.V ⟨z.S.toArray⟩ (.slice al z.L.length cp))) := below_fill3 DA.out (by have h9 := HCB.out; omega) _ _ _
 have Q3 : Hid ((fill3 w2 b z.V ⟨z.S.toArray⟩ (.slice al z.L.length cp)).heap[q]? = w0.heap[q]?) := (fill3_blk w2 (HTB.out q (Or.inr (Or.inr (Or.inl rfl)))) _ _ _).trans QA.out
 obtain ⟨w3, hw3⟩ : ∃ w3, fill3 w2 b z.V ⟨z.S.toArray⟩ (.slice al z.L.length cp) = w3 := ⟨_, rfl⟩
 rw [hw3] at T3 A3 C3 N3 D3 Q3
 unfold fill3 at hw3
 simp only [hw3]
 clear hw3 TA AA CA BN DA QA n0 n1 n2 nf hcl
 have s2 := T3.out.cells.1
 have s3 := A3.out.cells.1
 refine hK9.out _ _ (fun _ => ⟨s2, s3, Q3.out⟩) ?_
 clear hK9 K9
 (try simp only [Act.put, q4, q5, q6, q1, q2, q3])
 clear s2 s3
 refine AnyTill.one (i := 12) (by kernel_rfl) rfl (fun K9 hK9 => ?_)
 (try simp only [q1, q2, q3])
 go_simp
 refine hK9.out _ _ (fun h => absurd rfl h) ?_
 clear hK9 K9
 (try simp only [Act.put, q4, q5, q6, q1, q2, q3])
 refine AnyTill.done (by kernel_rfl) ?_ _
 (try simp only [Act.put, q4, q5, q6, q1, q2, q3])
 clear hlk t0 a0
 obtain ⟨n0, n1, n2, nf⟩ := N3.out.cells
 obtain ⟨c0, c1, c2, cf⟩ := C3.out.cells
 go_wp2_with fail
 refine bodyPost_ret (name_results (C3.out.fill z.V ⟨z.S.toArray⟩ (.slice al z.L.length cp)) _ rfl rfl) rfl ?_
 exact ⟨al, cp, rfl, RZ.out.beneath (below_fill3 D3.out (by omega) _ _ _) (Nat.le_refl _), hb2, below_fill3 D3.out (by omega) _ _ _⟩
end
end Go.Proofs.YtnebhiaeechpaaaDoor
