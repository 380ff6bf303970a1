/-
 Layer 10: the program's Canon: a type's variables numbered as they are met, in new memory. Condition: the type may be, and lies in memory.
-/
import Derived.Test.YtcfgfclapljilaaDoorP10Api3
import Derived.Test.YtcfgfclapljilaaDoorM10MapC
import Derived.Test.YtcfgfclapljilaaDoorX10Nu
namespace Go.Proofs.YtcfgfclapljilaaDoor
open Go.ChangeShapes Go.WideShapes Go.ChangeAt Go.RowKit Go.Deep
set_option linter.unusedVariables false
set_option linter.unusedSimpArgs false
set_option maxHeartbeats 4000000
set_option maxRecDepth 20000
/-- What the map of numbers holds. -/
def nuM (acc : List Nat) (k : Int) : Option Value := if 0 < k ∧ k.toNat ∈ acc then some (.int .i64 ((acc.idxOf k.toNat + 1 : Nat) : Int)) else none
def MapN (w : World) (q : Nat) (acc : List Nat) : Prop := MapC w q acc.length (nuM acc)
theorem MapN.put {w : World} {q : Nat} {acc : List Nat} (h : MapN w q acc) (hl : acc.length ≤ 2000000) {k : Int} (h0 : 0 < k) (hk : k ≤ 9223372036854775807) (hn : ¬ k.toNat ∈ acc) : ∃ w', (Instr.mapUpdate 49 (.map (some q)) (.int .i64 k) (.int .i64 ((acc.length : Int) + 1))).run Tryd.prog w = .ok () w' ∧ MapN w' q (acc ++ [k.toNat]) ∧ w.grownBy w' (some q) := by
 obtain ⟨w', g1, g2, g3⟩ := MapC.put h Tryd.underlying49 (by unfold maxLen; omega) (k := k) ⟨by omega, hk⟩ (by unfold nuM; rw [if_neg (fun c => hn c.2)]) (.int .i64 ((acc.length : Int) + 1))
 refine ⟨w', g1, ?_, g3⟩
 have e : nuM (acc ++ [k.toNat]) = (fun j => if j = k then some (Value.int .i64 ((acc.length : Int) + 1)) else nuM acc j) := by
  funext j
  unfold nuM
  by_cases e : j = k
  ·subst e
   rw [if_pos rfl, if_pos ⟨h0, by simp⟩, List.idxOf_append, if_neg hn]
   simp
  ·rw [if_neg e]
   by_cases hj : 0 < j
   ·have hne : j.toNat ≠ k.toNat := by omega
    by_cases hm : j.toNat ∈ acc
    ·rw [if_pos ⟨hj, List.mem_append_left _ hm⟩, if_pos ⟨hj, hm⟩, List.idxOf_append, if_pos hm]
    ·rw [if_neg (fun c => by rcases List.mem_append.1 c.2 with h9 | h9; exact hm h9; exact hne (List.mem_singleton.1 h9)), if_neg (fun c => hm c.2)]
   ·rw [if_neg (fun c => hj c.1), if_neg (fun c => hj c.1)]
 unfold MapN
 rw [e, List.length_append]
 exact g2
/-- What renumber tells. -/
def RenAs (q : Nat) (acc : List Nat) (t : Ty) (w : World) (e : Ending) (w' : World) : Prop := ∃ (al : Option Addr) (cp : Nat) (z : Rw), z = (t.ap (nu (t.vs acc))).rw ∧ e = .returned (.agg #[.int .i64 z.V, .string ⟨z.S.toArray⟩, .slice al z.L.length cp]) ∧ MapN w' q (t.vs acc) ∧ RT (fun g => w.heap.size ≤ g) w' z.L al ∧ Only (fun g => g = q) w w' ∧ Bd z
def RenFor (q : Nat) (s : Nat) : Prop := ∀ (acc : List Nat) (w : World) (x : Rw) (ao : Option Addr) (c : Nat), x.sz ≤ s → x.sz ≤ 1000000 → acc.length + x.sz ≤ 1000000 → x.may = true → Bd x → MapN w q acc → RT (fun g => g ≠ q) w x.L ao → Calls Tryd.prog 34 #[.agg #[.int .i64 x.V, .string ⟨x.S.toArray⟩, .slice ao x.L.length c], .map (some q)] w fun e w' => RenAs q acc x.ty w e w'
/-- How it stands while parts are numbered. -/
def InRn (q : Nat) (acc : List Nat) (Z : List Ty) (S : List UInt8) (w : World) (fb : Nat) (iv : Value) (wr : World) : Prop := ∃ (k : Nat) (D : List TD) (v : Value), k ≤ Z.length ∧ iv = .int .i64 (k : Int) ∧ D.length = k ∧ TW10 wr (fb + 1) v D ∧ D.map TD.t = (apL (nu (vsL (Z.take k) acc)) (Z.take k)).map Ty.rw ∧ MapN wr q (vsL (Z.take k) acc) ∧ Only (fun g => g = q) w wr ∧ B3 wr (w.heap.size + 1) 0 ⟨#[]⟩ (.slice none 0 0) ∧ B3 wr fb 0 ⟨S.toArray⟩ v
theorem bd_num {k : Int} (h0 : 0 ≤ k) (h1 : k ≤ 2000000) : Bd (.mk k [] []) := ⟨by show (-9223372036854775808 : Int) ≤ k; omega, by show k ≤ (9223372036854775807 : Int); omega, Nat.zero_le _⟩
section
variable {q : Nat}
theorem ren_var (w : World) (V : Int) (acc : List Nat) (ao : Option Addr) (c : Nat) (h0 : 0 < V) (h1 : V ≤ 9223372036854775807) (hl : acc.length ≤ 1000000) (h : MapN w q acc) : Calls Tryd.prog 34 #[.agg #[.int .i64 V, .string ⟨#[]⟩, .slice ao 0 c], .map (some q)] w fun e w' => RenAs q acc (.v V.toNat) w e w' := by
 have M := hidden h
 have hq := h.lt
 have z0 : (V == 0) = false := beq_eq_false_iff_ne.2 (by omega)
 clear h
 go_enter Tryd.func34, Tryd.ntmps34
 go_upto_region 1 with fail
 obtain ⟨a1, a2, a3⟩ := two_new w V ⟨#[]⟩ (.slice ao 0 c)
 have A := hidden a1
 have C := hidden a2
 have D := hidden a3
 have M0 := hidden (MapC.below M.out a3)
 clear a1 a2 a3
 generalize (w.alloc (.cells #[.int .i64 V, .string ⟨#[]⟩, .slice ao 0 c] 24)).alloc (.cells #[.int .i64 0, .string ⟨#[]⟩, .slice none 0 0] 24) = w0 at *
 obtain ⟨a0, a1, a2, af⟩ := A.out.cells
 obtain ⟨c0, c1, c2, cf⟩ := C.out.cells
 clear a1 a2 af
 by_cases hm : V.toNat ∈ acc
 ·have hv : nuM acc V = some (.int .i64 ((acc.idxOf V.toNat + 1 : Nat) : Int)) := by unfold nuM; rw [if_pos ⟨h0, hm⟩]
  have hi := List.idxOf_lt_length_iff.2 hm
  have hlk : ∀ w' : World, w'.heap[q]? = w0.heap[q]? → (Instr.lookup 49 (.map (some q)) (.int .i64 V) false).run Tryd.prog w' = .ok (.int .i64 ((acc.idxOf V.toNat + 1 : Nat) : Int)) w' := fun w' e => (MapC.v (MapC.keep M0.out e)).val_yes Tryd.underlying49 (z := .int .i64 0) (by kernel_rfl) ⟨by omega, h1⟩ hv
  have hl0 := hlk w0 rfl
  have HVS : Hid ((Ty.v V.toNat).vs acc = acc) := by show _ = _; rw [Ty.vs]; unfold addV; rw [if_pos hm]
  have HIX : Hid (((Ty.v V.toNat).ap (nu acc)).rw = .mk ((acc.idxOf V.toNat + 1 : Nat) : Int) [] []) := by show _ = _; rw [Ty.ap]; rfl
  obtain ⟨ix, hix⟩ : ∃ ix, acc.idxOf V.toNat + 1 = ix := ⟨_, rfl⟩
  rw [hix] at hl0 HIX
  have zi : ((ix : Int) == 0) = false := beq_eq_false_iff_ne.2 (by omega)
  have hix2 : ix ≤ 1000000 := by omega
  clear hlk hv hix hi hm
  go_wp2_with fail
  refine bodyPost_ret (results_cell_row rfl _ _ (w.heap.size + 1) 24 #[.int .i64 (ix : Int), .string ⟨#[]⟩, .slice none 0 0] (0, 0) _ rfl (C.out.fill (ix : Int) ⟨#[]⟩ (.slice none 0 0)) Tryd.underlying24 rfl (by kernel_rfl)) rfl ?_
  refine ⟨none, 0, .mk (ix : Int) [] [], by rw [HVS.out, HIX.out], rfl, ?_, rt_nil, (Only.of_below D.out).fill3 (Or.inl (by omega)) _ _ _, bd_num (by omega) (by omega)⟩
  rw [HVS.out]
  exact MapC.keep M0.out (fill3_blk w0 (by omega) _ _ _)
 ·have hv : nuM acc V = none := by unfold nuM; rw [if_neg (fun e => hm e.2)]
  have hl0 : (Instr.lookup 49 (.map (some q)) (.int .i64 V) false).run Tryd.prog w0 = .ok (.int .i64 0) w0 := (MapC.v M0.out).val_no Tryd.underlying49 (by kernel_rfl) ⟨by omega, h1⟩ hv
  have hln : ∀ ty : TypeId, (Builtin.len_ #[49] ty #[.map (some q)]).run Tryd.prog w0 = .ok (.int .i64 (acc.length : Int)) w0 := fun ty => MapC.len M0.out Tryd.underlying49 ty
  obtain ⟨w1, m1, m2, m3⟩ := MapN.put M0.out (by omega) h0 h1 hm
  have M1 := hidden m2
  have hv1 : nuM (acc ++ [V.toNat]) V = some (.int .i64 ((acc.length + 1 : Nat) : Int)) := by
   unfold nuM
   rw [if_pos ⟨h0, by simp⟩, List.idxOf_append, if_neg hm]
   simp
  have hl1 : (Instr.lookup 49 (.map (some q)) (.int .i64 V) false).run Tryd.prog w1 = .ok (.int .i64 ((acc.length + 1 : Nat) : Int)) w1 := (MapC.v m2).val_yes Tryd.underlying49 (z := .int .i64 0) (by kernel_rfl) ⟨by omega, h1⟩ hv1
  have A1 : Hid (B3 w1 w.heap.size V ⟨#[]⟩ (.slice ao 0 c)) := A.out.keep (grown_keep m3 A.out.lt (by omega))
  have C1 : Hid (B3 w1 (w.heap.size + 1) 0 ⟨#[]⟩ (.slice none 0 0)) := C.out.keep (grown_keep m3 C.out.lt (by omega))
  have O1 : Hid (Only (fun g => g = q) w w1) := (Only.of_below D.out).trans (Only.grown m3 rfl)
  have HVS : Hid ((Ty.v V.toNat).vs acc = acc ++ [V.toNat]) := by show _ = _; rw [Ty.vs]; unfold addV; rw [if_neg hm]
  have HIX : Hid (((Ty.v V.toNat).ap (nu (acc ++ [V.toNat]))).rw = .mk ((acc.length + 1 : Nat) : Int) [] []) := by
   show _ = _
   rw [Ty.ap]
   unfold nu
   rw [List.idxOf_append, if_neg hm, Ty.rw]
   simp
  have em : ((acc.length + 1 : Nat) : Int) = (acc.length : Int) + 1 := by omega
  rw [em] at hl1 HIX
  clear em hv hv1 m2 m3 hm
  go_upto_region 4 with fail
  clear hl0 hln m1 a0 c0 c1 c2 cf
  obtain ⟨a0, a1, a2, af⟩ := A1.out.cells
  obtain ⟨c0, c1, c2, cf⟩ := C1.out.cells
  clear a1 a2 af
  go_wp2_with fail
  refine bodyPost_ret (results_cell_row rfl _ _ (w.heap.size + 1) 24 #[.int .i64 ((acc.length : Int) + 1), .string ⟨#[]⟩, .slice none 0 0] (0, 0) _ rfl (C1.out.fill ((acc.length : Int) + 1) ⟨#[]⟩ (.slice none 0 0)) Tryd.underlying24 rfl (by kernel_rfl)) rfl ?_
  refine ⟨none, 0, .mk ((acc.length : Int) + 1) [] [], by rw [HVS.out, HIX.out], rfl, ?_, rt_nil, O1.out.fill3 (Or.inl (by omega)) _ _ _, bd_num (by omega) (by omega)⟩
  rw [HVS.out]
  exact MapC.keep M1.out (fill3_blk w1 (by omega) _ _ _)
theorem ren_name {s : Nat} (IH : RenFor q s) (acc : List Nat) (w : World) (S : List UInt8) (L : List Rw) (ao : Option Addr) (c : Nat) (hm : szRL L ≤ s) (hl1 : szRL L ≤ 1000000) (hl2 : acc.length + szRL L ≤ 1000000) (hsl : S.length ≤ maxLen) (hmay : mayL L = true) (h : MapN w q acc) (hrt : RT (fun g => g ≠ q) w L ao) : Calls Tryd.prog 34 #[.agg #[.int .i64 0, .string ⟨S.toArray⟩, .slice ao L.length c], .map (some q)] w fun e w' => RenAs q acc (.c S (tyL L)) w e w' := by
 have HI := hidden IH
 have HSZ := hidden hm
 have M := hidden h
 have X := hidden hrt
 have HSL := hidden hsl
 have HL1 := hidden hl1
 have HL2 := hidden hl2
 have HMY := hidden hmay
 have hq := MapC.lt h
 obtain ⟨Z, hZ⟩ : ∃ Z, tyL L = Z := ⟨_, rfl⟩
 have HZL : Hid (Z.length = L.length) := by show _ = _; rw [← hZ, tyL_len]
 have HZ := hidden hZ
 rw [hZ]
 clear h hrt IH hsl hl1 hl2 hm hmay hZ
 go_enter Tryd.func34, Tryd.ntmps34
 go_upto_region 1 with fail
 obtain ⟨a1, a2, a3⟩ := two_new w 0 ⟨S.toArray⟩ (.slice ao L.length c)
 have A := hidden a1
 have C4 := hidden a2
 have D := hidden a3
 have M4 := hidden (MapC.below M.out a3)
 have XG : Hid (∀ wr, Only (fun g => g = q) w wr → RT (fun g => g ≠ q) wr L ao) := fun wr h => X.out.keep (fun g hg hl => h.block g hl hg)
 have L4 : Hid (Only (fun g => g = q) w ((w.alloc (.cells #[.int .i64 0, .string ⟨S.toArray⟩, .slice ao L.length c] 24)).alloc (.cells #[.int .i64 0, .string ⟨#[]⟩, .slice none 0 0] 24))) := Only.of_below a3
 clear a1 a2 a3
 generalize (w.alloc (.cells #[.int .i64 0, .string ⟨S.toArray⟩, .slice ao L.length c] 24)).alloc (.cells #[.int .i64 0, .string ⟨#[]⟩, .slice none 0 0] 24) = w4 at *
 obtain ⟨n, hn⟩ : ∃ n, L.length = n := ⟨_, rfl⟩
 rw [hn] at A HZL ⊢
 have HN := hidden hn
 clear hn
 obtain ⟨a0, a1, a2, af⟩ := A.out.cells
 clear af
 go_upto_region 6 with fail
 have M5 := hidden (MapC.alloc M4.out (.cells #[.int .i64 0, .string ⟨S.toArray⟩, .slice none 0 0] 24))
 have A5 := hidden (A.out.alloc (.cells #[.int .i64 0, .string ⟨S.toArray⟩, .slice none 0 0] 24))
 have C5 := hidden (C4.out.alloc (.cells #[.int .i64 0, .string ⟨S.toArray⟩, .slice none 0 0] 24))
 have F5 := hidden (B3.new w4 0 ⟨S.toArray⟩ (.slice none 0 0))
 have L5 := hidden (L4.out.alloc (.cells #[.int .i64 0, .string ⟨S.toArray⟩, .slice none 0 0] 24))
 have hfb : w.heap.size + 1 < w4.heap.size := C4.out.lt
 generalize w4.alloc (.cells #[.int .i64 0, .string ⟨S.toArray⟩, .slice none 0 0] 24) = w5 at *
 obtain ⟨fb, hfbe⟩ : ∃ fb, w4.heap.size = fb := ⟨_, rfl⟩
 rw [hfbe] at F5 hfb ⊢
 clear hfbe a0 a1 a2
 obtain ⟨i0, i1, i2, if_⟩ := A5.out.cells
 clear i0 i1 if_
 go_wp2_with fail
 clear i2
 go_loopw [33] (fun iv wr => InRn q acc Z S w fb iv wr) (fun iv wr => (n - intOf iv).toNat)
 case atStart => exact ⟨0, [], .slice none 0 0, Nat.zero_le _, rfl, rfl, TW10.nil _ _, by rw [List.take_zero, apL]; rfl, by rw [List.take_zero, vsL]; exact M5.out, L5.out, C5.out, F5.out⟩
 case round =>
  obtain ⟨k, Dl, v, k1, rfl, g1, g2, g4, g7, g11, g12, g13⟩ := hrel
  rw [HZL.out] at k1
  have G1 := hidden g1
  have G2 := hidden g2
  have G4 := hidden g4
  have G7 := hidden g7
  have G11 := hidden g11
  have G12 := hidden g12
  have G13 := hidden g13
  have hk9 : k ≤ 1000000 := by have h9 := len_szRL L; have h8 := HN.out; have h7 := HL1.out; omega
  clear g1 g2 g4 g7 g11 g12 g13
  by_cases hlt : k < n
  ·have z1 : (k : Int) < (n : Int) := by omega
   have zi : (0 : Int) ≤ (k : Int) ∧ (k : Int) < (n : Int) := ⟨by omega, z1⟩
   obtain ⟨t, ht⟩ : ∃ t, L[k]? = some t := ⟨_, List.getElem?_eq_getElem (by rw [HN.out]; exact hlt)⟩
   have htz := sz_part (List.mem_of_getElem? ht)
   have htm := mayL_mem HMY.out t (List.mem_of_getElem? ht)
   have HTK : Hid (Z.take (k + 1) = Z.take k ++ [t.ty]) := by show _ = _; rw [← HZ.out]; exact tyL_at ht
   have hacc : (vsL (Z.take k) acc).length + t.sz ≤ 1000000 := by
    have h9 := vsL_len (Z.take (k + 1)) acc
    have h8 := vsL_len (Z.take k) acc
    have h7 := szL_take Z (k + 1)
    rw [HTK.out, szL_app] at h7
    have h6 : szL [t.ty] = t.sz := by rw [szL, szL, t.sz_ty htm]; omega
    have h5 : szL Z = szRL L := by rw [← HZ.out, szL_ty L HMY.out]
    have h4 := HL2.out
    omega
   have X2 := XG.out wr G11.out
   obtain ⟨a, al2, cp2, rfl, t0, t1, t2, hv, hr2⟩ := rt_part X2 ht
   have M2 := hidden (MapC.alloc G7.out (.cells #[.int .i64 t.V, .string ⟨t.S.toArray⟩, .slice al2 t.L.length cp2] 24))
   have RP2 := hidden (hr2.alloc (.cells #[.int .i64 t.V, .string ⟨t.S.toArray⟩, .slice al2 t.L.length cp2] 24))
   have B2 := hidden (B3.new wr t.V ⟨t.S.toArray⟩ (.slice al2 t.L.length cp2))
   have W2 := hidden (G2.out.alloc (.cells #[.int .i64 t.V, .string ⟨t.S.toArray⟩, .slice al2 t.L.length cp2] 24))
   have O2 := hidden (G11.out.alloc (.cells #[.int .i64 t.V, .string ⟨t.S.toArray⟩, .slice al2 t.L.length cp2] 24))
   have C2 := hidden (G12.out.alloc (.cells #[.int .i64 t.V, .string ⟨t.S.toArray⟩, .slice al2 t.L.length cp2] 24))
   have F2 := hidden (G13.out.alloc (.cells #[.int .i64 t.V, .string ⟨t.S.toArray⟩, .slice al2 t.L.length cp2] 24))
   have S2 := hidden (nblk_alloc wr (.cells #[.int .i64 t.V, .string ⟨t.S.toArray⟩, .slice al2 t.L.length cp2] 24))
   have hwr : fb < wr.heap.size := G13.out.lt
   have HTB : Hid (Bd t) := hv
   have HTM := hidden htm
   have htz2 : t.sz ≤ 1000000 := by have h9 := HL1.out; omega
   have hsz2 : t.sz ≤ s := by have h9 := HSZ.out; omega
   obtain ⟨vo, vc, rfl⟩ := G2.out.slice
   clear hr2 X2 hv ht htz htm
   go_upto_region 9 with fail
   generalize wr.alloc (.cells #[.int .i64 t.V, .string ⟨t.S.toArray⟩, .slice al2 t.L.length cp2] 24) = w2 at *
   obtain ⟨b, hb5⟩ : ∃ b, wr.heap.size = b := ⟨_, rfl⟩
   rw [hb5] at B2 S2 hwr ⊢
   have HBW := hidden hb5
   clear hb5 t0 t1 t2
   have MD9 : Hid (MapN w2.drew q (vsL (Z.take k) acc)) := MapC.keep M2.out rfl
   have RD : Hid (RT (fun g => g ≠ q) w2.drew t.L al2) := RP2.out.keep (fun g _ _ => rfl)
   have HV := hidden (HI.out (vsL (Z.take k) acc) w2.drew t al2 cp2 hsz2 htz2 hacc HTM.out HTB.out MD9.out RD.out)
   have f2 := F2.out.cells.2.2.1
   obtain ⟨b0, b1, b2, bf⟩ := B2.out.cells
   clear hacc
   refine region_till (S := (fun w' => w'.cell? ⟨fb, 2, none⟩ = some (.slice vo Dl.length vc) ∧ w'.cell? ⟨b, 0, none⟩ = some (.int .i64 t.V) ∧ w'.cell? ⟨b, 1, none⟩ = some (.string ⟨t.S.toArray⟩) ∧ w'.cell? ⟨b, 2, none⟩ = some (.slice al2 t.L.length cp2))) (kz := 8) (by kernel_rfl) ⟨f2, b0, b1, b2⟩ (fun hHeld => ?_)
   refine AnyTill.tk (i := 0) (v := ?_) hHeld ?_ ?_
   rotate_left
   ·(intro w hSw; (try dsimp only at hSw); go_simp; (try with_reducible rfl))
   (try simp only [Act.put, q4, q5, q6, q1, q2, q3])
   refine AnyTill.tk (i := 1) (v := ?_) hHeld ?_ ?_
   rotate_left
   ·(intro w hSw; (try dsimp only at hSw); go_simp; (try with_reducible rfl))
   (try simp only [Act.put, q4, q5, q6, q1, q2, q3])
   refine AnyTill.tk (i := 2) (v := ?_) hHeld ?_ ?_
   rotate_left
   ·(intro w hSw; (try dsimp only at hSw); go_simp; (try with_reducible rfl))
   (try simp only [Act.put, q4, q5, q6, q1, q2, q3])
   refine AnyTill.tk (i := 3) (v := ?_) hHeld ?_ ?_
   rotate_left
   ·(intro w hSw; (try dsimp only at hSw); go_simp; (try with_reducible rfl))
   (try simp only [Act.put, q4, q5, q6, q1, q2, q3])
   refine AnyTill.one (i := 4) (by kernel_rfl) rfl (fun K9 hK9 => ?_)
   (try simp only [q1, q2, q3])
   go_simp
   refine HV.out.mono ?_
   rintro e w3 ⟨al3, cp3, y, hy, rfl, j3, j4, j7, j8⟩
   have hz3 := j7.size
   have hz3b : w2.heap.size ≤ w3.heap.size := hz3
   have hs2 := S2.out
   have F3 : Hid (B3 w3 fb 0 ⟨S.toArray⟩ (.slice vo Dl.length vc)) := F2.out.keep (j7.block _ F2.out.lt (by omega))
   have C3 : Hid (B3 w3 (w.heap.size + 1) 0 ⟨#[]⟩ (.slice none 0 0)) := C2.out.keep (j7.block _ C2.out.lt (by omega))
   have P3 : Hid (B3 w3 b t.V ⟨t.S.toArray⟩ (.slice al2 t.L.length cp2)) := B2.out.keep (j7.block _ B2.out.lt (by omega))
   have W3 : Hid (TW10 w3 (fb + 1) (.slice vo Dl.length vc) Dl) := W2.out.keep (fun g hg hl => j7.block _ hl (by omega))
   have L3 : Hid (Only (fun g => g = q) w w3) := (O2.out.drewN 1).trans j7
   have M3 := hidden j3
   have HY := hidden hy
   have hv8 := j8
   have hne : ∀ g, (Value.slice vo Dl.length vc).ownBlock = some g → fb + 1 ≤ g ∧ g < wr.heap.size := fun g hg => G2.out.1.lt g hg
   have HNE := hidden hne
   have Y3 : Hid (RT (fun g => fb + 1 ≤ g ∧ (Value.slice vo Dl.length vc).ownBlock ≠ some g) w3 y.L al3) := j4.mono (fun g hg _ => by
    have h9 : w2.heap.size ≤ g := hg
    refine ⟨by omega, fun e => ?_⟩
    have h8 := hne g e
    have h7 := HBW.out
    omega)
   have f3 := F3.out.cells.2.2.1
   obtain ⟨p0, p1, p2, pf⟩ := P3.out.cells
   refine hK9.out _ _ (fun _ => ⟨f3, p0, p1, p2⟩) ?_
   clear hK9 K9
   (try simp only [Act.put, q4, q5, q6, q1, q2, q3])
   clear f3 p0 p1 p2 pf j3 j4 j7 j8 f2 b0 b1 b2 bf hne hs2 hy
   refine AnyTill.one (i := 5) (by kernel_rfl) rfl (fun K9 hK9 => ?_)
   (try simp only [q1, q2, q3])
   go_simp
   have M4b := hidden (MapC.alloc M3.out (.cells #[.int .i64 y.V, .string ⟨y.S.toArray⟩, .slice al3 y.L.length cp3] 24))
   have F4 := hidden (F3.out.alloc (.cells #[.int .i64 y.V, .string ⟨y.S.toArray⟩, .slice al3 y.L.length cp3] 24))
   have C4b := hidden (C3.out.alloc (.cells #[.int .i64 y.V, .string ⟨y.S.toArray⟩, .slice al3 y.L.length cp3] 24))
   have P4 := hidden (P3.out.alloc (.cells #[.int .i64 y.V, .string ⟨y.S.toArray⟩, .slice al3 y.L.length cp3] 24))
   have W4 := hidden (W3.out.alloc (.cells #[.int .i64 y.V, .string ⟨y.S.toArray⟩, .slice al3 y.L.length cp3] 24))
   have L4b := hidden (L3.out.alloc (.cells #[.int .i64 y.V, .string ⟨y.S.toArray⟩, .slice al3 y.L.length cp3] 24))
   have S4 := hidden (nblk_alloc w3 (.cells #[.int .i64 y.V, .string ⟨y.S.toArray⟩, .slice al3 y.L.length cp3] 24))
   have B4 := hidden (B3.new w3 y.V ⟨y.S.toArray⟩ (.slice al3 y.L.length cp3))
   have Y4 := hidden (Y3.out.alloc (.cells #[.int .i64 y.V, .string ⟨y.S.toArray⟩, .slice al3 y.L.length cp3] 24))
   generalize w3.alloc (.cells #[.int .i64 y.V, .string ⟨y.S.toArray⟩, .slice al3 y.L.length cp3] 24) = w7 at *
   have f4 := F4.out.cells.2.2.1
   obtain ⟨p0, p1, p2, pf⟩ := P4.out.cells
   refine hK9.out _ _ (fun _ => ⟨f4, p0, p1, p2⟩) ?_
   clear hK9 K9
   (try simp only [Act.put, q4, q5, q6, q1, q2, q3])
   clear f4 p0 p1 p2 pf
   refine AnyTill.one (i := 6) (by kernel_rfl) rfl (fun K9 hK9 => ?_)
   (try simp only [q1, q2, q3])
   have hD9 : Dl.length < 1000000 := by have h9 := G1.out; have h8 := len_szRL L; have h7 := HN.out; have h6 := HL1.out; omega
   have hB9 : fb + 1 ≤ w7.heap.size := by have h9 := S4.out; have h8 := S2.out; omega
   refine step_type (w := w7) (a := ⟨_, _⟩) ?_ (.tmp 38) (.tmp 42) ?_ (fb + 1) (.slice vo Dl.length vc) Dl ?_ W4.out w3.heap.size 1 ⟨y, al3, cp3⟩ (0, 0) ?_ B4.out Y4.out hv8 hD9 hB9 ?_
   ·rfl
   ·rfl
   ·rfl
   ·rfl
   intro g cap w8 hrow hgr hog
   have W5 := hidden hrow
   have hne := HNE.out
   have hkp : ∀ g, g < w7.heap.size → (Value.slice vo Dl.length vc).ownBlock ≠ some g → w8.heap[g]? = w7.heap[g]? := fun g hg hn => hgr.block g hg (fun e => hn e.symm)
   have M5b : Hid (MapN w8 q (t.ty.vs (vsL (Z.take k) acc))) := MapC.keep M4b.out (hkp _ (MapC.lt M4b.out) (fun e => by have h9 := hne _ e; omega))
   have F5b : Hid (B3 w8 fb 0 ⟨S.toArray⟩ (.slice vo Dl.length vc)) := F4.out.keep (hkp _ F4.out.lt (fun e => by have h9 := hne _ e; omega))
   have C5b : Hid (B3 w8 (w.heap.size + 1) 0 ⟨#[]⟩ (.slice none 0 0)) := C4b.out.keep (hkp _ C4b.out.lt (fun e => by have h9 := hne _ e; omega))
   have P5 : Hid (B3 w8 b t.V ⟨t.S.toArray⟩ (.slice al2 t.L.length cp2)) := P4.out.keep (hkp _ P4.out.lt (fun e => by have h9 := hne _ e; have h8 := HBW.out; omega))
   have L5b : Hid (Only (fun g => g = q) w w8) := ⟨hgr.os.trans L4b.out.os, hgr.tape.trans L4b.out.tape, hgr.output.trans L4b.out.output, Nat.le_trans L4b.out.size hgr.size, fun k hk hs => (hkp k (Nat.lt_of_lt_of_le hk L4b.out.size) (fun e => by have h9 := hne k e; omega)).trans (L4b.out.block k hk hs)⟩
   have f5 := F5b.out.cells.2.2.1
   obtain ⟨p0, p1, p2, pf⟩ := P5.out.cells
   refine hK9.out _ _ (fun _ => ⟨f5, p0, p1, p2⟩) ?_
   clear hK9 K9
   (try simp only [Act.put, q4, q5, q6, q1, q2, q3])
   clear f5 p0 p1 p2 pf hrow hgr hog hne hkp
   refine AnyTill.one (i := 7) (by kernel_rfl) rfl (fun K9 hK9 => ?_)
   (try simp only [q1, q2, q3])
   go_simp
   have f5 := F5b.out.cells.2.2.1
   obtain ⟨p0, p1, p2, pf⟩ := P5.out.cells
   refine hK9.out _ _ (fun _ => ⟨f5, p0, p1, p2⟩) ?_
   clear hK9 K9
   (try simp only [Act.put, q4, q5, q6, q1, q2, q3])
   clear p0 p1 p2 pf
   have ff := F5b.out.cells.2.2.2
   refine AnyTill.one (i := 8) (by kernel_rfl) rfl (fun K9 hK9 => ?_)
   (try simp only [q1, q2, q3])
   go_simp
   refine hK9.out _ _ (fun h => absurd rfl h) ?_
   clear hK9 K9
   (try simp only [Act.put, q4, q5, q6, q1, q2, q3])
   refine AnyTill.done (by kernel_rfl) ?_ _
   (try simp only [Act.put, q4, q5, q6, q1, q2, q3])
   clear f5 ff
   have hk6 : ∀ g', g' ≠ fb → (w8.setCell ⟨fb, 2, none⟩ (.slice (some ⟨g, 0, none⟩) (Dl.length + 1) cap)).heap[g']? = w8.heap[g']? := fun g' hg => blk_setCell_other _ _ _ _ hg
   have M6 : Hid (MapN (w8.setCell ⟨fb, 2, none⟩ (.slice (some ⟨g, 0, none⟩) (Dl.length + 1) cap)) q (t.ty.vs (vsL (Z.take k) acc))) := MapC.keep M5b.out (hk6 _ (by omega))
   have F6 := hidden (F5b.out.set2 (.slice (some ⟨g, 0, none⟩) (Dl.length + 1) cap))
   have C6 : Hid (B3 (w8.setCell ⟨fb, 2, none⟩ (.slice (some ⟨g, 0, none⟩) (Dl.length + 1) cap)) (w.heap.size + 1) 0 ⟨#[]⟩ (.slice none 0 0)) := C5b.out.keep (hk6 _ (by omega))
   have W6 : Hid (TW10 (w8.setCell ⟨fb, 2, none⟩ (.slice (some ⟨g, 0, none⟩) (Dl.length + 1) cap)) (fb + 1) (.slice (some ⟨g, 0, none⟩) (Dl.length + 1) cap) (Dl ++ [⟨y, al3, cp3⟩])) := W5.out.keep (fun g' hg _ => hk6 g' (by omega))
   have L6 : Hid (Only (fun g => g = q) w (w8.setCell ⟨fb, 2, none⟩ (.slice (some ⟨g, 0, none⟩) (Dl.length + 1) cap))) := L5b.out.setNew (Or.inl (by omega)) _ _
   generalize w8.setCell ⟨fb, 2, none⟩ (.slice (some ⟨g, 0, none⟩) (Dl.length + 1) cap) = w9 at *
   clear hk6
   go_wp2_with fail
   go_roundw
   case rel =>
    refine ⟨k + 1, Dl ++ [⟨y, al3, cp3⟩], .slice (some ⟨g, 0, none⟩) (Dl.length + 1) cap, by rw [HZL.out]; omega, by go_num, by rw [List.length_append, G1.out]; rfl, W6.out, ?_, ?_, L6.out, C6.out, F6.out⟩
    ·rw [HTK.out, apL_app, nu_parts, vsL_snoc, List.map_append, List.map_append, G4.out]
     show _ ++ [y] = _
     rw [HY.out, apL, apL]
     rfl
    ·rw [HTK.out, vsL_snoc]
     exact M6.out
   case measure => simp [intOf]; omega
  ·have z1 : ¬ (k : Int) < (n : Int) := by omega
   have hkn : k = n := by omega
   obtain ⟨vo, vc, rfl⟩ := G2.out.slice
   obtain ⟨c0, c1, c2, cf⟩ := G12.out.cells
   obtain ⟨f0, f1, f2, ff⟩ := G13.out.cells
   have HKN := hidden hkn
   clear hkn
   go_wp2_with fail
   refine bodyPost_ret (results_cell_row rfl _ _ (w.heap.size + 1) 24 #[.int .i64 0, .string ⟨S.toArray⟩, .slice vo Dl.length vc] (0, 0) _ rfl (G12.out.fill 0 ⟨S.toArray⟩ (.slice vo Dl.length vc)) Tryd.underlying24 rfl (by kernel_rfl)) rfl ?_
   have eZ : Z.take k = Z := List.take_of_length_le (by rw [HZL.out]; have h9 := HKN.out; omega)
   obtain ⟨hrt, _⟩ := G2.out.rt
   have e4 := G4.out
   have e7 := G7.out
   rw [eZ] at e4 e7
   rw [e4] at hrt
   have hln : ((apL (nu (vsL Z acc)) Z).map Ty.rw).length = Dl.length := by rw [← e4, List.length_map]
   refine ⟨vo, vc, .mk 0 S ((apL (nu (vsL Z acc)) Z).map Ty.rw), ?_, ?_, ?_, ?_, G11.out.fill3 (Or.inl (by omega)) _ _ _, ?_⟩
   ·rw [Ty.vs, Ty.ap, Ty.rw, rwL_map]
   ·show Ending.returned (.agg #[.int .i64 0, .string ⟨S.toArray⟩, .slice vo Dl.length vc]) = .returned (.agg #[.int .i64 0, .string ⟨S.toArray⟩, .slice vo ((apL (nu (vsL Z acc)) Z).map Ty.rw).length vc])
    rw [hln]
   ·rw [Ty.vs]
    exact MapC.keep e7 (fill3_blk wr (by omega) _ _ _)
   ·exact (hrt.keep (fun g hg _ => fill3_blk wr (by omega) _ _ _)).mono (fun g hg _ => by omega)
   ·exact ⟨by show (-9223372036854775808 : Int) ≤ 0; omega, by show (0 : Int) ≤ _; omega, HSL.out⟩
theorem ren_any : ∀ s, RenFor q s
 | 0 => fun acc w x ao c hm => by
  have := sz_L x
  omega
 | s + 1 => fun acc w x ao c hm hl1 hl2 hmay hb h hrt => by
  have IH := ren_any s
  obtain ⟨V, S, L⟩ := x
  have hsz := sz_L (Rw.mk V S L)
  simp only [Rw.L] at hsz
  rcases may_parts hmay with ⟨h1, rfl, rfl⟩ | ⟨rfl, h2, h3⟩
  ·rw [Rw.ty, if_pos h1]
   exact ren_var w V acc ao c h1 hb.2.1 (by omega) h
  ·rw [Rw.ty, if_neg (by omega)]
   exact ren_name IH acc w S L ao c (by omega) (by omega) (by omega) hb.2.2 h3 h hrt
/-- What Canon tells. -/
def CanAs (t : Ty) (w : World) (e : Ending) (w' : World) : Prop := ∃ (al : Option Addr) (cp : Nat) (z : Rw), z = (canT t).rw ∧ e = .returned (.agg #[.int .i64 z.V, .string ⟨z.S.toArray⟩, .slice al z.L.length cp]) ∧ RT (fun g => w.heap.size ≤ g) w' z.L al ∧ Below w.heap.size w w' ∧ Bd z
theorem canon_any {P : Nat → Prop} {w : World} {x : Rw} {ao : Option Addr} (c : Nat) (hs : x.sz ≤ 1000000) (hm : x.may = true) (hb : Bd x) (hrt : RT P w x.L ao) : Calls Tryd.prog 18 #[.agg #[.int .i64 x.V, .string ⟨x.S.toArray⟩, .slice ao x.L.length c]] w fun e w' => CanAs x.ty w e w' := by
 have X := hidden (hrt.mono (Q := fun g => g < w.heap.size) (fun g _ hl => hl))
 have HM := hidden hm
 have HB := hidden hb
 clear hrt hm hb
 go_enter Tryd.func18, Tryd.ntmps18
 go_upto_region 1 with fail
 obtain ⟨a1, a2, a3⟩ := two_new w x.V ⟨x.S.toArray⟩ (.slice ao x.L.length c)
 have A := hidden a1
 have C := hidden a2
 have D := hidden a3
 have X0 := hidden (X.out.keep (w' := (w.alloc (.cells #[.int .i64 x.V, .string ⟨x.S.toArray⟩, .slice ao x.L.length c] 24)).alloc (.cells #[.int .i64 0, .string ⟨#[]⟩, .slice none 0 0] 24)) (fun g hg _ => a3.block g hg))
 clear a1 a2 a3
 generalize (w.alloc (.cells #[.int .i64 x.V, .string ⟨x.S.toArray⟩, .slice ao x.L.length c] 24)).alloc (.cells #[.int .i64 0, .string ⟨#[]⟩, .slice none 0 0] 24) = w0 at *
 obtain ⟨a0, a1, a2, af⟩ := A.out.cells
 have hmm := @run_makeMap Tryd.prog
 have h0 := D.out.size
 have hc := C.out.lt
 have HR := hidden (ren_any (q := w0.heap.size) x.sz [] (w0.alloc (.map #[] 0)) x ao c (Nat.le_refl _) hs (by show 0 + x.sz ≤ _; omega) HM.out HB.out (by unfold MapN; have e : nuM [] = fun _ => none := by { funext j; unfold nuM; simp }; rw [e]; exact MapC.made w0) ((X0.out.alloc (.map #[] 0)).mono (fun g hg _ => by omega)))
 have C1 := hidden (C.out.alloc (.map #[] 0))
 have D1 := hidden (D.out.alloc h0 (.map #[] 0))
 have S1 := hidden (nblk_alloc w0 (.map #[] 0))
 go_wp2_with fail
 refine HR.out.mono ?_
 rintro e w2 ⟨al, cp, z, hz, rfl, g1, g2, g3, g4⟩
 have HZ : Hid (z = (canT x.ty).rw) := hz
 have C2 : Hid (B3 w2 (w.heap.size + 1) 0 ⟨#[]⟩ (.slice none 0 0)) := C1.out.keep (g3.block _ C1.out.lt (by omega))
 have D2 : Hid (Below w.heap.size w w2) := D1.out.trans ⟨g3.os, g3.tape, g3.output, g3.size, fun g hg => g3.block g (by have h9 := S1.out; omega) (by omega)⟩
 have R2 : Hid (RT (fun g => w0.heap.size ≤ g) w2 z.L al) := g2.mono (fun g hg _ => by have h9 := S1.out; omega)
 have BZ := hidden g4
 clear hz g1 g2 g3 g4 hmm a0 a1 a2 af
 obtain ⟨c0, c1, c2, cf⟩ := C2.out.cells
 go_wp2_with fail
 refine bodyPost_ret (results_cell_row rfl _ _ (w.heap.size + 1) 24 #[.int .i64 z.V, .string ⟨z.S.toArray⟩, .slice al z.L.length cp] (0, 0) _ rfl (C2.out.fill z.V ⟨z.S.toArray⟩ (.slice al z.L.length cp)) Tryd.underlying24 rfl (by kernel_rfl)) rfl ?_
 exact ⟨al, cp, z, HZ.out, rfl, (R2.out.keep (fun g hg _ => fill3_blk w2 (by omega) _ _ _)).mono (fun g hg _ => by omega), below_fill3 D2.out (by omega) _ _ _, BZ.out⟩
end
end Go.Proofs.YtcfgfclapljilaaDoor
