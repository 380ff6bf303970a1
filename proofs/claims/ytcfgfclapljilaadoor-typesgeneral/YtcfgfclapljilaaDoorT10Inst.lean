/-
 Layer 10: the statement's own instance: true of a type and what it becomes when its variables are named. Condition: both lie in memory.
-/
import Derived.Test.YtcfgfclapljilaaDoorP10Tab
import Derived.Test.YtcfgfclapljilaaDoorP10Last
import Derived.Test.YtcfgfclapljilaaDoorP10Learn
import Derived.Test.YtcfgfclapljilaaDoorX10Good
import Derived.Test.YtcfgfclapljilaaDoorX10Nu
import Derived.Test.YtcfgfclapljilaaDoorM10Same
import Derived.Test.YtcfgfclapljilaaDoorP10Api
namespace Go.Proofs.YtcfgfclapljilaaDoor
open Go.ChangeShapes Go.WideShapes Go.ChangeAt Go.RowKit Go.Deep
set_option linter.unusedVariables false
set_option linter.unusedSimpArgs false
set_option maxHeartbeats 8000000
set_option maxRecDepth 20000
/-- What is named so far, each by θ. -/
def InstM (w : World) (q c : Nat) (θ : Nat → Ty) : Prop := ∃ (m : Int → Option Value) (σ : Int → Option Rw), MapV w q c m ∧ KnownP (fun g => g ≠ q) w σ m ∧ ∀ k z, σ k = some z → z = (θ k.toNat).rw
section
variable {w w' : World} {q c : Nat} {θ : Nat → Ty}
theorem InstM.keep (h : InstM w q c θ) (k : ∀ g, g < w.heap.size → w'.heap[g]? = w.heap[g]?) : InstM w' q c θ := by
 obtain ⟨m, σ, h1, h2, h3⟩ := h
 exact ⟨m, σ, h1.keep (k q h1.lt), h2.keep (fun g _ hl => k g hl), h3⟩
theorem InstM.alloc (h : InstM w q c θ) (o : Obj) : InstM (w.alloc o) q c θ := h.keep (fun g hl => blk_alloc_lt _ _ _ hl)
theorem InstM.below (h : InstM w q c θ) (k : Below w.heap.size w w') : InstM w' q c θ := h.keep (fun g hl => k.block g hl)
theorem InstM.lt (h : InstM w q c θ) : q < w.heap.size := by
 obtain ⟨m, σ, h1, _⟩ := h
 exact h1.lt
theorem InstM.more (h : InstM w q c θ) {c' : Nat} (hc : c ≤ c') : InstM w q c' θ := by
 obtain ⟨m, σ, ⟨D, ⟨es, cl, a1, a2, a3, a4⟩, b⟩, h2, h3⟩ := h
 exact ⟨m, σ, ⟨D, ⟨es, cl, a1, a2, Nat.le_trans a3 hc, a4⟩, b⟩, h2, h3⟩
theorem InstM.made (w : World) : InstM (w.alloc (.map #[] 0)) w.heap.size 0 θ := ⟨_, fun _ => none, MapV.made w, fun k => ⟨(fun _ => rfl), (fun x h => by cases h)⟩, (fun k z h => by cases h)⟩
theorem InstM.put (h : InstM w q c θ) (hc : c < maxLen) {V : Int} (hV : -9223372036854775808 ≤ V ∧ V ≤ 9223372036854775807) {z : Rw} (hz : z = (θ V.toNat).rw) (hb : Bd z) {al : Option Addr} {cp : Nat} (hr : RT (fun g => g ≠ q) w z.L al) : ∃ w', (Instr.mapUpdate 39 (.map (some q)) (.int .i64 V) (.agg #[.int .i64 z.V, .string ⟨z.S.toArray⟩, .slice al z.L.length cp])).run Tryd.prog w = .ok () w' ∧ InstM w' q (c + 1) θ ∧ w.grownBy w' (some q) := by
 obtain ⟨m, σ, h1, h2, h3⟩ := h
 obtain ⟨w', g1, g2, g3⟩ := h1.put Tryd.underlying39 hc hV (.agg #[.int .i64 z.V, .string ⟨z.S.toArray⟩, .slice al z.L.length cp])
 refine ⟨w', g1, ⟨_, upd σ V z, g2, fun j => ?_, fun k y hk => ?_⟩, g3⟩
 ·by_cases e : j = V
  ·subst e
   rw [upd_same]
   refine ⟨(fun c => by cases c), fun y hy => ?_⟩
   cases hy
   exact ⟨⟨hb.1, hb.2.1⟩, hb.2.2, al, cp, by simp, hr.keep (fun g hg hl => grown_keep g3 hl hg)⟩
  ·rw [upd_other z e]
   simp only [if_neg e]
   exact h2.keep (fun g hg hl => grown_keep g3 hl hg) j
 ·by_cases e : k = V
  ·subst e
   rw [upd_same] at hk
   cases hk
   exact hz
  ·rw [upd_other z e] at hk
   exact h3 k y hk
end
def InstAs (q c : Nat) (θ : Nat → Ty) (n : Nat) (w : World) (e : Ending) (w' : World) : Prop := e = .returned (.bool true) ∧ InstM w' q (c + n) θ ∧ Only (fun g => g = q) w w'
def InstFor (q : Nat) (θ : Nat → Ty) (s : Nat) : Prop := ∀ (c : Nat) (w : World) (g x : Rw) (ao bo : Option Addr) (c1 c2 : Nat), g.sz ≤ s → c + g.sz ≤ 1000000 → x.sz ≤ 1000000 → g.may = true → Bd g → Bd x → x = (g.ty.ap θ).rw → InstM w q c θ → RT (fun k => k ≠ q) w g.L ao → RT (fun k => k ≠ q) w x.L bo → Calls Tryd.prog 16 #[.agg #[.int .i64 g.V, .string ⟨g.S.toArray⟩, .slice ao g.L.length c1], .agg #[.int .i64 x.V, .string ⟨x.S.toArray⟩, .slice bo x.L.length c2], .map (some q)] w fun e w' => InstAs q c θ g.sz w e w'
section
variable {q : Nat} {θ : Nat → Ty}
theorem two_box2 (w : World) (V V2 : Int) (x x2 : ByteArray) (v v2 : Value) : ((w.alloc (.cells #[.int .i64 V, .string x, v] 24)).alloc (.cells #[.int .i64 V2, .string x2, v2] 24)).heap.size = w.heap.size + 2 := by rw [nblk_alloc, nblk_alloc]
theorem inst_var (c : Nat) (w : World) (V : Int) (x : Rw) (ao bo : Option Addr) (c1 c2 : Nat) (h0 : 0 < V) (hV : V ≤ 9223372036854775807) (hc : c ≤ 1000000) (hxs : x.sz ≤ 1000000) (hb : Bd x) (hx : x = (θ V.toNat).rw) (h : InstM w q c θ) (hrx : RT (fun k => k ≠ q) w x.L bo) : Calls Tryd.prog 16 #[.agg #[.int .i64 V, .string ⟨#[]⟩, .slice ao 0 c1], .agg #[.int .i64 x.V, .string ⟨x.S.toArray⟩, .slice bo x.L.length c2], .map (some q)] w fun e w' => InstAs q c θ 1 w e w' := by
 have hq := h.lt
 have HX := hidden hx
 have HB := hidden hb
 clear hx hb
 go_enter Tryd.func16, Tryd.ntmps16
 go_upto_region 1 with fail
 obtain ⟨a1, a2, a3⟩ := two_box w V x.V ⟨#[]⟩ ⟨x.S.toArray⟩ (.slice ao 0 c1) (.slice bo x.L.length c2)
 have A := hidden a1
 have C := hidden a2
 have D := hidden a3
 have M0 := hidden (h.below a3)
 have X0 := hidden (hrx.beneath a3 (Nat.le_refl _))
 have S0 := hidden (two_box2 w V x.V ⟨#[]⟩ ⟨x.S.toArray⟩ (.slice ao 0 c1) (.slice bo x.L.length c2))
 clear a1 a2 a3 h hrx
 generalize (w.alloc (.cells #[.int .i64 V, .string ⟨#[]⟩, .slice ao 0 c1] 24)).alloc (.cells #[.int .i64 x.V, .string ⟨x.S.toArray⟩, .slice bo x.L.length c2] 24) = w0 at *
 obtain ⟨a0, a1, a2, af⟩ := A.out.cells
 obtain ⟨b0, b1, b2, bf⟩ := C.out.cells
 clear af bf
 obtain ⟨m, σ, m1, m2, m3⟩ := id M0.out
 cases hs : σ V with
 | some z =>
  obtain ⟨k1, k0, al, cp, k2, k3⟩ := (m2 V).2 z hs
  have hz : z = x := by rw [m3 V z hs, HX.out]
  subst hz
  have hlk : (Instr.lookup 39 (.map (some q)) (.int .i64 V) true).run Tryd.prog w0 = .ok (.tuple #[.agg #[.int .i64 z.V, .string ⟨z.S.toArray⟩, .slice al z.L.length cp], .bool true]) w0 := m1.look_yes Tryd.underlying39 (z := .agg #[.int .i64 0, .string ⟨#[]⟩, .slice none 0 0]) (by kernel_rfl) ⟨by omega, hV⟩ k2
  have M1 := hidden (M0.out.alloc (.cells #[.int .i64 z.V, .string ⟨z.S.toArray⟩, .slice al z.L.length cp] 24))
  have E1 := hidden (B3.new w0 z.V ⟨z.S.toArray⟩ (.slice al z.L.length cp))
  have C1 := hidden (C.out.alloc (.cells #[.int .i64 z.V, .string ⟨z.S.toArray⟩, .slice al z.L.length cp] 24))
  have R1 := hidden (k3.alloc (.cells #[.int .i64 z.V, .string ⟨z.S.toArray⟩, .slice al z.L.length cp] 24))
  have X1 := hidden (X0.out.alloc (.cells #[.int .i64 z.V, .string ⟨z.S.toArray⟩, .slice al z.L.length cp] 24))
  have D1 := hidden (D.out.alloc D.out.size (.cells #[.int .i64 z.V, .string ⟨z.S.toArray⟩, .slice al z.L.length cp] 24))
  clear m1 m2 m3 hs k1 k0 k2 k3
  go_upto_region 3 with fail
  generalize w0.alloc (.cells #[.int .i64 z.V, .string ⟨z.S.toArray⟩, .slice al z.L.length cp] 24) = w1 at *
  clear a0 a1 a2 b0 b1 b2 hlk
  obtain ⟨b0, b1, b2, bf⟩ := C1.out.cells
  obtain ⟨d0, d1, d2, df⟩ := E1.out.cells
  have HS := hidden (rsame10 z.sz z z (Nat.le_refl _) hxs w1 bo al c2 cp X1.out R1.out)
  go_wp2_with fail
  refine HS.out.mono ?_
  rintro e w2 ⟨b, rfl, hb1, hb⟩
  obtain rfl : b = true := hb1.2 rfl
  have M2 := hidden ((M1.out.below hb).more (Nat.le_add_right c 1))
  have D2 := hidden (D1.out.trans (hb.mono D1.out.size))
  clear hb hb1 b0 b1 b2 bf d0 d1 d2 df
  go_wp2_with fail
  go_ret
  exact ⟨rfl, M2.out, Only.of_below D2.out⟩
 | none =>
  have hlk : (Instr.lookup 39 (.map (some q)) (.int .i64 V) true).run Tryd.prog w0 = .ok (.tuple #[.agg #[.int .i64 0, .string ⟨#[]⟩, .slice none 0 0], .bool false]) w0 := m1.look_no Tryd.underlying39 (by kernel_rfl) ⟨by omega, hV⟩ ((m2 V).1 hs)
  have M1 := hidden (M0.out.alloc (.cells #[.int .i64 0, .string ⟨#[]⟩, .slice none 0 0] 24))
  have A1 := hidden (A.out.alloc (.cells #[.int .i64 0, .string ⟨#[]⟩, .slice none 0 0] 24))
  have C1 := hidden (C.out.alloc (.cells #[.int .i64 0, .string ⟨#[]⟩, .slice none 0 0] 24))
  have X1 := hidden (X0.out.alloc (.cells #[.int .i64 0, .string ⟨#[]⟩, .slice none 0 0] 24))
  have D1 := hidden (D.out.alloc D.out.size (.cells #[.int .i64 0, .string ⟨#[]⟩, .slice none 0 0] 24))
  clear m1 m2 m3 hs
  go_upto_region 3 with fail
  generalize w0.alloc (.cells #[.int .i64 0, .string ⟨#[]⟩, .slice none 0 0] 24) = w1 at *
  clear a0 a1 a2 b0 b1 b2 hlk
  obtain ⟨a0, a1, a2, af⟩ := A1.out.cells
  obtain ⟨b0, b1, b2, bf⟩ := C1.out.cells
  clear a1 a2 af bf
  obtain ⟨w2, g1, g2, g3⟩ := M1.out.put (by unfold maxLen; omega) (V := V) ⟨by omega, hV⟩ HX.out HB.out (cp := c2) X1.out
  have M2 := hidden g2
  have O2 : Hid (Only (fun g => g = q) w w2) := (Only.of_below D1.out).trans (Only.grown g3 rfl)
  clear g2 g3
  go_wp2_with fail
  go_ret
  exact ⟨rfl, M2.out, O2.out⟩
/-- How it stands while parts are held against each other. -/
def InIn (q c : Nat) (θ : Nat → Ty) (L : List Rw) (w0 : World) (jv iv : Value) (wr : World) : Prop := ∃ k : Nat, k ≤ L.length ∧ iv = .int .i64 (k : Int) ∧ InstM wr q (c + szRL (L.take k)) θ ∧ Only (fun g => g = q) w0 wr
theorem cell_q {q : Nat} {w w' : World} {a : Addr} {v : Value} (h : Only (fun g => g = q) w.drew w') (hc : w.cell? a = some v) (hn : a.block ≠ q) : w'.cell? a = some v := cell_only h hn hc
theorem inst_name {s : Nat} (IH : InstFor q θ s) (c : Nat) (w : World) (S : List UInt8) (L : List Rw) (ao bo : Option Addr) (c1 c2 : Nat) (hm : szRL L ≤ s) (hc : c + szRL L ≤ 999999) (hxs : szL (apL θ (tyL L)) ≤ 999999) (hmay : mayL L = true) (h : InstM w q c θ) (hrg : RT (fun k => k ≠ q) w L ao) (hrx : RT (fun k => k ≠ q) w ((apL θ (tyL L)).map Ty.rw) bo) : Calls Tryd.prog 16 #[.agg #[.int .i64 0, .string ⟨S.toArray⟩, .slice ao L.length c1], .agg #[.int .i64 0, .string ⟨S.toArray⟩, .slice bo L.length c2], .map (some q)] w fun e w' => InstAs q c θ (1 + szRL L) w e w' := by
 have hq := h.lt
 have HI := hidden IH
 have HM := hidden hm
 have HC := hidden hc
 have HMY := hidden hmay
 obtain ⟨L', hL'⟩ : ∃ L', (apL θ (tyL L)).map Ty.rw = L' := ⟨_, rfl⟩
 rw [hL'] at hrx
 have HLP := hidden hL'
 have HXS : Hid (szRL L' ≤ 999999) := by show _ ≤ _; rw [← hL', ← rwL_map, szL_rw]; exact hxs
 have HLL : Hid (L'.length = L.length) := by show _ = _; rw [← hL', List.length_map, apL_len, tyL_len]
 have hll := len_szRL L
 obtain ⟨s', hs⟩ : ∃ s' : ByteArray, ⟨S.toArray⟩ = s' := ⟨_, rfl⟩
 rw [hs]
 obtain ⟨l, hl⟩ : ∃ l, L.length = l := ⟨_, rfl⟩
 rw [hl] at hll HLL ⊢
 have HL := hidden hl
 clear hl hs IH hm hmay hL' hxs
 go_enter Tryd.func16, Tryd.ntmps16
 go_upto_region 1 with fail
 obtain ⟨a1, a2, a3⟩ := two_box w 0 0 s' s' (.slice ao l c1) (.slice bo l c2)
 have A0 := hidden a1
 have C0 := hidden a2
 have D0 := hidden a3
 have M0 := hidden (h.below a3)
 have X0 := hidden (hrg.beneath a3 (Nat.le_refl _))
 have Y0 := hidden (hrx.beneath a3 (Nat.le_refl _))
 have S0 := hidden (two_box2 w 0 0 s' s' (.slice ao l c1) (.slice bo l c2))
 clear a1 a2 a3 h hrg hrx
 generalize (w.alloc (.cells #[.int .i64 0, .string s', .slice ao l c1] 24)).alloc (.cells #[.int .i64 0, .string s', .slice bo l c2] 24) = w0 at *
 obtain ⟨a0, a1, a2, af⟩ := A0.out.cells
 obtain ⟨b0, b1, b2, bf⟩ := C0.out.cells
 clear af bf
 have hcc : c ≤ 999999 := by have h9 := HC.out; omega
 go_wp2_with fail
 go_loopw [9, 50] (fun jv iv wr => InIn q c θ L w0 jv iv wr) (fun jv iv wr => (l - intOf iv).toNat)
 case atStart => exact ⟨0, Nat.zero_le _, rfl, by rw [List.take_zero, szRL]; exact M0.out, Only.refl _ _⟩
 case round =>
  obtain ⟨k, k1, rfl, hM, hO⟩ := hrel
  rw [HL.out] at k1
  have hs2 := S0.out
  have A1 : Hid (B3 wr w.heap.size 0 s' (.slice ao l c1)) := A0.out.keep (hO.block _ A0.out.lt (by omega))
  have C1 : Hid (B3 wr (w.heap.size + 1) 0 s' (.slice bo l c2)) := C0.out.keep (hO.block _ C0.out.lt (by omega))
  have X1 : RT (fun k => k ≠ q) wr L ao := X0.out.keep (fun g hg hl => hO.block g hl hg)
  have Y1 : RT (fun k => k ≠ q) wr L' bo := Y0.out.keep (fun g hg hl => hO.block g hl hg)
  have O1 := hidden hO
  have M1 := hidden hM
  have hszw := hO.size
  clear hM hO a0 a1 a2 b0 b1 b2 hs2
  obtain ⟨a0, a1, a2, af⟩ := A1.out.cells
  obtain ⟨b0, b1, b2, bf⟩ := C1.out.cells
  clear a0 a1 af b0 b1 bf
  by_cases hlt : k < l
  ·have z1 : (k : Int) < (l : Int) := by omega
   have zi : (0 : Int) ≤ (k : Int) ∧ (k : Int) < (l : Int) := ⟨by omega, z1⟩
   obtain ⟨t, ht⟩ : ∃ t, L[k]? = some t := ⟨_, List.getElem?_eq_getElem (by rw [HL.out]; exact hlt)⟩
   obtain ⟨u, hu⟩ : ∃ u, L'[k]? = some u := ⟨_, List.getElem?_eq_getElem (by rw [HLL.out]; exact hlt)⟩
   have htz := sz_part (List.mem_of_getElem? ht)
   have huz := sz_part (List.mem_of_getElem? hu)
   have htm := mayL_mem HMY.out t (List.mem_of_getElem? ht)
   have hut : u = (t.ty.ap θ).rw := by
    have h9 := hu
    rw [← HLP.out, List.getElem?_map, apL_map, List.getElem?_map, tyL_map, List.getElem?_map, ht] at h9
    exact (Option.some.inj h9).symm
   have HTK := hidden (szRL_take1 ht)
   have htl := szRL_take L (k + 1)
   obtain ⟨a, al, cp, rfl, t0, t1, t2, htv, hr⟩ := rt_part X1 ht
   obtain ⟨a', al', cp', rfl, u0, u1, u2, huv, hr'⟩ := rt_part Y1 hu
   have HQA : Hid ((⟨w.heap.size, 2, none⟩ : Addr).block ≠ q) := by show _ ≠ q; show w.heap.size ≠ q; omega
   have HQC : Hid ((⟨w.heap.size + 1, 2, none⟩ : Addr).block ≠ q) := by show _ ≠ q; show w.heap.size + 1 ≠ q; omega
   have HQT : Hid ((a.add (k * 3)).block ≠ q) := by
    obtain ⟨a9, _, _, e9, h9, _⟩ := rt_at X1 ht
    cases e9
    exact h9
   have HQU : Hid ((a'.add (k * 3)).block ≠ q) := by
    obtain ⟨a9, _, _, e9, h9, _⟩ := rt_at Y1 hu
    cases e9
    exact h9
   have HN := hidden (HI.out (c + szRL (L.take k)) wr.drew t u al al' cp cp' (by have h9 := HM.out; omega) (by have h9 := HC.out; have h8 := HTK.out; omega) (by have h9 := HXS.out; omega) htm htv huv hut (M1.out.keep (fun g _ => rfl)) (hr.keep (fun g _ _ => rfl)) (hr'.keep (fun g _ _ => rfl)))
   clear hr hr' ht hu X1 Y1 htv huv hut htm htz huz htl
   go_wp2_with fail
   go_region_held3 (fun w' => w'.cell? ⟨w.heap.size, 2, none⟩ = some (.slice (some a) l c1) ∧ w'.cell? ⟨w.heap.size + 1, 2, none⟩ = some (.slice (some a') l c2) ∧ w'.cell? (a.add (k * 3)) = some (.int .i64 t.V) ∧ w'.cell? ⟨(a.add (k * 3)).block, (a.add (k * 3)).off + 1, none⟩ = some (.string ⟨t.S.toArray⟩) ∧ w'.cell? ⟨(a.add (k * 3)).block, (a.add (k * 3)).off + 2, none⟩ = some (.slice al t.L.length cp) ∧ w'.cell? (a'.add (k * 3)) = some (.int .i64 u.V) ∧ w'.cell? ⟨(a'.add (k * 3)).block, (a'.add (k * 3)).off + 1, none⟩ = some (.string ⟨u.S.toArray⟩) ∧ w'.cell? ⟨(a'.add (k * 3)).block, (a'.add (k * 3)).off + 2, none⟩ = some (.slice al' u.L.length cp')) (go_keep) (first | (go_at_call 16; refine HN.out.mono ?_; rintro e w6 ⟨rfl, hM6, hO6⟩; have M6 := hidden hM6; have O6 : Hid (Only (fun g => g = q) wr.drew w6) := hO6; have n0 := cell_q hO6 a2 HQA.out; have n1 := cell_q hO6 b2 HQC.out; have n2 := cell_q hO6 t0 HQT.out; have n3 := cell_q hO6 t1 HQT.out; have n4 := cell_q hO6 t2 HQT.out; have n5 := cell_q hO6 u0 HQU.out; have n6 := cell_q hO6 u1 HQU.out; have n7 := cell_q hO6 u2 HQU.out; clear hM6 hO6))
   clear n0 n1 n2 n3 n4 n5 n6 n7 a2 b2 t0 t1 t2 u0 u1 u2
   go_wp2_with fail
   go_roundw
   case rel =>
    refine ⟨k + 1, by rw [HL.out]; omega, by go_num, ?_, O1.out.trans ((Only.refl _ _).drewN 1 |>.trans O6.out)⟩
    rw [HTK.out, ← Nat.add_assoc]
    exact M6.out
   case measure => simp [intOf]; omega
  ·have z1 : ¬ (k : Int) < (l : Int) := by omega
   have HF : Hid (L.take k = L) := List.take_of_length_le (by rw [HL.out]; omega)
   clear X1 Y1
   go_wp2_with fail
   go_ret
   refine ⟨rfl, ?_, (Only.of_below D0.out).trans O1.out⟩
   have h9 := M1.out
   rw [HF.out] at h9
   exact h9.more (by omega)
theorem inst_any : ∀ s, InstFor q θ s
 | 0 => fun c w g x ao bo c1 c2 hm => by
  have := sz_L g
  omega
 | s + 1 => fun c w g x ao bo c1 c2 hm hc hxs hmay bg bx hx h hrg hrx => by
  have IH := inst_any s
  obtain ⟨V, S, L⟩ := g
  have hsz := sz_L (Rw.mk V S L)
  simp only [Rw.L] at hsz
  rcases may_parts hmay with ⟨h1, rfl, rfl⟩ | ⟨rfl, h2, h3⟩
  ·have hx2 : x = (θ V.toNat).rw := by rw [hx, Rw.ty, if_pos h1, Ty.ap]
   rw [hsz, szRL]
   exact inst_var c w V x ao bo c1 c2 h1 bg.2.1 (by omega) hxs bx hx2 h hrx
  ·have hx2 : x = .mk 0 S ((apL θ (tyL L)).map Ty.rw) := by rw [hx, Rw.ty, if_neg (by omega), Ty.ap, Ty.rw, rwL_map]
   subst hx2
   have e : ((apL θ (tyL L)).map Ty.rw).length = L.length := by rw [List.length_map, apL_len, tyL_len]
   have hk := inst_name IH c w S L ao bo c1 c2 (by omega) (by omega) (by
    have h9 := sz_L (Rw.mk 0 S ((apL θ (tyL L)).map Ty.rw))
    simp only [Rw.L] at h9
    rw [← rwL_map, szL_rw] at h9
    rw [← rwL_map] at hxs
    omega) h3 h hrg hrx
   rw [hsz]
   show Calls Tryd.prog 16 #[.agg #[.int .i64 0, .string ⟨S.toArray⟩, .slice ao L.length c1], .agg #[.int .i64 0, .string ⟨S.toArray⟩, .slice bo ((apL θ (tyL L)).map Ty.rw).length c2], .map (some q)] w _
   rw [e]
   exact hk
end
end Go.Proofs.YtcfgfclapljilaaDoor
