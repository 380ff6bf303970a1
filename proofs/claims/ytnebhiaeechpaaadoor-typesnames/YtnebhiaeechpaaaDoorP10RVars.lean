/-
 Layer 10: the document's own Vars: a type's variables, each once, behind some. Condition: the type may be, and lies in memory.
-/
import Derived.Test.YtnebhiaeechpaaaDoorP10Vars
import Derived.Test.YtnebhiaeechpaaaDoorX10Nu
import Derived.Test.YtnebhiaeechpaaaDoorP10Api
namespace Go.Proofs.YtnebhiaeechpaaaDoor
open Go.ChangeShapes Go.WideShapes Go.ChangeAt Go.RowKit Go.Deep
set_option linter.unusedVariables false
set_option linter.unusedSimpArgs false
set_option maxHeartbeats 4000000
set_option maxRecDepth 20000
def intsV (acc : List Nat) : List Int := acc.map (fun n : Nat => (n : Int))
theorem intsV_len (acc : List Nat) : (intsV acc).length = acc.length := by unfold intsV; rw [List.length_map]
theorem intsV_at {acc : List Nat} {i : Nat} (h : i < acc.length) : (intsV acc)[i]? = some ((acc[i] : Nat) : Int) := by unfold intsV; rw [List.getElem?_map, List.getElem?_eq_getElem h]; rfl
def RVAs (B : Nat) (v : Value) (t : Ty) (acc : List Nat) (w : World) (e : Ending) (w' : World) : Prop := ∃ v', e = .returned v' ∧ IW w' B v' (intsV (t.vs acc)) ∧ Only (fun g => v.ownBlock = some g) w w' ∧ (v'.ownBlock = v.ownBlock ∨ ∀ g, v'.ownBlock = some g → w.heap.size ≤ g)
def RVFor (s : Nat) : Prop := ∀ (B : Nat) (acc : List Nat) (w : World) (x : Rw) (v : Value) (ao : Option Addr) (c : Nat), x.sz ≤ s → x.may = true → x.V ≤ 9223372036854775807 → acc.length + x.sz ≤ 1000000 → B ≤ w.heap.size → IW w B v (intsV acc) → RT (fun g => g < B) w x.L ao → Calls Tryd.prog 19 #[.agg #[.int .i64 x.V, .string ⟨x.S.toArray⟩, .slice ao x.L.length c], v] w fun e w' => RVAs B v x.ty acc w e w'
/-- None of those met so far is it. -/
def InRa (acc : List Nat) (V : Nat) (w0 : World) (iv : Value) (wr : World) : Prop := ∃ k : Nat, k ≤ acc.length ∧ iv = .int .i64 (k : Int) ∧ (∀ (j : Nat) (n : Nat), j < k → acc[j]? = some n → n ≠ V) ∧ Below w0.heap.size w0 wr
/-- How it stands while parts are gone through. -/
def InRb (B : Nat) (v : Value) (Z : List Ty) (acc : List Nat) (w0 : World) (vv iv : Value) (wr : World) : Prop := ∃ k : Nat, k ≤ Z.length ∧ iv = .int .i64 (k : Int) ∧ IW wr B vv (intsV (vsL (Z.take k) acc)) ∧ Only (fun g => v.ownBlock = some g) w0 wr ∧ (vv.ownBlock = v.ownBlock ∨ ∀ g, vv.ownBlock = some g → w0.heap.size < g)
theorem only_own {v vv : Value} {w wr w3 : World} (h : Only (fun g => v.ownBlock = some g) w wr) (h2 : Only (fun g => vv.ownBlock = some g) wr w3) (h3 : vv.ownBlock = v.ownBlock ∨ ∀ g, vv.ownBlock = some g → w.heap.size < g) : Only (fun g => v.ownBlock = some g) w w3 := by
 have s1 := h.size
 refine ⟨h2.os.trans h.os, h2.tape.trans h.tape, h2.output.trans h.output, Nat.le_trans s1 h2.size, fun k hk hs => (h2.block k (by omega) (fun e => ?_)).trans (h.block k hk hs)⟩
 rcases h3 with h9 | h9
 ·exact hs (h9 ▸ e)
 ·have h8 := h9 k e
  omega
theorem rvars_var (B : Nat) (acc : List Nat) (w : World) (V : Int) (v : Value) (ao : Option Addr) (c : Nat) (h0 : 0 < V) (hV : V ≤ 9223372036854775807) (hl : acc.length ≤ 1000000) (hB : B ≤ w.heap.size) (hi : IW w B v (intsV acc)) : Calls Tryd.prog 19 #[.agg #[.int .i64 V, .string ⟨#[]⟩, .slice ao 0 c], v] w fun e w' => RVAs B v (.v V.toNat) acc w e w' := by
 obtain ⟨vo, vc, rfl⟩ := hi.slice
 have hli := intsV_len acc
 have HI := hidden hi
 have HLI := hidden hli
 clear hi hli
 have A0 := hidden (B3.new w V ⟨#[]⟩ (.slice ao 0 c))
 have I0 := hidden (HI.out.alloc (.cells #[.int .i64 V, .string ⟨#[]⟩, .slice ao 0 c] 24))
 have D0 := hidden ((Below.refl w.heap.size w).alloc (Nat.le_refl _) (.cells #[.int .i64 V, .string ⟨#[]⟩, .slice ao 0 c] 24))
 have HOW : Hid (∀ g, (Value.slice vo (intsV acc).length vc).ownBlock = some g → g < w.heap.size) := fun g hg => (HI.out.own g hg).2
 go_enter Tryd.func19, Tryd.ntmps19
 go_upto_region 1 with fail
 generalize w.alloc (.cells #[.int .i64 V, .string ⟨#[]⟩, .slice ao 0 c] 24) = w0 at *
 obtain ⟨a0, a1, a2, af⟩ := A0.out.cells
 clear a1 a2 af
 rw [HLI.out] at I0 HOW ⊢
 go_wp2_with fail
 go_loopw [5] (fun iv wr => InRa acc V.toNat w0 iv wr) (fun iv wr => (acc.length - intOf iv).toNat)
 case atStart => exact ⟨0, Nat.zero_le _, rfl, fun j n h => by omega, Below.refl _ _⟩
 case round =>
  obtain ⟨k, hk, rfl, hno, hbl⟩ := hrel
  have A1 := hidden (A0.out.below hbl (Nat.le_refl _))
  have I1 : Hid (IW wr B (.slice vo acc.length vc) (intsV acc)) := I0.out.keep (fun g hg => hbl.block g (I0.out.own g hg).2)
  have BL := hidden hbl
  have HNO := hidden hno
  have hd := D0.out.size
  have he := hbl.size
  clear hbl hno a0
  obtain ⟨a0, a1, a2, af⟩ := A1.out.cells
  clear a1 a2 af
  by_cases hlt : k < acc.length
  ·have z1 : (k : Int) < (acc.length : Int) := by omega
   have zi : (0 : Int) ≤ (k : Int) ∧ (k : Int) < (acc.length : Int) := ⟨by omega, z1⟩
   obtain ⟨g, c9, hvs, hc9⟩ := I1.out.at_ (intsV_at hlt)
   rw [HLI.out] at hvs
   obtain ⟨rfl, _, rfl⟩ : vo = some ⟨g, 0, none⟩ ∧ acc.length = acc.length ∧ vc = c9 := by simpa using hvs
   clear hvs
   obtain ⟨nn, hnn⟩ : ∃ nn, acc[k] = nn := ⟨_, rfl⟩
   rw [hnn] at hc9
   have HNN : Hid (acc[k]? = some nn) := by show _ = _; rw [List.getElem?_eq_getElem hlt, hnn]
   clear hnn
   obtain ⟨al9, hal⟩ : ∃ al9, acc.length = al9 := ⟨_, rfl⟩
   rw [hal] at z1 zi ⊢
   have HAL := hidden hal
   clear hal
   go_upto_region 5 with fail
   have e0 : wr.drew.cell? ⟨g, k, none⟩ = some (.int .i64 (nn : Int)) := hc9
   refine region_till (S := (fun w' => w'.cell? ⟨g, k, none⟩ = some (.int .i64 (nn : Int)) ∧ w'.cell? ⟨w.heap.size, 0, none⟩ = some (.int .i64 V))) (kz := 99) (by kernel_rfl) ⟨hc9, a0⟩ (fun hHeld => ?_)
   refine AnyTill.tk (i := 0) (v := ?_) hHeld ?_ ?_
   rotate_left
   ·(intro w hSw; (try dsimp only at hSw); go_simp; (try with_reducible rfl))
   (try simp only [Act.put, q4, q5, q6, q1, q2, q3])
   refine AnyTill.tk (i := 1) (v := ?_) hHeld ?_ ?_
   rotate_left
   ·(intro w hSw; (try dsimp only at hSw); go_simp; (try with_reducible rfl))
   (try simp only [Act.put, q4, q5, q6, q1, q2, q3])
   refine AnyTill.tk (i := 2) (v := ?_) hHeld ?_ ?_
   rotate_left
   ·(intro w hSw; (try dsimp only at hSw); go_simp; (try with_reducible rfl))
   (try simp only [Act.put, q4, q5, q6, q1, q2, q3])
   refine AnyTill.tk (i := 3) (v := ?_) hHeld ?_ ?_
   rotate_left
   ·(intro w hSw; (try dsimp only at hSw); go_simp; (try with_reducible rfl))
   (try simp only [Act.put, q4, q5, q6, q1, q2, q3])
   refine AnyTill.tk (i := 4) (v := ?_) hHeld ?_ ?_
   rotate_left
   ·(intro w hSw; (try dsimp only at hSw); go_simp; (try with_reducible rfl))
   (try simp only [Act.put, q4, q5, q6, q1, q2, q3])
   refine AnyTill.tk (i := 5) (v := ?_) hHeld ?_ ?_
   rotate_left
   ·(intro w hSw; (try dsimp only at hSw); go_simp; (try with_reducible rfl))
   (try simp only [Act.put, q4, q5, q6, q1, q2, q3])
   refine AnyTill.tk (i := 6) (v := ?_) hHeld ?_ ?_
   rotate_left
   ·(intro w hSw; (try dsimp only at hSw); go_simp; (try with_reducible rfl))
   (try simp only [Act.put, q4, q5, q6, q1, q2, q3])
   refine AnyTill.done (by kernel_rfl) ?_ _
   (try simp only [Act.put, q4, q5, q6, q1, q2, q3])
   clear e0 hc9
   by_cases hq : (nn : Int) = V
   ·have zb : ((nn : Int) == V) = true := beq_iff_eq.2 hq
    have hin : V.toNat ∈ acc := by have h9 := List.mem_of_getElem? HNN.out; exact (show V.toNat = nn by omega) ▸ h9
    have HIN : Hid ((Ty.v V.toNat).vs acc = acc) := by show _ = _; rw [Ty.vs]; unfold addV; rw [if_pos hin]
    clear hq hin
    go_wp2_with fail
    go_ret
    refine ⟨.slice (some ⟨g, 0, none⟩) al9 vc, rfl, ?_, Only.of_below ((D0.out.trans (BL.out.mono hd)).trans (below_drew (Below.refl _ _))), Or.inl (by rw [HLI.out, HAL.out])⟩
    rw [HIN.out, ← HAL.out]
    exact I1.out
   ·have zb : ((nn : Int) == V) = false := beq_eq_false_iff_ne.2 hq
    have HQ := hidden hq
    clear hq
    go_wp2_with fail
    go_roundw
    case rel =>
     refine ⟨k + 1, by rw [HAL.out]; omega, by go_num, fun j n hj hn => ?_, BL.out.trans (below_drew (Below.refl _ _))⟩
     by_cases e : j = k
     ·subst e
      rw [HNN.out] at hn
      cases hn
      have h9 := HQ.out
      omega
     ·exact HNO.out j n (by omega) hn
    case measure => simp [intOf]; omega
  ·have z1 : ¬ (k : Int) < (acc.length : Int) := by omega
   have hni : ¬ V.toNat ∈ acc := fun hin => by
    obtain ⟨j, hj⟩ := List.mem_iff_getElem?.1 hin
    exact HNO.out j _ (by have h9 := (List.getElem?_eq_some_iff.1 hj).1; omega) hj rfl
   have HIN : Hid ((Ty.v V.toNat).vs acc = acc ++ [V.toNat]) := by show _ = _; rw [Ty.vs]; unfold addV; rw [if_neg hni]
   have HIV : Hid (intsV (acc ++ [V.toNat]) = intsV acc ++ [V]) := by show _ = _; unfold intsV; rw [List.map_append, List.map_cons, List.map_nil, Int.toNat_of_nonneg (by omega)]
   clear hni
   have hl9 : (intsV acc).length < 10000000000 := by rw [HLI.out]; omega
   have h0s : B ≤ wr.heap.size := by omega
   have hS2 := nblk_alloc wr (.cells #[.int .i64 V] 3)
   have D2 := hidden ((D0.out.trans (BL.out.mono hd)).alloc (by omega) (.cells #[.int .i64 V] 3))
   have HS2 := hidden hS2
   clear hS2
   go_upto_region 7 with fail
   go_wp2_with (at_builtin; refine append_int rfl (.tmp 24) (.tmp 27) rfl B (.slice vo acc.length vc) (intsV acc) rfl (I1.out.alloc _) wr.heap.size 1 V rfl (int_new _ _) hl9 (by rw [nblk_alloc]; omega) ?_; intro g6 c6 w8 hr6 gr6 or6; have I8 := hidden hr6; have G8 := hidden gr6; have O8 := hidden or6; clear hr6 gr6 or6)
   go_ret
   refine ⟨_, rfl, by rw [HIN.out, HIV.out]; exact I8.out, ?_, ?_⟩
   ·have L2 : Only (fun q => (Value.slice vo (intsV acc).length vc).ownBlock = some q) w (wr.alloc (.cells #[.int .i64 V] 3)) := Only.of_below D2.out
    exact L2.trans ⟨G8.out.os, G8.out.tape, G8.out.output, G8.out.size, fun k hk hs => G8.out.block k hk (fun e => hs (by rw [HLI.out]; exact e.symm))⟩
   ·rcases O8.out with h9 | h9
    ·exact Or.inl (by rw [HLI.out]; exact h9.symm)
    ·refine Or.inr (fun g hg => ?_)
     have e9 : g6 = g := by simpa [Value.ownBlock] using hg
     have h8 := HS2.out
     rw [nblk_alloc] at h9
     omega
theorem rvars_name {s : Nat} (IH : RVFor s) (B : Nat) (acc : List Nat) (w : World) (S : List UInt8) (L : List Rw) (v : Value) (ao : Option Addr) (c : Nat) (hm : szRL L ≤ s) (hmay : mayL L = true) (hl : acc.length + szRL L ≤ 1000000) (hB : B ≤ w.heap.size) (hi : IW w B v (intsV acc)) (hrt : RT (fun g => g < B) w L ao) : Calls Tryd.prog 19 #[.agg #[.int .i64 0, .string ⟨S.toArray⟩, .slice ao L.length c], v] w fun e w' => RVAs B v (.c S (tyL L)) acc w e w' := by
 have hll := len_szRL L
 obtain ⟨Z, hZ⟩ : ∃ Z, tyL L = Z := ⟨_, rfl⟩
 have HZL : Hid (Z.length = L.length) := by show _ = _; rw [← hZ, tyL_len]
 have HVS : Hid ((Ty.c S Z).vs acc = vsL Z acc) := by show _ = _; rw [Ty.vs]
 rw [hZ]
 have HZ := hidden hZ
 have HI := hidden hi
 have X := hidden hrt
 have IH1 := hidden IH
 have HMY := hidden hmay
 have HL2 := hidden hl
 have HSZ := hidden hm
 have HOW : Hid (∀ g, v.ownBlock = some g → B ≤ g ∧ g < w.heap.size) := fun g hg => HI.out.own g hg
 clear hZ hi hrt IH hmay hl hm
 have I0 := hidden (HI.out.alloc (.cells #[.int .i64 0, .string ⟨S.toArray⟩, .slice ao L.length c] 24))
 have X0 := hidden (X.out.alloc (.cells #[.int .i64 0, .string ⟨S.toArray⟩, .slice ao L.length c] 24))
 have A0 := hidden (B3.new w 0 ⟨S.toArray⟩ (.slice ao L.length c))
 have D0 := hidden ((Below.refl w.heap.size w).alloc (Nat.le_refl _) (.cells #[.int .i64 0, .string ⟨S.toArray⟩, .slice ao L.length c] 24))
 go_enter Tryd.func19, Tryd.ntmps19
 go_upto_region 1 with fail
 generalize w.alloc (.cells #[.int .i64 0, .string ⟨S.toArray⟩, .slice ao L.length c] 24) = w0 at *
 obtain ⟨l, hl⟩ : ∃ l, L.length = l := ⟨_, rfl⟩
 rw [hl] at A0 HZL hll ⊢
 have HL := hidden hl
 clear hl
 have HLL := hidden hll
 clear hll
 obtain ⟨a0, a1, a2, af⟩ := A0.out.cells
 clear af
 have hd := D0.out.size
 have L0 : Hid (Only (fun g => v.ownBlock = some g) w w0) := Only.of_below D0.out
 go_upto_region 8 with fail
 clear a0 a1 a2
 have IS : Hid (InRb B v Z acc w v (.int .i64 0) w0) := ⟨0, Nat.zero_le _, rfl, by rw [List.take_zero, vsL]; exact I0.out, L0.out, Or.inl rfl⟩
 go_wp2_with fail
 go_loopw [1, 6] (fun vv iv wr => InRb B v Z acc w vv iv wr ∧ B3 wr w.heap.size 0 ⟨S.toArray⟩ (.slice ao l c)) (fun vv iv wr => (l - intOf iv).toNat)
 case atStart => exact ⟨IS.out, A0.out⟩
 case round =>
  obtain ⟨⟨k, k1, rfl, g1, g2, g3⟩, g4⟩ := hrel
  rw [HZL.out] at k1
  obtain ⟨vo, vc, rfl⟩ := g1.slice
  obtain ⟨n9, hn9⟩ : ∃ n9, (intsV (vsL (Z.take k) acc)).length = n9 := ⟨_, rfl⟩
  rw [hn9] at g1 g3 ⊢
  clear hn9
  have G1 := hidden g1
  have G2 := hidden g2
  have G3 := hidden g3
  have G4 := hidden g4
  have hwr : w.heap.size < wr.heap.size := g4.lt
  clear g1 g2 g3 g4
  obtain ⟨a0, a1, a2, af⟩ := G4.out.cells
  clear af a0 a1
  by_cases hlt : k < l
  ·have z1 : (k : Int) < (l : Int) := by omega
   have zi : (0 : Int) ≤ (k : Int) ∧ (k : Int) < (l : Int) := ⟨by omega, z1⟩
   obtain ⟨t, ht⟩ : ∃ t, L[k]? = some t := ⟨_, List.getElem?_eq_getElem (by rw [HL.out]; exact hlt)⟩
   have htz := sz_part (List.mem_of_getElem? ht)
   have htm := mayL_mem HMY.out t (List.mem_of_getElem? ht)
   have HTK : Hid (Z.take (k + 1) = Z.take k ++ [t.ty]) := by show _ = _; rw [← HZ.out]; exact tyL_at ht
   have hacc : (vsL (Z.take k) acc).length + t.sz ≤ 1000000 := by
    have h8 := vsL_len (Z.take k) acc
    have h7 := szL_take Z (k + 1)
    rw [HTK.out, szL_app] at h7
    have h6 : szL [t.ty] = t.sz := by rw [szL, szL, t.sz_ty htm]; omega
    have h5 : szL Z = szRL L := by rw [← HZ.out, szL_ty L HMY.out]
    have h4 := HL2.out
    omega
   have X2 : RT (fun g => g < B) wr L ao := X.out.keep (fun g hg hl => G2.out.block g hl (fun e => by have h9 := HOW.out g e; omega))
   obtain ⟨a, al2, cp2, rfl, t0, t1, t2, hv, hr2⟩ := rt_part X2 ht
   have HN := hidden (IH1.out B (vsL (Z.take k) acc) wr t (.slice vo n9 vc) al2 cp2 (by have h9 := HSZ.out; omega) htm hv.2.1 hacc (by omega) G1.out hr2)
   have HVT : Hid (vsL (Z.take (k + 1)) acc = t.ty.vs (vsL (Z.take k) acc)) := by show _ = _; rw [HTK.out, vsL_snoc]
   clear hr2 X2 hv ht htz htm hacc
   go_wp2_with fail
   refine HN.out.mono ?_
   rintro e w3 ⟨v3, rfl, q1, q2, q3⟩
   have Q1 := hidden q1
   have Q2 := hidden q2
   have Q3 := hidden q3
   have A3 : Hid (B3 w3 w.heap.size 0 ⟨S.toArray⟩ (.slice (some a) l c)) := G4.out.keep (q2.block _ hwr (fun e => by
    rcases G3.out with h9 | h9
    ·have h8 := HOW.out _ (h9 ▸ e)
     omega
    ·have h8 := h9 _ e
     omega))
   clear q1 q2 q3 t0 t1 t2
   have hl9 : l ≤ 1000000 := by have h9 := HLL.out; have h8 := HL2.out; omega
   go_wp2_with fail
   go_roundw
   case rel =>
    refine ⟨⟨k + 1, by rw [HZL.out]; omega, by go_num, by rw [HVT.out]; exact Q1.out, only_own G2.out Q2.out G3.out, ?_⟩, A3.out⟩
    rcases Q3.out with h9 | h9
    ·rcases G3.out with h8 | h8
     ·exact Or.inl (h9.trans h8)
     ·exact Or.inr (fun g hg => h8 g (h9 ▸ hg))
    ·exact Or.inr (fun g hg => by have h8 := h9 g hg; omega)
   case measure => simp [intOf]; omega
  ·have z1 : ¬ (k : Int) < (l : Int) := by omega
   have HF : Hid (vsL (Z.take k) acc = vsL Z acc) := by show _ = _; rw [List.take_of_length_le (by rw [HZL.out]; omega)]
   go_wp2_with fail
   go_ret
   refine ⟨.slice vo n9 vc, rfl, by rw [HVS.out, ← HF.out]; exact G1.out, G2.out, ?_⟩
   rcases G3.out with h9 | h9
   ·exact Or.inl h9
   ·exact Or.inr (fun g hg => Nat.le_of_lt (h9 g hg))
theorem rvars_all : ∀ s : Nat, RVFor s
 | 0 => fun B acc w x v ao c hx => by have := sz_L x; omega
 | s + 1 => fun B acc w x v ao c hx hm hV hl hB hi hrt => by
  obtain ⟨V, S, L⟩ := x
  rcases may_parts hm with ⟨h1, h2, h3⟩ | ⟨h1, h2, h3⟩
  ·subst h2 h3
   rw [Rw.ty, if_pos h1]
   exact rvars_var B acc w V v ao c h1 hV (by omega) hB hi
  ·subst h1
   have hs : 1 + szRL L ≤ s + 1 := by rw [Rw.sz] at hx; exact hx
   rw [Rw.sz] at hl
   rw [Rw.ty, if_neg (show ¬ (0 : Int) < 0 by omega)]
   exact rvars_name (rvars_all s) B acc w S L v ao c (by omega) h3 (by omega) hB hi hrt
end Go.Proofs.YtnebhiaeechpaaaDoor
