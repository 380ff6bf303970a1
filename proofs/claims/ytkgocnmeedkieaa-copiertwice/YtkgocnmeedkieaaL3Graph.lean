/-
  Layer 3's statements: what their graph tells: the roots' nodes, and of each block in reach, in the order in which they are met, its tag and what its fields are. Condition: the arena lies in memory, in one state with a list of blocks.
-/
import Derived.Test.YtkgocnmeedkieaaL3GraphB
import Derived.Deep.RegionHeld3
import Derived.Deep.CutRange
import Derived.BigQuiet
namespace Go.Proofs.Ytkgocnmeedkieaa
open Go.ChangeShapes Go.WideShapes Go.ChangeAt Go.RowKit Go.Deep
set_option linter.unusedVariables false
set_option maxHeartbeats 2000000
variable {p : Pl} {s : St} {r : RS}

/-- The world in which the graph begins. -/
def gW (w : World) (pa : Nat) : World := (((w.alloc (.cells #[.pointer (some ⟨pa, 0, none⟩)] 25)).alloc (.cells #[] 49)).alloc (.cells #[.slice (some ⟨w.heap.size + 1, 0, none⟩) 0 0] 23)).alloc (.cells #[] 86)
theorem gW_below (w : World) (pa : Nat) : Below w.heap.size w (gW w pa) :=
  ((((Below.refl w.heap.size w).alloc (Nat.le_refl _) _).alloc (by rw [nblk_alloc]; omega) _).alloc (by rw [nblk_alloc, nblk_alloc]; omega) _).alloc (by rw [nblk_alloc, nblk_alloc, nblk_alloc]; omega) _
theorem gW_size (w : World) (pa : Nat) : (gW w pa).heap.size = w.heap.size + 4 := by unfold gW; rw [nblk_alloc, nblk_alloc, nblk_alloc, nblk_alloc]
theorem gW_blk0 (w : World) (pa : Nat) : (gW w pa).heap[w.heap.size]? = some (.cells #[.pointer (some ⟨pa, 0, none⟩)] 25 (0, 0)) := by
  unfold gW
  rw [blk_alloc_lt _ _ _ (by rw [nblk_alloc, nblk_alloc, nblk_alloc]; omega), blk_alloc_lt _ _ _ (by rw [nblk_alloc, nblk_alloc]; omega), blk_alloc_lt _ _ _ (by rw [nblk_alloc]; omega)]
  exact blk_alloc_new _ _
theorem gW_blk1 (w : World) (pa : Nat) : (gW w pa).heap[w.heap.size + 1]? = some (.cells #[] 49 (0, 0)) := by
  unfold gW
  rw [blk_alloc_lt _ _ _ (by rw [nblk_alloc, nblk_alloc, nblk_alloc]; omega), blk_alloc_lt _ _ _ (by rw [nblk_alloc, nblk_alloc]; omega)]
  have := blk_alloc_new (w.alloc (.cells #[.pointer (some ⟨pa, 0, none⟩)] 25)) (.cells #[] 49)
  rw [nblk_alloc] at this; exact this
theorem gW_blk2 (w : World) (pa : Nat) : (gW w pa).heap[w.heap.size + 2]? = some (.cells #[.slice (some ⟨w.heap.size + 1, 0, none⟩) 0 0] 23 (0, 0)) := by
  unfold gW
  rw [blk_alloc_lt _ _ _ (by rw [nblk_alloc, nblk_alloc, nblk_alloc]; omega)]
  have := blk_alloc_new ((w.alloc (.cells #[.pointer (some ⟨pa, 0, none⟩)] 25)).alloc (.cells #[] 49)) (.cells #[.slice (some ⟨w.heap.size + 1, 0, none⟩) 0 0] 23)
  rw [nblk_alloc, nblk_alloc] at this; exact this
theorem gW_blk3 (w : World) (pa : Nat) : (gW w pa).heap[w.heap.size + 3]? = some (.cells #[] 86 (0, 0)) := by
  unfold gW
  have := blk_alloc_new (((w.alloc (.cells #[.pointer (some ⟨pa, 0, none⟩)] 25)).alloc (.cells #[] 49)).alloc (.cells #[.slice (some ⟨w.heap.size + 1, 0, none⟩) 0 0] 23)) (.cells #[] 86)
  rw [nblk_alloc, nblk_alloc, nblk_alloc] at this; exact this
theorem empty_row {w : World} {B g : Nat} {e : TypeId} {sz : Nat} (h : w.heap[g]? = some (.cells #[] e (0, 0))) (hB : B ≤ g) : w.ownsRow B e sz (.slice (some ⟨g, 0, none⟩) 0 0) 0 [] :=
  ⟨by simp, .inr ⟨g, 0, #[], rfl, hB, h, Nat.le_refl _, Nat.zero_le _, by simp, by simp⟩⟩
theorem gW_met {w : World} (h : Ar w p s) (r : RS) : Met (gW w p.a) w.heap.size w.heap.size (w.heap.size + 2) p s r [] (.slice (some ⟨w.heap.size + 1, 0, none⟩) 0 0) :=
  ⟨gW_blk0 w p.a, gW_blk2 w p.a, empty_row (gW_blk1 w p.a) (by omega), h.frame (S := fun _ => False) (Only.of_below (gW_below w p.a)) id id id id, lt_of_some h.ha, lt_of_some h.hh, h.hc.lt, h.hb.lt⟩
def GraphAs (w : World) (s : St) (r : RS) (X : Nat → Int) (m : Nat) (e : Ending) (w' : World) : Prop := ∃ (gf cf gt ct gl cl : Nat) (hs cs : Nat → Nat),
  e = .returned (.tuple #[.slice (some ⟨gf, 0, none⟩) m cf, .slice (some ⟨gt, 0, none⟩) (reachG s r (listX X m)).length ct, .slice (some ⟨gl, 0, none⟩) (reachG s r (listX X m)).length cl]) ∧
  Gr w' w.heap.size s r (reachG s r (listX X m)) X m (reachG s r (listX X m)).length (reachG s r (listX X m)).length gf gt ct gl cl hs cs ∧ Below w.heap.size w w'
theorem met_bm {w : World} {B ba bm : Nat} {G : List Nat} {v : Value} (h : Met w B ba bm p s r G v) : ∃ c, w.heap[bm]? = some (.cells c 23 (0, 0)) := ⟨_, h.hm⟩
theorem listX_step (X : Nat → Int) (j : Nat) : listX X (j + 1) = listX X j ++ [X j] := by unfold listX; rw [List.range_succ, List.map_append]; rfl
theorem visits_step (s : St) (r : RS) (G : List Nat) (X : Nat → Int) (j : Nat) : visits s r G (listX X (j + 1)) = visit s r (visits s r G (listX X j)) (X j) := by rw [listX_step, visits_append]; rfl
theorem met_is2 {w w3 : World} {B ba bm k : Nat} {G : List Nat} {v : Value} (h : Met w B ba bm p s r G v) (e : w3 = (w.drewN 1).drewN k) : Met w3 B ba bm p s r G v := by rw [e]; exact (h.drewN 1).drewN k
theorem gr_is2 {w w3 : World} {B m nt n gf gt ct gl cl k : Nat} {RG : List Nat} {X : Nat → Int} {hs cs : Nat → Nat} (h : Gr w B s r RG X m nt n gf gt ct gl cl hs cs) (e : w3 = (w.drewN 1).drewN k) : Gr w3 B s r RG X m nt n gf gt ct gl cl hs cs := by
  rw [e]; exact ⟨h.first, h.tags, h.flds, h.nodes, h.lo⟩
theorem below_is3 {w w0 w3 : World} {B k : Nat} (h : Below B w w0) (e : w3 = (w0.drewN 1).drewN k) : Below B w w3 := by rw [e]; exact below_drewN (below_drewN h 1) k
theorem graph_mid {w wr : World} {bm m gf : Nat} {X : Nat → Int} {v : Value} (hM : Met wr w.heap.size w.heap.size bm p s r (scans s r (listX X m) 0) v) (hN : NS wr gf m (fun i => gNode s r (reachG s r (listX X m)) (X i))) (hg : w.heap.size ≤ gf) (hb : Below w.heap.size w wr) :
    Gr ((wr.alloc (.cells #[] 3)).alloc (.cells #[] 39)) w.heap.size s r (reachG s r (listX X m)) X m 0 0 gf wr.heap.size 0 (wr.heap.size + 1) 0 (fun _ => 0) (fun _ => 0) ∧
    Met ((wr.alloc (.cells #[] 3)).alloc (.cells #[] 39)) w.heap.size w.heap.size bm p s r (scans s r (listX X m) 0) v ∧ Below w.heap.size w ((wr.alloc (.cells #[] 3)).alloc (.cells #[] 39)) := by
  have k : Below wr.heap.size wr ((wr.alloc (.cells #[] 3)).alloc (.cells #[] 39)) := ((Below.refl wr.heap.size wr).alloc (Nat.le_refl _) _).alloc (by rw [nblk_alloc]; omega) _
  have hsz := hb.size
  refine ⟨⟨hN.of_block (k.block _ hN.lt), empty_row ?_ hsz, empty_row ?_ (by omega), fun i hi => absurd hi (Nat.not_lt_zero _), hg, fun i hi => absurd hi (Nat.not_lt_zero _)⟩, hM.below' k, hb.trans (k.mono hsz)⟩
  · rw [blk_alloc_lt _ _ _ (by rw [nblk_alloc]; omega)]; exact blk_alloc_new _ _
  · have := blk_alloc_new (wr.alloc (.cells #[] 3)) (.cells #[] 39)
    rw [nblk_alloc] at this; exact this
/-- Behind i blocks. -/
def OutR (w0 wr : World) (bm : Nat) (p : Pl) (s : St) (r : RS) (X : Nat → Int) (m gf : Nat) (tv fv iv : Value) : Prop := ∃ (i : Nat) (v : Value) (gt ct gl cl : Nat) (hs cs : Nat → Nat), iv = .int .i64 i ∧ tv = .slice (some ⟨gt, 0, none⟩) i ct ∧ fv = .slice (some ⟨gl, 0, none⟩) i cl ∧ i ≤ (scans s r (listX X m) i).length ∧
  Met wr w0.heap.size w0.heap.size bm p s r (scans s r (listX X m) i) v ∧ Gr wr w0.heap.size s r (reachG s r (listX X m)) X m i i gf gt ct gl cl hs cs ∧ Below w0.heap.size w0 wr
/-- Behind k fields of a block. -/
def InR (w1 wr w0 : World) (bm : Nat) (p : Pl) (s : St) (r : RS) (X : Nat → Int) (m i g : Nat) (lv kv : Value) : Prop := ∃ (k : Nat) (v : Value) (gL cL : Nat), kv = .int .i64 k ∧ lv = .slice (some ⟨gL, 0, none⟩) k cL ∧ k ≤ (blkAt r g).F.length ∧
  Met wr w0.heap.size w0.heap.size bm p s r (inG s r (scans s r (listX X m) i) (blkAt r g) k) v ∧ wr.ownsRow w1.heap.size 86 3 (.slice (some ⟨gL, 0, none⟩) k cL) k (flat3 (nodeF s r (reachG s r (listX X m)) (blkAt r g)) k) ∧ Only (SG w1 w0.heap.size bm) w1 wr
theorem inR_start {w1 w0 : World} {bm m i g : Nat} {X : Nat → Int} {v : Value} (h : Met w1 w0.heap.size w0.heap.size bm p s r (scans s r (listX X m) i) v) : InR w1 (w1.alloc (.cells #[] 86)) w0 bm p s r X m i g (.slice (some ⟨w1.heap.size, 0, none⟩) 0 0) (.int .i64 0) :=
  ⟨0, v, w1.heap.size, 0, rfl, rfl, Nat.zero_le _, by rw [inG_zero]; exact h.below' ((Below.refl _ _).alloc (Nat.le_refl _) _), empty_row (blk_alloc_new _ _) (Nat.le_refl _), (Only.refl _ _).alloc _⟩
theorem own_drew {w : World} {B : Nat} {e : TypeId} {sz n : Nat} {v : Value} {xs : List Value} (h : w.ownsRow B e sz v n xs) (k : Nat) : (w.drewN k).ownsRow B e sz v n xs := h
theorem fieldRange {w : World} (ha : Ar w p s) (h : Rep s r) {i : Nat} (hi : i < r.L.length) (j : Nat) : 0 ≤ (blkAt r i).F.getD j 0 ∧ (blkAt r i).F.getD j 0 ≤ 18446744073709551615 := by
  have hb := blkAt_some hi
  rw [List.getD_eq_getElem?_getD]
  by_cases hj : j < (blkAt r i).F.length
  · have e := h.fld i _ hb j _ (List.getElem?_eq_getElem hj)
    rw [List.getElem?_eq_getElem hj]
    have h1 := ha.lo ((blkAt r i).ad + j)
    have h2 := ha.hi ((blkAt r i).ad + j)
    rw [e] at h1 h2
    exact ⟨h1, h2⟩
  · rw [List.getElem?_eq_none (by omega)]
    exact ⟨Int.le_refl _, by decide⟩
set_option maxRecDepth 100000 in
theorem graph_any {al : Option Addr} {m c : Nat} {X : Nat → Int} (w : World) (h : Ar w p s) (hr : Rep s r) (hx : WS w al m c X) (hm : m ≤ 1000) :
    Calls Try.prog 18 #[.pointer (some ⟨p.a, 0, none⟩), .slice al m c] w fun e w' => GraphAs w s r X m e w' := by
  have hmf : ∀ (fn : Fn) (first cap : Array Value) (w : World), (Instr.makeFunc fn first cap).run Try.prog w = .ok (.func fn first cap) w := fun _ _ _ _ => rfl
  have HWS : Hid (∀ wr, Below w.heap.size w wr → WS wr al m c X) := fun wr k => hx.below k
  have HR : Hid _ := hr
  have HM0 : Hid _ := gW_met h r
  have HB0 : Hid _ := gW_below w p.a
  have HF0 : Hid ((gW w p.a).ownsRow w.heap.size 86 3 (.slice (some ⟨w.heap.size + 3, 0, none⟩) 0 0) 0 (flat3 (fun i => gNode s r (reachG s r (listX X m)) (X i)) 0)) := empty_row (gW_blk3 w p.a) (by omega)
  have eW : ((((w.alloc (.cells #[.pointer (some ⟨p.a, 0, none⟩)] 25)).alloc (.cells #[] 49)).alloc (.cells #[.slice (some ⟨w.heap.size + 1, 0, none⟩) 0 0] 23)).alloc (.cells #[] 86)) = gW w p.a := rfl
  have EW := hidden eW
  clear hx hr eW
  go_enter Try.func18, Try.ntmps18
  go_wp2_with fail
  rw [EW.out, show w.heap.size + 1 + 1 + 1 = w.heap.size + 3 from rfl, show w.heap.size + 1 + 1 = w.heap.size + 2 from rfl]
  clear EW
  obtain ⟨bm, hbm⟩ : ∃ bm, bm = w.heap.size + 2 := ⟨_, rfl⟩
  have HBM : Hid (w.heap.size ≤ bm) := by show _ ≤ _; omega
  rw [← hbm] at HM0 ⊢
  clear hbm
  generalize gW w p.a = w0 at *
  go_loopw [9, 23] (fun fv iv wr => ∃ (j : Nat) (v : Value) (gf cf : Nat), j ≤ m ∧ iv = .int .i64 j ∧ fv = .slice (some ⟨gf, 0, none⟩) j cf ∧ Met wr w.heap.size w.heap.size bm p s r (visits s r [] (listX X j)) v ∧ wr.ownsRow w.heap.size 86 3 (.slice (some ⟨gf, 0, none⟩) j cf) j (flat3 (fun i => gNode s r (reachG s r (listX X m)) (X i)) j) ∧ Below w.heap.size w wr) (fun _ i _ => m - (intOf i).toNat)
  case atStart => exact ⟨0, _, _, _, Nat.zero_le _, rfl, rfl, HM0.out, HF0.out, HB0.out⟩
  case round =>
    clear HM0 HF0 HB0 h
    obtain ⟨j, v, gf, cf, hj, rfl, rfl, hM, hF, hb⟩ := hrel
    by_cases hlt : j < m
    · have hx := HWS.out wr hb
      obtain ⟨x, rfl, hxc⟩ := hx.cell j hlt
      have z0 := hx.lo j hlt
      have z1 := hx.hi j hlt
      have x1 : (0 : Int) ≤ (j : Int) := by omega
      have x2 : (j : Int) < (m : Int) := by omega
      have HG : Hid (GoodG r (visits s r [] (listX X j))) := visits_good HR.out _ (goodG_nil r)
      have HVS : Hid _ := visits_step s r [] X j
      have HGN : Hid (gNode s r (visit s r (visits s r [] (listX X j)) (X j)) (X j) = gNode s r (reachG s r (listX X m)) (X j)) := by
        obtain ⟨T, hT⟩ := first_pre (s := s) (r := r) X (show j + 1 ≤ m by omega)
        rw [HVS.out] at hT
        exact gNode_see hT
      have hF' := hidden hF
      have HBR := hidden hb
      have hgf := own_ge hF gf rfl
      have HGF := hidden hgf
      clear hx hF hb hgf
      go_wp2_with (first
        | (go_at_call 44; refine (see_any (X j) _ HR.out HG.out hM z0 z1 HBR.out.size).mono ?_; rintro e w3 ⟨rfl, v3, hM3, ho3⟩; rw [HGN.out]; have O3 := sg_see hM ho3; have M3 := hidden hM3; have F3 := hidden (row_sg hF'.out (met_bm hM) O3 (by decide) (by decide)); have B3 := hidden (HBR.out.trans (sg_below O3 HBR.out.size HBM.out)); clear ho3 hM3 O3)
        | (at_builtin; refine append_node rfl (.tmp 26) (.tmp 33) rfl w.heap.size gf j cf (fun i => gNode s r (reachG s r (listX X m)) (X i)) rfl (F3.out.alloc _) w3.heap.size 1 rfl (three_new _ _ _ _ _) (by omega) (by rw [nblk_alloc]; have := B3.out.size; omega) ?_; intro g4 c4 w4 hr4 gr4 hat4; have M4 := hidden (met_grown M3.out (row_is F3.out).choose_spec HGF.out (by decide) (by decide) (by decide) gr4); have F4 := hidden hr4; have B4 := hidden (below_app B3.out (Nat.le_refl _) gr4 HGF.out); clear hr4 gr4 hat4))
      go_roundw
      case rel => exact ⟨j + 1, v3, g4, c4, by omega, by go_num, rfl, by rw [HVS.out]; exact M4.out, F4.out, B4.out⟩
      case measure => simp [intOf]; omega
    · have ej : j = m := by omega
      have hnl : ¬ ((j : Int) < (m : Int)) := by omega
      have hM0 : Met wr w.heap.size w.heap.size bm p s r (scans s r (listX X m) 0) v := by rw [ej] at hM; exact hM
      have hF0 : NS wr gf m (fun i => gNode s r (reachG s r (listX X m)) (X i)) ∧ w.heap.size ≤ gf := by rw [ej] at hF; exact ns_of hF
      have HE : Hid _ := ej
      have H0 := hidden (graph_mid hM0 hF0.1 hF0.2 hb)
      clear hM hF hM0 hF0 ej hlt
      go_wp2_with fail
      rw [HE.out]
      clear HE
      obtain ⟨gr0, me0, be0⟩ := H0.out
      clear H0
      generalize (wr.alloc (.cells #[] 3)).alloc (.cells #[] 39) = w0 at *
      go_loopw [11, 12, 13] (fun tv fv iv wr => OutR w wr bm p s r X m gf tv fv iv) (fun _ _ i _ => r.L.length - (intOf i).toNat)
      case atStart => exact ⟨0, v, _, _, _, _, _, _, rfl, rfl, rfl, Nat.zero_le _, me0, gr0, be0⟩
      case round =>
        clear gr0 me0 be0 hb hj hnl HWS
        obtain ⟨i, v, gt, ct, gl, cl, hs, cs, rfl, rfl, rfl, hi, hM, hGr, hb⟩ := hrel
        have hG := scans_good HR.out (listX X m) i
        obtain ⟨_, g2⟩ := goodG_len hG
        have hbd : r.L.length ≤ 32768 := by
          have n2 := hM.ar.n2; have t2 := hM.ar.t2; have htop := HR.out.top; have := lenB_length' r.L
          omega
        obtain ⟨al', cg, rfl, hcell⟩ := met_cell hM.hv
        obtain ⟨c0, c0f⟩ := one_cell hM.ha
        obtain ⟨c1, c1f⟩ := one_cell hM.hm
        by_cases hlt : i < (scans s r (listX X m) i).length
        · obtain ⟨g, hg⟩ : ∃ g, (scans s r (listX X m) i)[i]? = some g := ⟨_, List.getElem?_eq_getElem hlt⟩
          obtain ⟨gv, rfl, hc⟩ := hcell i g hg
          have hgl : g < r.L.length := hG.2 g (List.mem_of_getElem? hg)
          have hbk := blkAt_some hgl
          have hin := HR.out.inside hbk
          have n2 := hM.ar.n2; have t2 := hM.ar.t2; have b1 := hM.ar.b1
          obtain ⟨T0, hT0⟩ := inG_pre HR.out hg 0
          rw [inG_zero] at hT0
          have HRG : Hid ((reachG s r (listX X m)).getD i 0 = g) := pre_at hT0 hg
          obtain ⟨y, hy⟩ : ∃ y : Int, y = 2 * ((blkAt r g).ad : Int) := ⟨_, rfl⟩
          rw [← hy] at hc
          have HY : Hid _ := hy
          have y0 : 0 ≤ y := by omega
          have y1 : y ≤ 18446744073709551615 := by omega
          have HTG : Hid (s.tag y = (blkAt r g).tag) := by show _ = _; rw [hy]; exact HR.out.tagOf hbk (by omega)
          have HSZ : Hid (s.size y = ((blkAt r g).F.length : Int)) := by show _ = _; rw [hy]; exact (HR.out.word hbk (by omega)).2
          have HGT : Hid (∀ k, k < (blkAt r g).F.length → s.get y k = (blkAt r g).F.getD k 0 ∧ s.fieldE y k = 0) := fun k hk => by rw [hy]; exact HR.out.fieldOf hbk (by omega) hk
          have HFIT : Hid s.Fits := HR.out.fits
          have HTV : Hid (tagV r (reachG s r (listX X m)) i = .int .i64 (blkAt r g).tag) := by show _ = _; unfold tagV; rw [HRG.out]
          have HFL : Hid ((blkAt r g).F.length ≤ 4096) := (HR.out.tag g _ hbk).2.2
          have HHG : Hid _ := hg
          have HGG : Hid (GoodG r (scans s r (listX X m) i)) := hG
          have x1 : (0 : Int) ≤ (i : Int) := by omega
          have x2 : (i : Int) < ((scans s r (listX X m) i).length : Int) := by omega
          have HGr : Hid _ := hGr
          have HBR : Hid _ := hb
          have HMM : Hid _ := hM
          have hgt := own_ge hGr.tags gt rfl
          have HGTB := hidden hgt
          clear hcell hT0 hy hbk hin t2 b1 hg hG hGr hb hgt
          obtain ⟨tg, htg⟩ : ∃ tg, tg = (blkAt r g).tag := ⟨_, rfl⟩
          rw [← htg] at HTG HTV
          have HTGE : Hid _ := htg
          clear htg
          go_wp2_with fail
          go_cut [11] from 38 to 95 (fun tv' wx => ∃ gt' ct', tv' = .slice (some ⟨gt', 0, none⟩) (i + 1) ct' ∧ Met wx w.heap.size w.heap.size bm p s r (scans s r (listX X m) i) (.slice (some ⟨gv, 0, none⟩) (scans s r (listX X m) i).length cg) ∧ Gr wx w.heap.size s r (reachG s r (listX X m)) X m (i + 1) i gf gt' ct' gl cl hs cs ∧ Below w.heap.size w wx)
          case first =>
            go_region_held3 (fun w' => w'.cell? ⟨w.heap.size, 0, none⟩ = some (.pointer (some ⟨p.a, 0, none⟩)) ∧ w'.cell? ⟨bm, 0, none⟩ = some (.slice (some ⟨gv, 0, none⟩) (scans s r (listX X m) i).length cg) ∧ w'.cell? ⟨gv, i, none⟩ = some (.int .u64 y)) (go_keep) (first
              | (go_at_call 27; refine (tag_is y tg _ (hM.ar.drewN 1) y0 y1 HTG.out).mono ?_; rintro e w3 ⟨rfl, k3, hw3⟩; have M3 := hidden (met_is2 HMM.out hw3); have G3 := hidden (gr_is2 HGr.out hw3); have B3 := hidden (below_is3 HBR.out hw3); clear hw3; obtain ⟨d0, d1⟩ := one_cell M3.out.ha; obtain ⟨d2, d3⟩ := one_cell M3.out.hm; have d4 := met_at M3.out HHG.out; rw [← HY.out] at d4)
              | (refine step_tag rfl (.tmp 44) (.tmp 51) rfl w.heap.size gt i ct (tagV r (reachG s r (listX X m))) (by simp [Act.eval]) (G3.out.tags.alloc _) w3.heap.size 1 (by simp [Act.eval]) (by rw [HTV.out]; exact one_new _ _ _) (by rw [HTV.out]; rfl) (by omega) (by rw [nblk_alloc]; have := B3.out.size; omega) ?_; intro g5 c5 w5 hr5 gr5 hat5; have M5 := hidden (met_grown M3.out (row_is G3.out.tags).choose_spec HGTB.out (by decide) (by decide) (by decide) gr5); have G5 := hidden (G3.out.tagged gr5 hr5); have B5 := hidden (below_app B3.out (Nat.le_refl _) gr5 HGTB.out); clear hr5 gr5 hat5; obtain ⟨t0, t1⟩ := one_cell M5.out.ha; obtain ⟨t2, t3⟩ := one_cell M5.out.hm; have t4 := met_at M5.out HHG.out; rw [← HY.out] at t4))
            all_goals (go_wp2_with fail; go_meet; exact ⟨g5, c5, rfl, M5.out, G5.out, B5.out⟩)
          case rest =>
            obtain ⟨gt', ct', rfl, hM1, hG1, hb1⟩ := hcut
            clear c0 c0f c1 c1f hc hM HMM HGr HBR HTV x2
            have HM1 := hidden hM1
            have HG1 := hidden hG1
            have HB1 := hidden hb1
            have HI0 : Hid (InR wc (wc.alloc (.cells #[] 86)) w bm p s r X m i g (.slice (some ⟨wc.heap.size, 0, none⟩) 0 0) (.int .i64 0)) := inR_start hM1
            clear hM1 hG1 hb1
            go_wp2_with fail
            go_loopw [14, 15] (fun lv kv wr => InR wc wr w bm p s r X m i g lv kv) (fun _ k _ => (blkAt r g).F.length - (intOf k).toNat)
            case atStart => exact HI0.out
            case round =>
              clear HI0
              obtain ⟨k, v2, gL, cL, rfl, rfl, hk, hM2, hrow, hO⟩ := hrel
              have HGI : Hid ((inG s r (scans s r (listX X m) i) (blkAt r g) k)[i]? = some g) := by
                obtain ⟨T, hT⟩ := inG_ext (s := s) (r := r) (scans s r (listX X m) i) (blkAt r g) k
                show _ = _
                rw [hT, List.getElem?_append_left hlt]; exact HHG.out
              have HGG2 : Hid (GoodG r (inG s r (scans s r (listX X m) i) (blkAt r g) k)) := inG_good HR.out HGG.out _ k
              have hgl2 : i < (inG s r (scans s r (listX X m) i) (blkAt r g) k).length := (List.getElem?_eq_some_iff.1 HGI.out).1
              have x2 : (i : Int) < ((inG s r (scans s r (listX X m) i) (blkAt r g) k).length : Int) := by omega
              obtain ⟨al2, cg2, rfl, hcell2⟩ := met_cell hM2.hv
              obtain ⟨gv2, rfl, hc2⟩ := hcell2 i g HGI.out
              rw [← HY.out] at hc2
              obtain ⟨c0, c0f⟩ := one_cell hM2.ha
              obtain ⟨c1, c1f⟩ := one_cell hM2.hm
              have HRW := hidden hrow
              have HO := hidden hO
              have hgL := own_ge hrow gL rfl
              have HGL := hidden hgL
              have hfl := HFL.out
              clear hcell2 hrow hO hgL
              go_wp2_with fail
              go_quiet ((go_at_call 25; exact Calls.quiet_of (size_is y ((blkAt r g).F.length : Int) _ (hM2.ar.drewN _) y0 y1 HSZ.out)))
              have M3 := hM2.drewN nq
              have R3 := hidden (own_drew HRW.out nq)
              have O3 := hidden (HO.out.drewN nq)
              have c0' : (wr.drewN nq).cell? ⟨w.heap.size, 0, none⟩ = some (.pointer (some ⟨p.a, 0, none⟩)) := c0
              have c1' : (wr.drewN nq).cell? ⟨bm, 0, none⟩ = some (.slice (some ⟨gv2, 0, none⟩) (inG s r (scans s r (listX X m) i) (blkAt r g) k).length cg2) := c1
              have c2' : (wr.drewN nq).cell? ⟨gv2, i, none⟩ = some (.int .u64 y) := hc2
              generalize wr.drewN nq = w3 at M3 R3 O3 c0' c1' c2' ⊢
              clear hM2 HRW HO c0 c1 c0f c1f hc2
              by_cases hkl : k < (blkAt r g).F.length
              · obtain ⟨gt1, ge1⟩ := HGT.out k hkl
                have HG3 := hidden gt1
                have HE3 := hidden ge1
                have v0 : (0 : Int) ≤ (k : Int) := by omega
                have v1 : (k : Int) < ((blkAt r g).F.length : Int) := by omega
                obtain ⟨lo1, hi1⟩ := fieldRange M3.ar HR.out hgl k
                have HNT : Hid ((blkAt r g).tag = 202 → nodeF s r (reachG s r (listX X m)) (blkAt r g) k = (-1, 0, (blkAt r g).F.getD k 0) ∧ inG s r (scans s r (listX X m) i) (blkAt r g) (k + 1) = inG s r (scans s r (listX X m) i) (blkAt r g) k) := fun ht => ⟨by unfold nodeF; rw [if_pos ht], inG_text ht k⟩
                have HNW : Hid (¬ (blkAt r g).tag = 202 → gNode s r (visit s r (inG s r (scans s r (listX X m) i) (blkAt r g) k) ((blkAt r g).F.getD k 0)) ((blkAt r g).F.getD k 0) = nodeF s r (reachG s r (listX X m)) (blkAt r g) k ∧ inG s r (scans s r (listX X m) i) (blkAt r g) (k + 1) = visit s r (inG s r (scans s r (listX X m) i) (blkAt r g) k) ((blkAt r g).F.getD k 0)) := fun ht => by
                  obtain ⟨T, hT⟩ := inG_pre HR.out HHG.out (k + 1)
                  rw [inG_words ht hkl] at hT
                  exact ⟨by rw [gNode_see hT]; unfold nodeF; rw [if_neg ht], inG_words ht hkl⟩
                clear gt1 ge1
                generalize (blkAt r g).F.getD k 0 = x at *
                go_wp2_with fail
                go_quiet ((go_at_call 28; exact Calls.quiet_of (get_at y k x 0 _ (M3.ar.drewN _) HFIT.out y0 y1 HG3.out HE3.out)))
                have M4 := M3.drewN nq
                have R4 := hidden (own_drew R3.out nq)
                have O4 := hidden (O3.out.drewN nq)
                have c0 : (w3.drewN nq).cell? ⟨w.heap.size, 0, none⟩ = some (.pointer (some ⟨p.a, 0, none⟩)) := c0'
                have c1 : (w3.drewN nq).cell? ⟨bm, 0, none⟩ = some (.slice (some ⟨gv2, 0, none⟩) (inG s r (scans s r (listX X m) i) (blkAt r g) k).length cg2) := c1'
                have c2 : (w3.drewN nq).cell? ⟨gv2, i, none⟩ = some (.int .u64 y) := c2'
                generalize w3.drewN nq = w4 at M4 R4 O4 c0 c1 c2 ⊢
                clear M3 R3 O3 c0' c1' c2' HG3 HE3
                go_wp2_with fail
                go_quiet ((go_at_call 27; exact Calls.quiet_of (tag_is y tg _ (M4.ar.drewN _) y0 y1 HTG.out)))
                have M5 := M4.drewN nq
                have R5 := hidden (own_drew R4.out nq)
                have O5 := hidden (O4.out.drewN nq)
                have S5 := hidden (Nat.le_trans HB1.out.size (O4.out.drewN nq).size)
                generalize w4.drewN nq = w5 at M5 R5 O5 S5 ⊢
                clear M4 R4 O4 c0 c1 c2
                by_cases ht : tg = 202
                · have hte : (tg == 202) = true := by rw [ht]; rfl
                  obtain ⟨hn1, hn2⟩ := HNT.out (by rw [← HTGE.out]; exact ht)
                  have HN1 := hidden hn1
                  have HN2 := hidden hn2
                  clear hn1 hn2 ht
                  go_wp2_with (at_builtin; refine append_node rfl (.tmp 81) (.tmp 84) rfl wc.heap.size gL k cL (nodeF s r (reachG s r (listX X m)) (blkAt r g)) rfl (R5.out.alloc _) w5.heap.size 1 rfl (by rw [HN1.out]; exact three_new _ _ _ _ _) (by omega) (by rw [nblk_alloc]; have := O5.out.size; omega) ?_; intro g6 c6 w6 hr6 gr6 hat6; have M6 := hidden (met_grown M5 (row_is R5.out).choose_spec (Nat.le_trans HB1.out.size HGL.out) (by decide) (by decide) (by decide) gr6); have R6 := hidden hr6; have O6 := hidden (sg_app O5.out gr6 HGL.out); clear hr6 gr6 hat6)
                  go_roundw
                  case rel => exact ⟨k + 1, _, g6, c6, by go_num, rfl, by omega, by rw [HN2.out]; exact M6.out, R6.out, O6.out⟩
                  case measure => simp [intOf]; omega
                · have hte : (tg == 202) = false := beq_eq_false_iff_ne.2 ht
                  obtain ⟨hn1, hn2⟩ := HNW.out (by rw [← HTGE.out]; exact ht)
                  have HN1 := hidden hn1
                  have HN2 := hidden hn2
                  clear hn1 hn2 ht
                  go_wp2_with (first
                    | (go_at_call 44; refine (see_any x _ HR.out HGG2.out M5 lo1 hi1 S5.out).mono ?_; rintro e w7 ⟨rfl, v7, hM7, ho7⟩; rw [HN1.out]; have P7 := sg_see M5 ho7; have M7 := hidden hM7; have R7 := hidden (row_sg R5.out (met_bm M5) P7 (by decide) (by decide)); have O7 := hidden (sg_trans O5.out P7); clear ho7 hM7 P7)
                    | (at_builtin; refine append_node rfl (.tmp 86) (.tmp 90) rfl wc.heap.size gL k cL (nodeF s r (reachG s r (listX X m)) (blkAt r g)) rfl (R7.out.alloc _) w7.heap.size 1 rfl (three_new _ _ _ _ _) (by omega) (by rw [nblk_alloc]; have := O7.out.size; omega) ?_; intro g6 c6 w6 hr6 gr6 hat6; have M6 := hidden (met_grown M7.out (row_is R7.out).choose_spec (Nat.le_trans HB1.out.size HGL.out) (by decide) (by decide) (by decide) gr6); have R6 := hidden hr6; have O6 := hidden (sg_app O7.out gr6 HGL.out); clear hr6 gr6 hat6))
                  go_roundw
                  case rel => exact ⟨k + 1, v7, g6, c6, by go_num, rfl, by omega, by rw [HN2.out]; exact M6.out, R6.out, O6.out⟩
                  case measure => simp [intOf]; omega
              · have ek : k = (blkAt r g).F.length := by omega
                have hnl : ¬ ((k : Int) < ((blkAt r g).F.length : Int)) := by omega
                have G3 := hidden (HG1.out.sg (met_bm HM1.out) O3.out)
                have B3 := hidden (HB1.out.trans (sg_below O3.out HB1.out.size HBM.out))
                have HNS : Hid (NS w3 gL (blkAt r ((reachG s r (listX X m)).getD i 0)).F.length (nodeF s r (reachG s r (listX X m)) (blkAt r ((reachG s r (listX X m)).getD i 0)))) := by
                  have := (ns_of R3.out).1
                  rw [ek] at this
                  rw [HRG.out]; exact this
                have HFN : Hid (fldV r (reachG s r (listX X m)) (updG hs i gL) (updG cs i cL) i = .slice (some ⟨gL, 0, none⟩) k cL) := by show _ = _; rw [fldV_new, HRG.out, ek]
                have HRV : Hid (w3.ownsRow w.heap.size 39 1 (.slice (some ⟨gl, 0, none⟩) i cl) i (rowV (fldV r (reachG s r (listX X m)) (updG hs i gL) (updG cs i cL)) i)) := by rw [fldV_upd]; exact G3.out.flds
                have HME : Hid (Met w3 w.heap.size w.heap.size bm p s r (scans s r (listX X m) (i + 1)) (.slice (some ⟨gv2, 0, none⟩) (inG s r (scans s r (listX X m) i) (blkAt r g) k).length cg2)) := by rw [← inG_end HHG.out, ← ek]; exact M3
                have HLE : Hid (i + 1 ≤ (scans s r (listX X m) (i + 1)).length) := by rw [← inG_end HHG.out, ← ek]; exact hgl2
                have HGB := hidden (own_ge HRV.out gl rfl)
                have HGLB := hidden (Nat.le_trans HB1.out.size HGL.out)
                clear M3 R3 O3 c0' c1' c2' ek hkl HGT
                go_wp2_with (at_builtin; refine append_slice rfl (.tmp 92) (.tmp 94) rfl w.heap.size gl i cl (fldV r (reachG s r (listX X m)) (updG hs i gL) (updG cs i cL)) rfl (HRV.out.alloc _) w3.heap.size 1 rfl (by rw [HFN.out]; exact one_new _ _ _) (by rw [HFN.out]; rfl) (by omega) (by rw [nblk_alloc]; have := B3.out.size; omega) ?_; intro g6 c6 w6 hr6 gr6 hat6; have M6 := hidden (met_grown HME.out (row_is HRV.out).choose_spec HGB.out (by decide) (by decide) (by decide) gr6); have G6 := hidden (G3.out.fielded gr6 hr6 HNS.out HGLB.out); have B6 := hidden (below_app B3.out (Nat.le_refl _) gr6 HGB.out); clear hr6 gr6 hat6)
                go_roundw
                case rel => exact ⟨i + 1, _, gt', ct', g6, c6, _, _, by go_num, rfl, rfl, HLE.out, M6.out, G6.out, B6.out⟩
                case measure => simp [intOf]; omega
        · have hle : (scans s r (listX X m) i).length ≤ i := by omega
          have ei : i = (reachG s r (listX X m)).length := by rw [reach_end HR.out (listX X m) i hle]; omega
          have hnl : ¬ ((i : Int) < ((scans s r (listX X m) i).length : Int)) := by omega
          have HE : Hid _ := ei
          clear hle ei hlt hcell c0 c0f hG
          go_wp2_with fail
          go_ret3
          have e := HE.out
          refine ⟨gf, cf, gt, ct, gl, cl, hs, cs, ?_, ?_, hb⟩
          · rw [← e]; rfl
          · rw [← e]; exact hGr
end Go.Proofs.Ytkgocnmeedkieaa
