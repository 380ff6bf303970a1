/-
  What the plan's takeAll does: each block that a word leads to gets its place behind the others, unless it has one. Condition: the arena and the plan lie in memory.
-/
import Derived.Test.YtjnlfnecmiklhaaC3Mem
import Derived.Test.YtjnlfnecmiklhaaL3Lay
import Derived.Test.YtjnlfnecmiklhaaPlainOrder
import Derived.Deep.RegionHeld3
import Derived.Deep.CutRange
namespace Go.Proofs.Ytjnlfnecmiklhaa
open Go.ChangeShapes Go.WideShapes Go.ChangeAt Go.RowKit Go.Deep
set_option linter.unusedVariables false
set_option maxHeartbeats 1000000
variable {p : Pl} {s : St} {r : RS} {q : Nat} {bl : Value} {G : List Nat} {D : DataW Unit}

theorem WS.frame0 {w w' : World} {al : Option Addr} {m c : Nat} {X : Nat → Int} {S : Nat → Prop} (h : WS w al m c X) (k : Only S w w') (hs : ∀ ad, al = some ad → 0 < m → ¬ S ad.block) : WS w' al m c X := by
  refine ⟨h.nil, fun i hi => ?_, h.lo, h.hi⟩
  obtain ⟨ad, e, hc⟩ := h.cell i hi
  have hl := cell_lt hc
  refine ⟨ad, e, (World.cell?_of_block (w := w) (k.block _ hl ?_)).trans hc⟩
  rw [add_block]
  exact hs ad e (by omega)
theorem Mv.frame {w w' : World} {S : Nat → Prop} (h : Mv w p r q bl G D) (k : Only S w w') (h1 : ¬ S q) (h2 : ¬ S (q + 1)) (h3 : ∀ g, bl.ownBlock = some g → ¬ S g) : Mv w' p r q bl G D := ⟨h.1.frame k h1 h2 h3, h.2⟩
theorem Mv.below {w w' : World} (h : Mv w p r q bl G D) (k : Below w.heap.size w w') : Mv w' p r q bl G D := ⟨h.1.below k, h.2⟩
theorem Mv.drewN {w : World} (h : Mv w p r q bl G D) (m : Nat) : Mv (w.drewN m) p r q bl G D := ⟨h.1.drewN m, h.2⟩
theorem tk_arena {w w' : World} (h : Ar w p s) (hM : Mv w p r q bl G D) (k : Only (Tk q bl) w w') : Ar w' p s := by
  obtain ⟨p1, p2, p3, p4⟩ := hM.1.pl
  have n1 : ∀ k, k < q → ¬ Tk q bl k := fun k hk ht => by
    rcases ht with e | e | e
    · omega
    · omega
    · have := (owns_lt hM.1.row e).2; omega
  exact h.frame k (n1 _ p1) (n1 _ p2) (n1 _ p3) (n1 _ p4)
/-- Where the plan's row lies behind a step, beside where it lay. -/
def Near (n : Nat) (bl bl' : Value) : Prop := bl'.ownBlock = bl.ownBlock ∨ ∀ k, bl'.ownBlock = some k → n ≤ k
theorem near_tk {w w1 w2 : World} {bl' : Value} (hn : Near w.heap.size bl bl') (k1 : Only (Tk q bl) w w1) (k2 : Only (Tk q bl') w1 w2) : Only (Tk q bl) w w2 := by
  refine ⟨k2.os.trans k1.os, k2.tape.trans k1.tape, k2.output.trans k1.output, Nat.le_trans k1.size k2.size, fun k hk hs => ?_⟩
  refine (k2.block k (Nat.lt_of_lt_of_le hk k1.size) (fun ht => ?_)).trans (k1.block k hk hs)
  rcases ht with e | e | e
  · exact hs (Or.inl e)
  · exact hs (Or.inr (Or.inl e))
  · rcases hn with e2 | e2
    · exact hs (Or.inr (Or.inr (e2 ▸ e)))
    · have := e2 k e; omega
theorem mv_drew {w w1 : World} {k : Nat} (h : Mv w p r q bl G D) (e : w1 = w.drewN k) : Mv w1 p r q bl G D := by rw [e]; exact h.drewN k
theorem only_drew {w w0 w1 : World} {S : Nat → Prop} {k : Nat} (h : Only S w w0) (e : w1 = w0.drewN k) : Only S w w1 := by rw [e]; exact h.drewN k
theorem mvm_drew {w w1 : World} {k : Nat} {ob n mn : Nat} {c : Int} {A : Nat → Int} (h : MvM w p ob q c bl n A mn D) (e : w1 = (w.drewN 1).drewN k) : MvM w1 p ob q c bl n A mn D := by rw [e]; exact (h.drewN 1).drewN k
theorem near_trans {n n' : Nat} {bl bl1 bl2 : Value} (h1 : Near n bl bl1) (h2 : Near n' bl1 bl2) (hn : n ≤ n') : Near n bl bl2 := by
  rcases h2 with e | e
  · unfold Near; rw [e]; exact h1
  · exact Or.inr (fun k hk => Nat.le_trans hn (e k hk))
def TookAs (w : World) (p : Pl) (r : RS) (q : Nat) (bl : Value) (G : List Nat) (e : Ending) (w' : World) : Prop :=
  e = .returned (.tuple #[]) ∧ ∃ bl' D', Mv w' p r q bl' G D' ∧ Only (Tk q bl) w w' ∧ Near w.heap.size bl bl'
theorem listX_more (X : Nat → Int) (j : Nat) : listX X (j + 1) = listX X j ++ [X j] := by unfold listX; rw [List.range_succ, List.map_append]; rfl
theorem visits_more (s : St) (r : RS) (G : List Nat) (X : Nat → Int) (j : Nat) : visits s r G (listX X (j + 1)) = visit s r (visits s r G (listX X j)) (X j) := by rw [listX_more, visits_append]; rfl
theorem good_bound {w : World} (h : Ar w p s) (hr : Rep s r) (hG : GoodG r G) : lenG r G ≤ 32768 ∧ G.length ≤ 32768 ∧ otherB r ≤ 32768 := by
  have n2 := h.n2; have t1 := h.t1; have t2 := h.t2; have htop := hr.top; have hn := hr.n; have hwh := hr.wh
  obtain ⟨g1, g2⟩ := goodG_len hG
  have hll := lenB_length' r.L
  refine ⟨by omega, by omega, ?_⟩
  unfold otherB
  rcases Nat.le_one_iff_eq_zero_or_eq_one.1 hwh with e | e <;> rw [e] <;> omega
theorem adW_old (r : RS) (G : List Nat) (i : Nat) {j : Nat} (hj : j < G.length) : adW r (G ++ [i]) j = adW r G j := by
  unfold adW
  rw [List.getD_eq_getElem?_getD, List.getElem?_append_left hj, ← List.getD_eq_getElem?_getD]
theorem adW_new (r : RS) (G : List Nat) (i : Nat) : adW r (G ++ [i]) G.length = 2 * ((blkAt r i).ad : Int) := by
  unfold adW
  rw [List.getD_eq_getElem?_getD, List.getElem?_append_right (Nat.le_refl _)]
  simp
/-- A block gets its place: the three steps. -/
theorem mv_step {w w1 w2 : World} {o : Obj} {g cap i : Nat} {u : Int} (hr : Rep s r) (hM : Mv w p r q bl G D) (hG : GoodG r G) (hi : i < r.L.length) (hn : ¬ i ∈ G) {y : Int} (hy : y = 2 * ((blkAt r i).ad : Int)) (hu : u = 2 * ((otherB r + lenG r G + 1 : Nat) : Int))
    (h1 : MvM w1 p (otherB r) q (lenG r G : Nat) bl G.length (adW r G) (G.length + 1) (D.put (.int .u64 y) (.lit (.int .u64 u)))) (gr : (w1.alloc o).grownBy w2 bl.ownBlock)
    (ho : w2.ownsRow (q + 2) 54 1 (.slice (some ⟨g, 0, none⟩) (G.length + 1) cap) (G.length + 1) (((List.range G.length).map fun j => .int .u64 (adW r G j)) ++ [.int .u64 y])) (hat : bl.ownBlock = some g ∨ g = (w1.alloc o).heap.size) :
    MvM (w2.setCell ⟨q + 1, 3, none⟩ (.slice (some ⟨g, 0, none⟩) (G.length + 1) cap)) p (otherB r) q (lenG r G : Nat) (.slice (some ⟨g, 0, none⟩) (G.length + 1) cap) (G ++ [i]).length (adW r (G ++ [i])) (G ++ [i]).length (D.put (.int .u64 y) (.lit (.int .u64 u))) ∧
    Only (Tk q bl) w1 (w2.setCell ⟨q + 1, 3, none⟩ (.slice (some ⟨g, 0, none⟩) (G.length + 1) cap)) ∧ Near w1.heap.size bl (.slice (some ⟨g, 0, none⟩) (G.length + 1) cap) ∧ PlanD r (G ++ [i]) (D.put (.int .u64 y) (.lit (.int .u64 u))) := by
  have el : (G ++ [i]).length = G.length + 1 := by simp
  obtain ⟨a1, a2⟩ := h1.appended (A' := adW r (G ++ [i])) gr ho hat (fun j hj => adW_old r G i hj) (by rw [adW_new, hy])
  refine ⟨by rw [el]; exact a1, a2, ?_, ?_⟩
  · rcases hat with e | e
    · exact Or.inl (by rw [e]; rfl)
    · refine Or.inr (fun k hk => ?_)
      have : g = k := by simpa [Value.ownBlock] using hk
      rw [nblk_alloc] at e
      omega
  · rw [hy]
    exact plan_put hr hM.2 hM.1.map.isMap hG hi hn hu
theorem five_cells {w : World} {b : Nat} {x0 x1 x2 x3 x4 : Value} {t : TypeId} (h : w.heap[b]? = some (.cells #[x0, x1, x2, x3, x4] t (0, 0))) : (w.cell? ⟨b, 0, none⟩ = some x0 ∧ w.cell? ⟨b, 1, none⟩ = some x1 ∧ w.cell? ⟨b, 2, none⟩ = some x2 ∧ w.cell? ⟨b, 3, none⟩ = some x3 ∧ w.cell? ⟨b, 4, none⟩ = some x4) ∧ ∀ i, w.frozen? ⟨b, i, none⟩ = false := by
  refine ⟨⟨?_, ?_, ?_, ?_, ?_⟩, fun i => ?_⟩ <;> simp [World.cell?, World.frozen?, h]
theorem mv_blk {w w' : World} {o : Obj} {ob n mn : Nat} {c : Int} {A : Nat → Int} (h : MvM w p ob q c bl n A mn D) (gr : (w.alloc o).grownBy w' bl.ownBlock) : w'.heap[q + 1]? = some (.cells #[.pointer (some ⟨p.a, 0, none⟩), .int .i64 ob, .int .i64 c, bl, .map (some q)] 99 (0, 0)) := by
  have hl := lt_of_some h.hm
  refine ((gr.block (q + 1) (by rw [nblk_alloc]; omega) (fun e => ?_)).trans (blk_alloc_lt _ _ _ hl)).trans h.hm
  have := (owns_lt h.row e.symm).2; omega
theorem Rep.sizeOf {w : World} (ha : Ar w p s) (h : Rep s r) {i : Nat} {b : Blk} (hb : r.L[i]? = some b) : s.size (2 * (b.ad : Int)) = b.F.length := by
  have hin := h.inside hb
  have n2 := ha.n2; have t2 := ha.t2; have b1 := ha.b1
  obtain ⟨hf, _⟩ := h.word hb (by omega)
  unfold St.size
  rw [hf, if_neg (by show ¬ ((b.ad : Int) = 0); omega)]
  exact (h.tagAt hb).2
theorem lenG_snoc (r : RS) (G : List Nat) (i : Nat) : lenG r (G ++ [i]) = lenG r G + (1 + (blkAt r i).F.length) := by rw [lenG_append, lenG_one]
set_option maxRecDepth 100000 in
theorem takeAll_any {al : Option Addr} {m c : Nat} {X : Nat → Int} (w : World) (h : Ar w p s) (hr : Rep s r) (hx : WS w al m c X) (hm : m ≤ 100000) (hM : Mv w p r q bl G D) (hG : GoodG r G) (hoff : ∀ ad, al = some ad → 0 < m → ¬ Tk q bl ad.block) :
    Calls Try.prog 71 #[.pointer (some ⟨q + 1, 0, none⟩), .slice al m c] w fun e w' => TookAs w p r q bl (visits s r G (listX X m)) e w' := by
  have HAR : Hid (∀ wr, Only (Tk q bl) w wr → Ar wr p s) := fun wr k => tk_arena h hM k
  have HWS : Hid (∀ wr, Only (Tk q bl) w wr → WS wr al m c X) := fun wr k => hx.frame0 k hoff
  have HR : Hid _ := hr
  have HM : Hid _ := hM
  have HB : Hid (∀ j, GoodG r (visits s r G (listX X j))) := fun j => visits_good hr _ hG
  have HBD : Hid (∀ G', GoodG r G' → lenG r G' ≤ 32768 ∧ G'.length ≤ 32768 ∧ otherB r ≤ 32768) := fun G' hG' => good_bound h hr hG'
  clear h hr hx hM hG hoff
  go_enter Try.func71, Try.ntmps71
  go_wp2
  go_loopw [12] (fun i wr => ∃ (j : Nat) (bl' : Value) (D' : DataW Unit), j ≤ m ∧ i = .int .i64 j ∧ Mv wr p r q bl' (visits s r G (listX X j)) D' ∧ Only (Tk q bl) w wr ∧ Near w.heap.size bl bl') (fun i _ => m - (intOf i).toNat)
  case atStart => exact ⟨0, bl, D, Nat.zero_le _, rfl, HM.out, Only.refl _ _, Or.inl rfl⟩
  case round =>
    clear HM
    obtain ⟨j, bl', D', hj, rfl, hM, ho, hnear⟩ := hrel
    have h := HAR.out wr ho
    have hx := HWS.out wr ho
    have hG := HB.out j
    have HVS : Hid _ := visits_more s r G X j
    have HO : Hid _ := ho
    have HN : Hid _ := hnear
    clear ho hnear
    obtain ⟨c0, c1, c2, c3, c4⟩ := hM.1.cells
    by_cases hlt : j < m
    · obtain ⟨x, rfl, hxc⟩ := hx.cell j hlt
      have z0 := hx.lo j hlt
      have z1 := hx.hi j hlt
      have x1 : (0 : Int) ≤ (j : Int) := by omega
      have x2 : (j : Int) < (m : Int) := by omega
      generalize hGj : visits s r G (listX X j) = Gj at *
      generalize hXj : X j = xj at *
      rcases lead_cases HR.out xj with ⟨f0, l0⟩ | ⟨i, b, hb, f0, l0⟩
      · have HF : Hid _ := f0
        have HV : Hid (visits s r G (listX X (j + 1)) = Gj) := by show _ = _; rw [HVS.out, visit_none l0]
        clear f0 l0 hGj hXj
        go_wp2_with (first
          | (go_at_call 49; refine (leads_any xj _ h z0 z1).mono ?_; rintro e w1 ⟨rfl, k, hw1⟩; rw [HF.out]; have M1 := mv_drew hM hw1; have O1 := hidden (only_drew HO.out hw1); clear hw1; obtain ⟨d0, d1, d2, d3, d4⟩ := M1.1.cells)
          | (at_lookup; refine wpList_lookup_own_ok_int _ rfl _ _ 97 rfl 54 54 .u64 word_keyed Try.underlying97 Try.underlying54 (word_zero _) q _ _ rfl M1.1.map _ _ rfl (Maps.keyOf_int_mk Try.underlying54 (by decide)) ?_; intro cc hat hwc; generalize Maps.has D' _ = hb; clear hat hwc))
        go_roundw
        case rel => exact ⟨j + 1, bl', D', by omega, by go_num, by rw [HV.out]; exact M1, O1.out, HN.out⟩
        case measure => simp [intOf]; omega
      · have ebi := blkAt_of hb
        have hil := (List.getElem?_eq_some_iff.1 hb).1
        have hin := HR.out.inside hb
        have n2 := h.n2
        have t2 := h.t2
        have b1 := h.b1
        obtain ⟨y, hy⟩ : ∃ y : Int, y = 2 * (b.ad : Int) := ⟨_, rfl⟩
        have HF : Hid (2 * (s.find xj).1 = y) := by show _ = _; rw [f0, hy]
        have y0 : 0 < y := by omega
        have y1 : y ≤ 18446744073709551615 := by omega
        have yb : (y == 0) = false := beq_eq_false_iff_ne.2 (by omega)
        have HK : Hid (keyI r i = .int .u64 y) := by show _ = _; unfold keyI; rw [ebi, hy]
        by_cases hiG : i ∈ Gj
        · have HV : Hid (visits s r G (listX X (j + 1)) = Gj) := by show _ = _; rw [HVS.out, visit_old l0 hiG]
          have HH : Hid (Maps.has D' (.int .u64 y) = true) := by show _ = _; rw [← HK.out, hM.2.1 i hil]; simp [hiG]
          clear f0 l0 hGj hXj hb ebi hin n2 t2 b1 hy
          go_wp2_with (first
            | (go_at_call 49; refine (leads_any xj _ h z0 z1).mono ?_; rintro e w1 ⟨rfl, k, hw1⟩; rw [HF.out]; have M1 := mv_drew hM hw1; have O1 := hidden (only_drew HO.out hw1); clear hw1; obtain ⟨d0, d1, d2, d3, d4⟩ := M1.1.cells)
            | (at_lookup; refine wpList_lookup_own_ok_int _ rfl _ _ 97 rfl 54 54 .u64 word_keyed Try.underlying97 Try.underlying54 (word_zero _) q _ _ rfl M1.1.map _ _ rfl (Maps.keyOf_int_mk Try.underlying54 (word_wf (Int.le_of_lt y0) y1)) ?_; intro cc hat hwc; rw [HH.out]; clear hat hwc))
          go_roundw
          case rel => exact ⟨j + 1, bl', D', by omega, by go_num, by rw [HV.out]; exact M1, O1.out, HN.out⟩
          case measure => simp [intOf]; omega
        · have HV : Hid (visits s r G (listX X (j + 1)) = Gj ++ [i]) := by show _ = _; rw [HVS.out, visit_new l0 hiG]
          have HH : Hid (Maps.has D' (.int .u64 y) = false) := by show _ = _; rw [← HK.out, hM.2.1 i hil]; simp [hiG]
          have HSZ : Hid (s.size y = b.F.length) := by show _ = _; rw [hy]; exact Rep.sizeOf h HR.out hb
          have HY : Hid (y = 2 * ((blkAt r i).ad : Int)) := by show _ = _; rw [ebi, hy]
          have HGN : Hid (GoodG r (Gj ++ [i])) := by have := HB.out (j + 1); rw [HV.out] at this; exact this
          have HLN : Hid ((lenG r Gj : Nat) + (1 + (b.F.length : Int)) = ((lenG r (Gj ++ [i]) : Nat) : Int)) := by show _ = _; rw [lenG_snoc, ebi]; omega
          obtain ⟨g1, g2, g3⟩ := HBD.out _ hG
          obtain ⟨u, hu⟩ : ∃ u, u = 2 * ((otherB r + lenG r Gj + 1 : Nat) : Int) := ⟨_, rfl⟩
          have u0 : 0 ≤ u := by omega
          have u1 : u ≤ 18446744073709551615 := by omega
          have HP : Hid (ptrW ((otherB r : Nat) + (lenG r Gj : Nat) + 1) = u) := by show _ = _; unfold ptrW; rw [if_neg (by omega), hu]; omega
          have HU : Hid _ := hu
          have e1 := wrapId ((otherB r : Nat) + (lenG r Gj : Nat) : Int) (by omega) (by omega)
          have e2 := wrapId ((otherB r : Nat) + (lenG r Gj : Nat) + 1 : Int) (by omega) (by omega)
          have hfl := (HR.out.tag i b hb).2.2
          clear f0 l0 hGj hXj hb ebi hin hy hu
          go_wp2_with (first
            | (go_at_call 49; refine (leads_any xj _ h z0 z1).mono ?_; rintro e w1 ⟨rfl, k, hw1⟩; rw [HF.out]; have M1 := mv_drew hM hw1; have O1 := hidden (only_drew HO.out hw1); clear hw1; obtain ⟨d0, d1, d2, d3, d4⟩ := M1.1.cells)
            | (at_lookup; refine wpList_lookup_own_ok_int _ rfl _ _ 97 rfl 54 54 .u64 word_keyed Try.underlying97 Try.underlying54 (word_zero _) q _ _ rfl M1.1.map _ _ rfl (Maps.keyOf_int_mk Try.underlying54 (word_wf (Int.le_of_lt y0) y1)) ?_; intro cc hat hwc; rw [HH.out]; clear hat hwc))
          clear c0 c1 c2 c3 c4 hxc
          obtain ⟨w2, hup, hown2, gr2⟩ := (show w1.drew.ownsMap Try.prog 54 (plainElem Try.prog 54) q Gj.length D' from M1.1.map).update word_keyed Try.underlying97 (by unfold maxLen; omega) (Maps.keyOf_int_mk Try.underlying54 (word_wf (Int.le_of_lt y0) y1)) (plainElem_int Try.underlying54 (word_wf u0 u1))
          obtain ⟨m2, o2⟩ := (show MvM w1.drew p (otherB r) q (lenG r Gj : Nat) bl' Gj.length (adW r Gj) Gj.length D' from M1.1.drewN 1).mapped gr2 hown2
          have O2 : Hid (Only (Tk q bl) w w2) := near_tk HN.out (O1.out.drewN 1) o2
          obtain ⟨f0, f1, f2, f3, f4⟩ := m2.cells
          have M2 : Hid _ := m2
          clear m2 o2 gr2 hown2
          go_cut [12] from 12 to 79 (fun i' wx => i' = .int .i64 j ∧ wx = w2)
          case first =>
            go_region_held3 (fun w' => w'.cell? ⟨q + 1, 4, none⟩ = some (.map (some q)) ∧ w'.cell? ⟨q + 1, 1, none⟩ = some (.int .i64 (otherB r : Nat)) ∧ w'.cell? ⟨q + 1, 2, none⟩ = some (.int .i64 (lenG r Gj : Nat))) (go_keep) (first
              | (go_at_call 44; refine (ptr_any _ _ (by omega) (by omega)).mono ?_; rintro e w3 ⟨rfl, hw3⟩; rw [hw3, HP.out]; clear hw3 w3))
            all_goals (go_wp2_with fail; go_meet; exact ⟨rfl, rfl⟩)
          case rest =>
            obtain ⟨rfl, rfl⟩ := hcut
            clear hup d0 d1 d2 d3 d4 e1 e2
            have m2 := M2.out
            have hq2 : q + 1 < wc.heap.size := lt_of_some m2.hm
            go_wp2_with (at_builtin; refine wpList_append_lie rfl (.tmp 59) (.tmp 61) rfl (q + 2) bl' Gj.length _ rfl (m2.row.alloc _) ⟨wc.heap.size, 0, none⟩ 1 y rfl (by simp [Addr.add]) (by omega) (by rw [nblk_alloc]; omega) ?_; intro g cap w3 ho3 gr3 hat3; obtain ⟨⟨t0, t1, t2', t3, t4⟩, t5⟩ := five_cells (mv_blk m2 gr3); obtain ⟨s1, s2, s3, s4⟩ := mv_step HR.out M1 hG hil hiG HY.out HU.out m2 gr3 ho3 hat3; have S1 := hidden s1; have S2 := hidden (near_tk HN.out O2.out s2); have S3 := hidden (near_trans HN.out s3 O2.out.size); have S4 := hidden s4; clear s1 s2 s3 s4 ho3 gr3 hat3)
            have m4 := S1.out
            have h4 := HAR.out _ S2.out
            clear t0 t1 t2' t3 t4 t5 f0 f1 f2 f3 f4 m2 M2 O2 O1
            generalize w3.setCell ⟨q + 1, 3, none⟩ (.slice (some ⟨g, 0, none⟩) (Gj.length + 1) cap) = w4 at *
            obtain ⟨c0, c1, c2, c3, c4⟩ := m4.cells
            have c5 := m4.frozen 2
            have e3 := wrapId (1 + (b.F.length : Int)) (by omega) (by omega)
            have e4 := wrapId ((lenG r Gj : Nat) + (1 + (b.F.length : Int))) (by omega) (by omega)
            go_region_with (go_at_call 22; refine (size_of y _ (h4.drewN 1) (by omega) y1).mono ?_; rintro e w5 ⟨rfl, k, hw5⟩; rw [HSZ.out]; have m5 := hidden (mvm_drew m4 hw5); have o5 := hidden (only_drew (S2.out.drewN 1) hw5); clear hw5; obtain ⟨k0, k1, k2, k3, k4⟩ := m5.out.cells; have k5 := m5.out.frozen 2)
            all_goals
              go_wp2_with fail
              go_roundw
              case rel => exact ⟨j + 1, _, _, by omega, by go_num, by rw [HV.out]; exact ⟨by rw [← HLN.out]; exact (m5.out.counted _).1, S4.out⟩, near_tk S3.out o5.out (m5.out.counted _).2, S3.out⟩
              case measure => simp [intOf]; omega
    · have ej : j = m := by omega
      subst ej
      have hnl : ¬ ((j : Int) < (j : Int)) := by omega
      go_wp2
      go_end0
      exact ⟨rfl, bl', D', hM, HO.out, HN.out⟩
end Go.Proofs.Ytjnlfnecmiklhaa
