/-
  Layer 6: what the statements' own block makes: one block with given fields in both arenas, or none. Condition: the layer and the fields lie in memory.
-/
import Derived.Test.YtcbgjkedmboifabL6Mem
import Derived.Deep.RegionHeld3
namespace Go.Proofs.Ytcbgjkedmboifab
open Go.ChangeShapes Go.WideShapes Go.ChangeAt Go.RowKit Go.Deep
set_option linter.unusedVariables false
set_option maxHeartbeats 1000000

variable {w w' : World} {lb : Nat} {p : Pl} {rb : Nat} {s : St} {r : RS} {had : List Int} {left : Int} {O : Nat → Prop}
/-- A block more with given fields. -/
def RS.more (r : RS) (s : St) (t : Int) (F : List Int) : RS := ⟨r.n, r.which, r.L ++ [⟨s.top + 1, t, F⟩]⟩
/-- What block tells and makes. -/
def BlockAs (w : World) (lb : Nat) (p : Pl) (rb : Nat) (s : St) (r : RS) (had : List Int) (left : Int) (O : Nat → Prop) (t : Int) (F : List Int) (e : Ending) (w' : World) : Prop :=
  (s.allocE t F.length ≠ 0 ∧ e = .returned (.int .u64 1) ∧ ∃ O', LaidIn w' lb p rb s r had left O' ∧ Grows O O' w w') ∨
  (s.allocE t F.length = 0 ∧ e = .returned (.int .u64 (2 * ((s.top : Int) + 1))) ∧ ∃ s' O', LaidIn w' lb p rb s' (r.more s t F) (had ++ [2 * ((s.top : Int) + 1)]) left O' ∧ Grows O O' w w')
theorem LaidIn.cells (h : LaidIn w lb p rb s r had left O) : w.cell? ⟨lb, 0, none⟩ = some (.pointer (some ⟨p.a, 0, none⟩)) ∧ w.cell? ⟨lb, 1, none⟩ = some (.pointer (some ⟨rb, 0, none⟩)) ∧ w.cell? ⟨lb, 3, none⟩ = some (.int .i64 left) ∧ ∀ o, w.frozen? ⟨lb, o, none⟩ = false := by
  obtain ⟨a, cap, V, hv, h1, _⟩ := h
  simp [World.cell?, World.frozen?, h1]
theorem alloc_no6 {t z : Int} (h : s.allocE t z ≠ 0) : s.alloc t z = s := by unfold St.alloc; rw [if_neg h]
theorem after_no {t z : Int} (h : s.allocE t z ≠ 0) : r.after s t z = r := by unfold RS.after; rw [if_neg h]
/-- The fields that are to be written. -/
structure Src6 (w : World) (O : Nat → Prop) (al : Option Addr) (F : List Int) : Prop where
  cell : ∀ i, i < F.length → ∃ ad, al = some ad ∧ ad.block < w.heap.size ∧ ¬ O ad.block ∧ w.cell? (ad.add i) = some (.int .u64 (F.getD i 0))
  rng : ∀ i, i < F.length → R64 (F.getD i 0)
theorem Src6.at {al : Option Addr} {F : List Int} (h : Src6 w O al F) (k : Only O w w') {i : Nat} (hi : i < F.length) : ∃ ad, al = some ad ∧ w'.cell? (ad.add i) = some (.int .u64 (F.getD i 0)) := by
  obtain ⟨ad, e, h1, h2, h3⟩ := h.cell i hi
  refine ⟨ad, e, ?_⟩
  have : w'.heap[(ad.add i).block]? = w.heap[(ad.add i).block]? := by rw [add_block]; exact k.block _ h1 h2
  rw [World.cell?_of_block (w := w) this]
  exact h3
set_option maxRecDepth 20000 in
theorem block_no {al : Option Addr} {F : List Int} {c : Nat} (t : Int) (w : World) (h : LaidIn w lb p rb s r had left O) (hF : F.length ≤ 1000) (he : s.allocE t F.length ≠ 0) :
    Calls Try.prog 10 #[.pointer (some ⟨lb, 0, none⟩), .int .i64 t, .slice al F.length c] w fun e w' => BlockAs w lb p rb s r had left O t F e w' := by
  obtain ⟨c0, c1, c3, cf⟩ := h.cells
  obtain ⟨a, cap, V, hv, h1, h2, h3, h4, hO⟩ := h
  have H1 := hidden h1
  have H2 := hidden h2
  have H3 := hidden h3
  have H4 := hidden h4
  have HO := hidden hO
  obtain ⟨E, hE⟩ : ∃ E, s.allocE t F.length = E := ⟨_, rfl⟩
  obtain ⟨W, hW⟩ : ∃ W, s.allocW t F.length = W := ⟨_, rfl⟩
  have HE := hidden hE
  have HW := hidden hW
  have hb : (E != 0) = true := by rw [← hE]; simp [he]
  have HN := hidden he
  have HLN : Hid (∃ L, F.length = L) := ⟨_, rfl⟩
  obtain ⟨L, hL⟩ := HLN.out
  have HL := hidden hL
  rw [hL] at hF ⊢
  rw [hL] at HE HW HN
  have HBL : Hid (∀ e w', e = .returned (.int .u64 1) → (∃ O', LaidIn w' lb p rb s r had left O' ∧ Grows O O' w w') → BlockAs w lb p rb s r had left O t F e w') := fun e w' e1 e2 => Or.inl ⟨by rw [HL.out]; exact HN.out, e1, e2⟩
  clear h1 h2 h3 h4 hO hE hW he hL HLN
  go_enter Try.func10, Try.ntmps10
  go_wp2_with (first
    | (go_at_call 21; refine (alloc_any (p := p) (s := s) t (L : Nat) _ H2.out.ar).mono ?_; rintro e w3 ⟨rfl, ha3, o3⟩; rw [HW.out, HE.out]; have A3 := hidden ha3; have O3 := hidden o3; have BO3 := hidden (H2.out.left o3); have d1 : w3.cell? ⟨lb, 1, none⟩ = some (.pointer (some ⟨rb, 0, none⟩)) := (World.cell?_of_block (w := w) (o3.block lb (lt_of_some H1.out) (fun c => aown_ty H2.out H1.out (own_aown _ c)))).trans c1; clear ha3 o3)
    | (go_at_call 22; refine (ralloc_at t (L : Nat) _ BO3.out).mono ?_; rintro e w4 ⟨rfl, a4, cap4, V4, rf4, o4, hf4, hat4⟩; have L4 := hidden (laid_alloc H1.out H2.out H3.out H4.out HO.out A3.out O3.out rf4 o4 hf4 hat4); clear rf4 o4 hf4 hat4))
  all_goals go_ret
  all_goals exact HBL.out _ _ rfl (by have := L4.out; rw [alloc_no6 HN.out, after_no HN.out] at this; exact this)
/-- Where the loop over the fields is. -/
def BlockTill (w : World) (lb : Nat) (p : Pl) (rb : Nat) (r1 : RS) (k : Nat) (b : Blk) (F : List Int) (had : List Int) (left : Int) (O : Nat → Prop) (kv : Value) (wr : World) : Prop :=
  ∃ (j : Nat) (s' : St) (O' : Nat → Prop), j ≤ F.length ∧ kv = .int .i64 j ∧ LaidIn wr lb p rb s' (r1.withF k b (mixG F b.F j)) had left O' ∧ Grows O O' w wr
theorem more_with (r : RS) (s : St) (t : Int) (F G : List Int) : (r.more s t G).withF r.L.length ⟨s.top + 1, t, G⟩ F = r.more s t F := by
  unfold RS.more RS.withF
  simp
theorem allocE_le {t : Int} {z : Nat} (h : s.allocE t z = 0) : z ≤ 4096 := by
  obtain ⟨_, h1, h2, _⟩ := allocE_zero h
  omega
theorem appendW (w : World) {ops : Array Oper} {rest : List Oper} {o : Oper} {a : Act} {Q : Exit → Act → World → Prop} (hgd : o.guard = none) (s x : Operand)
    (ho : o.op = .call { callee := .builtin .append, args := #[s, x], argTypes := #[37, 37] }) (v : Value) (n : Nat) (xs : List Value) (hs : a.eval s = v) (hown : w.ownsRow 0 30 1 v n xs)
    (ad : Addr) (c : Nat) (u : Int) (hx : a.eval x = .slice (some ad) 1 c) (hu : w.cell? (ad.add 0) = some (.int .u64 u)) (hn : n ≤ 1000000)
    (h : ∀ g cap w', w'.ownsRow 0 30 1 (.slice (some ⟨g, 0, none⟩) (n + 1) cap) (n + 1) (xs ++ [.int .u64 u]) → w.grownBy w' v.ownBlock → (v.ownBlock = some g ∨ g = w.heap.size) → g < w'.heap.size → wpList Try.prog ops Q rest (a.put o.dst (.slice (some ⟨g, 0, none⟩) (n + 1) cap)) w') : wpList Try.prog ops Q (o :: rest) a w := by
  obtain ⟨i0, hi, hz0, hz1, hz2⟩ := info_parts infoW
  refine wpList_append_lies w hgd s x 37 ho 0 30 i0 _ 1 8 Try.underlying37 hi hz0 hz1 hz2 rfl (by decide) v n xs hs hown ad 1 c [.int .u64 u] hx rfl ?_ ?_ (by omega) (by unfold maxLen; omega) (by omega) (Nat.zero_le _) _ rfl h
  · intro j y hy
    match j, hy with
    | 0, hy => simp at hy; subst hy; exact hu
  · intro y hy; simp at hy; subst hy; rfl
theorem had_end {w4 : World} {a : Option Addr} {cap : Nat} {V : Nat → Value} {hv : Value} {g cq : Nat} {x : Int} {o : Obj} (hl : w.heap[lb]? = some (.cells #[.pointer (some ⟨p.a, 0, none⟩), .pointer (some ⟨rb, 0, none⟩), hv, .int .i64 left] 39 (0, 0))) (ht : Two w p s rb r a cap V) (ho : w.ownsRow 0 30 1 hv had.length (had.map u64v)) (hx : ∀ x, x ∈ had → R64 x)
    (hO : O lb ∧ (∀ q, Aown p rb a V r.L.length q → O q) ∧ (∀ k, hv.ownBlock = some k → O k ∧ ¬ Aown p rb a V r.L.length k) ∧ ∀ q, O q → q < w.heap.size) (hx2 : R64 x)
    (gr : (w.alloc o).grownBy w4 hv.ownBlock) (hat : hv.ownBlock = some g ∨ g = (w.alloc o).heap.size) (hlt : g < w4.heap.size) (ho4 : w4.ownsRow 0 30 1 (.slice (some ⟨g, 0, none⟩) (had.length + 1) cq) (had.length + 1) (had.map u64v ++ [.int .u64 x])) :
    (w4.cell? ⟨lb, 2, none⟩ = some hv ∧ ∀ o, w4.frozen? ⟨lb, o, none⟩ = false) ∧ ∃ O', LaidIn (w4.setCell ⟨lb, 2, none⟩ (.slice (some ⟨g, 0, none⟩) (had.length + 1) cq)) lb p rb s r (had ++ [x]) left O' ∧ Grows O O' w (w4.setCell ⟨lb, 2, none⟩ (.slice (some ⟨g, 0, none⟩) (had.length + 1) cq)) := by
  have hb : Below w.heap.size w (w.alloc o) := (Below.refl _ _).alloc (Nat.le_refl _) o
  obtain ⟨q1, O', q2, q3⟩ := laid_had (O := O) ((blk_alloc_lt _ o _ (lt_of_some hl)).trans hl) (ht.alloc o) (ho.alloc o) hx ⟨hO.1, hO.2.1, hO.2.2.1, fun q hq => by rw [nblk_alloc]; have := hO.2.2.2 q hq; omega⟩ hx2 gr (hat.imp id (fun e => Nat.le_of_eq e.symm)) hlt ho4
  exact ⟨q1, O', q2, (Grows.of_below O hb).trans q3⟩
set_option maxRecDepth 20000 in
set_option maxHeartbeats 8000000 in
theorem block_yes {al : Option Addr} {F : List Int} {c : Nat} (t : Int) (w : World) (h : LaidIn w lb p rb s r had left O) (hsrc : Src6 w O al F) (hF : F.length ≤ 1000) (hhd : had.length ≤ 100000) (he : s.allocE t F.length = 0) :
    Calls Try.prog 10 #[.pointer (some ⟨lb, 0, none⟩), .int .i64 t, .slice al F.length c] w fun e w' => BlockAs w lb p rb s r had left O t F e w' := by
  obtain ⟨c0, c1, c3, cf⟩ := h.cells
  obtain ⟨a, cap, V, hv, h1, h2, h3, h4, hO⟩ := h
  have H1 := hidden h1
  have H2 := hidden h2
  have H3 := hidden h3
  have H4 := hidden h4
  have HO := hidden hO
  have HSRC := hidden hsrc
  have HAW : Hid (s.allocW t F.length = 2 * ((s.top : Int) + 1)) := by show _ = _; unfold St.allocW; rw [if_pos he]
  have HAF : Hid (r.after s t F.length = r.more s t (List.replicate F.length 1)) := by show _ = _; unfold RS.after RS.alloc RS.more; rw [if_pos he]; simp
  have htop : (s.top : Int) ≤ 65536 := by have n2 := h2.ar.n2; have t2 := h2.ar.t2; have b1 := h2.ar.b1; omega
  have HBL : Hid (∀ e w', e = .returned (.int .u64 (2 * ((s.top : Int) + 1))) → (∃ s' O', LaidIn w' lb p rb s' (r.more s t F) (had ++ [2 * ((s.top : Int) + 1)]) left O' ∧ Grows O O' w w') → BlockAs w lb p rb s r had left O t F e w') := fun e w' e1 e2 => Or.inr ⟨he, e1, e2⟩
  have HE := hidden he
  obtain ⟨W, hW⟩ : ∃ W, 2 * ((s.top : Int) + 1) = W := ⟨_, rfl⟩
  have HXA : Hid (((s.top + 1 : Nat) : Int) = addrW W) := by show _ = _; rw [← hW]; unfold addrW; rw [if_neg (by omega)]; omega
  have w0 : 0 ≤ W := by omega
  have w1 : W ≤ 18446744073709551615 := by omega
  rw [hW] at HAW HBL
  clear h1 h2 h3 h4 hO he hsrc hW
  go_enter Try.func10, Try.ntmps10
  go_wp2_with (first
    | (go_at_call 21; refine (alloc_any (p := p) (s := s) t (F.length : Nat) _ H2.out.ar).mono ?_; rintro e w3 ⟨rfl, ha3, o3⟩; rw [HAW.out, HE.out]; have A3 := hidden ha3; have O3 := hidden o3; have BO3 := hidden (H2.out.left o3); have d1 : w3.cell? ⟨lb, 1, none⟩ = some (.pointer (some ⟨rb, 0, none⟩)) := (World.cell?_of_block (w := w) (o3.block lb (lt_of_some H1.out) (fun c => aown_ty H2.out H1.out (own_aown _ c)))).trans c1; clear ha3 o3)
    | (go_at_call 22; refine (ralloc_at t (F.length : Nat) _ BO3.out).mono ?_; rintro e w4 ⟨rfl, a4, cap4, V4, rf4, o4, hf4, hat4⟩; have L4 := hidden (laid_alloc H1.out H2.out H3.out H4.out HO.out A3.out O3.out rf4 o4 hf4 hat4); clear rf4 o4 hf4 hat4))
  rw [HAF.out] at L4
  clear H1 H2 H3 H4 A3 O3 BO3 d1 c0 c1 c3 cf HAF HO
  obtain ⟨k, hk⟩ : ∃ k, r.L.length = k := ⟨_, rfl⟩
  have HKL : Hid (k < (r.more s t (List.replicate F.length 1)).L.length) := by show _ < _; rw [← hk]; unfold RS.more; simp
  have HWF : Hid (∀ G, (r.more s t (List.replicate F.length 1)).withF k ⟨s.top + 1, t, List.replicate F.length 1⟩ G = r.more s t G) := fun G => by rw [← hk]; exact more_with r s t G _
  clear hk
  generalize hr1 : r.more s t (List.replicate F.length 1) = r1 at *
  have HR1 := hidden hr1
  clear hr1
  obtain ⟨b, hb⟩ : ∃ b : Blk, (⟨s.top + 1, t, List.replicate F.length 1⟩ : Blk) = b := ⟨_, rfl⟩
  have HBF : Hid (b.F = List.replicate F.length 1) := by show _ = _; rw [← hb]
  have HBA : Hid ((b.ad : Int) = addrW W) := by show _ = _; rw [← hb]; exact HXA.out
  rw [hb] at HWF
  have HBL2 : Hid (F.length = b.F.length) := by show _ = _; rw [HBF.out, List.length_replicate]
  clear hb HXA
  go_loopw [33] (fun kv wr => BlockTill w lb p rb r1 k b F had left O kv wr) (fun kv _ => F.length - (intOf kv).toNat)
  case atStart =>
    obtain ⟨O4, q1, q2⟩ := L4.out
    refine ⟨0, s.alloc t F.length, O4, Nat.zero_le _, rfl, ?_, q2⟩
    rw [mixG_zero, HBF.out, HWF.out, HR1.out]
    exact q1
  case round =>
    clear L4
    obtain ⟨j, s2, O2, hj, rfl, hL, hG⟩ := hrel
    have HG := hidden hG
    by_cases hlt : j < F.length
    · have z1 : (j : Int) < ((F.length : Nat) : Int) := by omega
      obtain ⟨c0, c1, c3, cf⟩ := hL.cells
      obtain ⟨a2, cap2, V2, hv2, h1, h2, h3, h4, hO⟩ := hL
      have H1 := hidden h1
      have H2 := hidden h2
      have H3 := hidden h3
      have H4 := hidden h4
      have HO := hidden hO
      have HFI := hidden h2.bo.rep.fits
      obtain ⟨ad, rfl, hx⟩ := HSRC.out.at hG.only hlt
      obtain ⟨v0, v1⟩ := HSRC.out.rng j hlt
      have HMS := hidden (mixG_set HBL2.out (j := j) (by rw [← HBL2.out]; exact hlt))
      have HML : Hid (j < (mixG F b.F j).length) := by show _ < _; rw [mixG_len HBL2.out, ← HBL2.out]; exact hlt
      have HADL : Hid ((ad.add j).block < w.heap.size ∧ ¬ O (ad.add j).block) := by
        obtain ⟨ad', e, q1, q2, _⟩ := HSRC.out.cell j hlt
        cases e
        rw [add_block]
        exact ⟨q1, q2⟩
      generalize F.getD j 0 = fv at *
      clear h1 h2 h3 h4 hO hG
      have HC6 : Hid (∀ w6, Only p.own wr.drew w6 → w6.cell? ⟨lb, 0, none⟩ = some (.pointer (some ⟨p.a, 0, none⟩)) ∧ w6.cell? ⟨lb, 1, none⟩ = some (.pointer (some ⟨rb, 0, none⟩)) ∧ w6.cell? (ad.add j) = some (.int .u64 fv)) := fun w6 o6 => by
        have o7 : Only p.own wr w6 := only_of_drew o6
        have hlb7 := o7.block lb (lt_of_some H1.out) (fun c => aown_ty H2.out H1.out (own_aown _ c))
        refine ⟨(World.cell?_of_block (w := wr) hlb7).trans c0, (World.cell?_of_block (w := wr) hlb7).trans c1, ?_⟩
        refine (World.cell?_of_block (w := wr) (o7.block _ (Nat.lt_of_lt_of_le HADL.out.1 HG.out.only.size) (fun c => ?_))).trans hx
        rcases HG.out.sub _ (HO.out.2.1 _ (own_aown _ c)) with q | q
        · exact HADL.out.2 q
        · have := HADL.out.1; omega
      go_upto_region 8 with fail
      go_region_held3 (fun w' => w'.cell? ⟨lb, 0, none⟩ = some (.pointer (some ⟨p.a, 0, none⟩)) ∧ w'.cell? (ad.add j) = some (.int .u64 fv)) (go_keep) (first | (go_at_call 23; refine (set_any W j fv _ ?_ HFI.out w0 w1 v0 v1).mono ?_; exact H2.out.ar.drewN 1; rintro e w6 ⟨rfl, ha6, o6⟩; obtain ⟨d0, d1, dx⟩ := HC6.out _ o6; have A6 := hidden ha6; have O6 := hidden (only_of_drew o6); clear ha6 o6))
      clear c0 c1 c3 cf hx HC6
      have BO6 : Hid (Both w6.drew p s2 rb (r1.withF k b (mixG F b.F j)) a2 cap2 V2) := (H2.out.left O6.out).drewN 1
      have HC7 : Hid (∀ w7, Only (Rown rb a2) w6.drew w7 → w7.cell? ⟨lb, 1, none⟩ = some (.pointer (some ⟨rb, 0, none⟩)) ∧ w7.cell? (ad.add j) = some (.int .u64 fv)) := fun w7 o7 => by
        have o8 : Only (Rown rb a2) w6 w7 := only_of_drew o7
        refine ⟨(World.cell?_of_block (w := w6) (o8.block lb (Nat.lt_of_lt_of_le (lt_of_some H1.out) O6.out.size) (fun c => aown_ty H2.out H1.out (rown_aown _ c)))).trans d1, ?_⟩
        refine (World.cell?_of_block (w := w6) (o8.block _ (Nat.lt_of_lt_of_le HADL.out.1 (Nat.le_trans HG.out.only.size O6.out.size)) (fun c => ?_))).trans dx
        rcases HG.out.sub _ (HO.out.2.1 _ (rown_aown _ c)) with q | q
        · exact HADL.out.2 q
        · have := HADL.out.1; omega
      go_wp2_with fail
      go_region_held3 (fun w' => w'.cell? ⟨lb, 1, none⟩ = some (.pointer (some ⟨rb, 0, none⟩)) ∧ w'.cell? (ad.add j) = some (.int .u64 fv)) (go_keep) (first | (go_at_call 24; refine (rset_fresh W j fv _ BO6.out w0 w1).mono ?_; rintro e w7 ⟨rfl, r7, V7, rf7, rep7, o7, f7⟩; obtain ⟨k1, kx⟩ := HC7.out _ o7; have R7 := hidden rf7; have P7 := hidden rep7; have O7 := hidden (only_of_drew o7); have F7 := hidden f7; clear rf7 rep7 o7 f7))
      have L7 := hidden (laid_set (b := b) H1.out H2.out H3.out H4.out HO.out HKL.out HBA.out HML.out A6.out O6.out R7.out P7.out O7.out F7.out)
      clear HC7 d0 d1 dx k1 kx
      go_wp2_with fail
      all_goals go_roundw
      case rel =>
        obtain ⟨O7, q1, q2⟩ := L7.out
        refine ⟨j + 1, s2.put W j fv, O7, by omega, by go_num, ?_, HG.out.trans q2⟩
        rw [← HMS.out]
        exact q1
      case measure => simp [intOf]; omega
    · have ej : j = F.length := by omega
      have z1 : ¬ (j : Int) < ((F.length : Nat) : Int) := by omega
      have hL2 : LaidIn wr lb p rb s2 (r.more s t F) had left O2 := by
        have e1 := mixG_all HBL2.out
        have := hL
        rw [ej, HBL2.out, e1, HWF.out] at this
        exact this
      clear hL ej
      obtain ⟨c0, c1, c3, cf⟩ := hL2.cells
      obtain ⟨a2, cap2, V2, hv2, h1, h2, h3, h4, hO⟩ := hL2
      have c2 : wr.cell? ⟨lb, 2, none⟩ = some hv2 := by simp [World.cell?, h1]
      have H1 := hidden h1
      have H2 := hidden h2
      have H3 := hidden h3
      have H4 := hidden h4
      have HO := hidden hO
      have HWR : Hid (R64 W) := ⟨w0, w1⟩
      have q8 := lt_of_some h1
      have c2a : ∀ o, (wr.alloc o).cell? ⟨lb, 2, none⟩ = some hv2 := fun o => (World.cell?_of_block (w := wr) (blk_alloc_lt _ _ _ q8)).trans c2
      clear h1 h2 h3 h4 hO hG
      go_wp2_with (at_builtin; refine appendW _ rfl (.tmp 63) (.tmp 65) rfl hv2 had.length _ rfl (H3.out.alloc _) ⟨wr.heap.size, 0, none⟩ 1 W rfl (by simp [Addr.add]) (by omega) ?_; intro g cq w4 ho4 gr4 hat4 hlt4; obtain ⟨⟨m1, m2⟩, m3⟩ := had_end H1.out H2.out H3.out H4.out HO.out HWR.out gr4 hat4 hlt4 ho4; have M3 := hidden m3; clear ho4 gr4 hat4 hlt4 m3)
      all_goals go_ret
      all_goals refine HBL.out _ _ rfl ?_
      all_goals obtain ⟨O9, q1, q2⟩ := M3.out
      all_goals exact ⟨s2, O9, q1, HG.out.trans q2⟩
/-- What block tells and makes. -/
theorem block_any {al : Option Addr} {F : List Int} {c : Nat} (t : Int) (w : World) (h : LaidIn w lb p rb s r had left O) (hsrc : Src6 w O al F) (hF : F.length ≤ 1000) (hhd : had.length ≤ 100000) :
    Calls Try.prog 10 #[.pointer (some ⟨lb, 0, none⟩), .int .i64 t, .slice al F.length c] w fun e w' => BlockAs w lb p rb s r had left O t F e w' := by
  by_cases he : s.allocE t F.length = 0
  · exact block_yes t w h hsrc hF hhd he
  · exact block_no t w h hF he
end Go.Proofs.Ytcbgjkedmboifab
