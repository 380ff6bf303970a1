/-
  Several small texts in one; each tells at its head what it proves, and on what condition.
-/
import Derived.Test.YthjmakjhidjbaaaGreatP8St
import Derived.Test.YthjmakjhidjbaaaGreatLibAE

/-
 Layer 8, the program's parser: may a patom, a post begin here? Condition: the parser lies in memory.
-/
namespace Go.Proofs.YthjmakjhidjbaaaGreat
open Go.ChangeShapes Go.WideShapes Go.ChangeAt Go.RowKit Go.Deep
set_option linter.unusedVariables false
set_option linter.unusedSimpArgs false
set_option maxHeartbeats 2000000
set_option maxRecDepth 20000

section
variable {c : PC} {w w0 : World} {i : Nat} {L : List Tr} {ao : Option Addr}
theorem Has.alloc (h : Has c w0 w L ao) (o : Obj) : Has c w0 (w.alloc o) L ao := RL.alloc h o
theorem comesL (h : PS c w i) (hi : i ≤ c.ts.length) (ss : List (List UInt8)) (n : Nat) (hn : n = ss.length) (hss : n ≤ 100) (hs : ([] : List UInt8) ∉ ss) {gl : Nat} (hg : w.heap.size = gl) : Calls Tryz.prog 77 #[.pointer (some ⟨c.b, 0, none⟩), .slice (some ⟨gl, 0, none⟩) n n] (w.alloc (.cells (ss.map fun s => Value.string ⟨s.toArray⟩).toArray 9)) fun e w' => e = .returned (.bool (isOne ss (tk c.ts i))) ∧ Below w.heap.size w w' := hg ▸ comesN h hi ss n hn hss hs
theorem comesL1 (h : PS c w i) (hi : i ≤ c.ts.length) (s : List UInt8) (hs : s ≠ []) {gl : Nat} (hg : w.heap.size = gl) : Calls Tryz.prog 77 #[.pointer (some ⟨c.b, 0, none⟩), .slice (some ⟨gl, 0, none⟩) 1 1] (w.alloc (.cells #[.string ⟨s.toArray⟩] 9)) fun e w' => e = .returned (.bool (isS s (tk c.ts i))) ∧ Below w.heap.size w w' := hg ▸ comes1 h hi s hs
theorem comesR (h : PS c w i) (hi : i ≤ c.ts.length) (ss : List (List UInt8)) (n : Nat) (hn : n = ss.length) (hss : n ≤ 100) (hs : ([] : List UInt8) ∉ ss) {r : Bool} (hr : isOne ss (tk c.ts i) = r) {gl : Nat} (hg : w.heap.size = gl) : Calls Tryz.prog 77 #[.pointer (some ⟨c.b, 0, none⟩), .slice (some ⟨gl, 0, none⟩) n n] (w.alloc (.cells (ss.map fun s => Value.string ⟨s.toArray⟩).toArray 9)) fun e w' => e = .returned (.bool r) ∧ Below w.heap.size w w' := hr ▸ comesL h hi ss n hn hss hs hg
theorem comesR1 (h : PS c w i) (hi : i ≤ c.ts.length) (s : List UInt8) (hs : s ≠ []) {r : Bool} (hr : isS s (tk c.ts i) = r) {gl : Nat} (hg : w.heap.size = gl) : Calls Tryz.prog 77 #[.pointer (some ⟨c.b, 0, none⟩), .slice (some ⟨gl, 0, none⟩) 1 1] (w.alloc (.cells #[.string ⟨s.toArray⟩] 9)) fun e w' => e = .returned (.bool r) ∧ Below w.heap.size w w' := hr ▸ comesL1 h hi s hs hg
theorem isOne_in {ts : List Tk} {ss : List (List UInt8)} (h : isOne ss (tk ts i) = true) : i < ts.length := by
 unfold isOne at h
 obtain ⟨s, _, hs⟩ := List.any_eq_true.1 h
 exact isS_in hs
theorem kinds4 (t : Tk) : t.kind = 1 ∨ t.kind = 2 ∨ t.kind = 3 ∨ t.kind = 4 ∨ ((t.kind == 1) = false ∧ (t.kind == 2) = false ∧ (t.kind == 3) = false ∧ (t.kind == 4) = false) := by
 simp only [beq_eq_false_iff_ne]
 omega
theorem patomAhead_k {t : Tk} (h : 1 ≤ t.kind ∧ t.kind ≤ 4) : patomAhead t = true := by
 unfold patomAhead
 rw [decide_eq_true h.1, decide_eq_true h.2]
 rfl
theorem postAhead_k {t : Tk} (h : 1 ≤ t.kind ∧ t.kind ≤ 4) : postAhead t = true := by
 unfold postAhead
 rw [decide_eq_true h.1, decide_eq_true h.2]
 rfl
theorem patomAhead_s {t : Tk} (h : (t.kind == 1) = false ∧ (t.kind == 2) = false ∧ (t.kind == 3) = false ∧ (t.kind == 4) = false) : patomAhead t = isOne [[45], [116, 114, 117, 101], [102, 97, 108, 115, 101], [95], [40], [91], [123]] t := by
 simp only [beq_eq_false_iff_ne] at h
 unfold patomAhead
 have : (decide (1 ≤ t.kind) && decide (t.kind ≤ 4)) = false := by
  rw [Bool.and_eq_false_iff, decide_eq_false_iff_not, decide_eq_false_iff_not]
  omega
 rw [this]
 rfl
theorem postAhead_s {t : Tk} (h : (t.kind == 1) = false ∧ (t.kind == 2) = false ∧ (t.kind == 3) = false ∧ (t.kind == 4) = false) : postAhead t = isOne [[33], [116, 114, 117, 101], [102, 97, 108, 115, 101], [40], [98, 101, 103, 105, 110], [91], [91, 124], [123]] t := by
 simp only [beq_eq_false_iff_ne] at h
 unfold postAhead
 have : (decide (1 ≤ t.kind) && decide (t.kind ≤ 4)) = false := by
  rw [Bool.and_eq_false_iff, decide_eq_false_iff_not, decide_eq_false_iff_not]
  omega
 rw [this]
 simp only [isOne, List.any_cons, List.any_nil, Bool.false_or, Bool.or_false]
 cases isS [33] t <;> simp
theorem begPatom (h : PS c w i) (hi : i ≤ c.ts.length) : Calls Tryz.prog 124 #[.pointer (some ⟨c.b, 0, none⟩)] w fun e w' => e = .returned (.bool (patomAhead (tk c.ts i))) ∧ Below w.heap.size w w' := by
 have H := hidden h
 have f0 := fld0
 have hn := next_any h hi
 rcases kinds4 (tk c.ts i) with hk | hk | hk | hk | hk
 ·rw [patomAhead_k (by omega)]
  rw [hk] at hn
  have HN := hidden hn
  clear h hn hk
  go_enter Tryz.func124, Tryz.ntmps124
  go_wp2_with (go_at_call 39; refine HN.out.mono ?_; rintro e w1 ⟨rfl, hb⟩; have B1 := hidden hb; clear hb)
  go_ret
  exact ⟨rfl, B1.out⟩
 ·rw [patomAhead_k (by omega)]
  rw [hk] at hn
  have HN := hidden hn
  clear h hn hk
  go_enter Tryz.func124, Tryz.ntmps124
  go_wp2_with (go_at_call 39; refine HN.out.mono ?_; rintro e w1 ⟨rfl, hb⟩; have B1 := hidden hb; clear hb)
  go_ret
  exact ⟨rfl, B1.out⟩
 ·rw [patomAhead_k (by omega)]
  rw [hk] at hn
  have HN := hidden hn
  clear h hn hk
  go_enter Tryz.func124, Tryz.ntmps124
  go_wp2_with (go_at_call 39; refine HN.out.mono ?_; rintro e w1 ⟨rfl, hb⟩; have B1 := hidden hb; clear hb)
  go_ret
  exact ⟨rfl, B1.out⟩
 ·rw [patomAhead_k (by omega)]
  rw [hk] at hn
  have HN := hidden hn
  clear h hn hk
  go_enter Tryz.func124, Tryz.ntmps124
  go_wp2_with (go_at_call 39; refine HN.out.mono ?_; rintro e w1 ⟨rfl, hb⟩; have B1 := hidden hb; clear hb)
  go_ret
  exact ⟨rfl, B1.out⟩
 ·rw [patomAhead_s hk]
  obtain ⟨k1, k2, k3, k4⟩ := hk
  have HN := hidden hn
  clear h hn
  generalize (tk c.ts i).kind = kd at *
  go_enter Tryz.func124, Tryz.ntmps124
  go_wp2_with (go_at_call 39; refine HN.out.mono ?_; rintro e w1 ⟨rfl, hb⟩; have B1 := hidden hb; have P1 := hidden (H.out.below hb); clear hb)
  refine (comesL P1.out hi [[45], [116, 114, 117, 101], [102, 97, 108, 115, 101], [95], [40], [91], [123]] 7 rfl (by decide) (by decide) rfl).mono ?_
  rintro e w2 ⟨rfl, hb2⟩
  have B2 := hidden (B1.out.trans (hb2.mono B1.out.size))
  clear hb2
  go_wp2_with fail
  go_ret
  exact ⟨rfl, B2.out⟩
theorem begPost (h : PS c w i) (hi : i ≤ c.ts.length) : Calls Tryz.prog 181 #[.pointer (some ⟨c.b, 0, none⟩)] w fun e w' => e = .returned (.bool (postAhead (tk c.ts i))) ∧ Below w.heap.size w w' := by
 have H := hidden h
 have f0 := fld0
 have hn := next_any h hi
 rcases kinds4 (tk c.ts i) with hk | hk | hk | hk | hk
 ·rw [postAhead_k (by omega)]
  rw [hk] at hn
  have HN := hidden hn
  clear h hn hk
  go_enter Tryz.func181, Tryz.ntmps181
  go_wp2_with (go_at_call 39; refine HN.out.mono ?_; rintro e w1 ⟨rfl, hb⟩; have B1 := hidden hb; clear hb)
  go_ret
  exact ⟨rfl, B1.out⟩
 ·rw [postAhead_k (by omega)]
  rw [hk] at hn
  have HN := hidden hn
  clear h hn hk
  go_enter Tryz.func181, Tryz.ntmps181
  go_wp2_with (go_at_call 39; refine HN.out.mono ?_; rintro e w1 ⟨rfl, hb⟩; have B1 := hidden hb; clear hb)
  go_ret
  exact ⟨rfl, B1.out⟩
 ·rw [postAhead_k (by omega)]
  rw [hk] at hn
  have HN := hidden hn
  clear h hn hk
  go_enter Tryz.func181, Tryz.ntmps181
  go_wp2_with (go_at_call 39; refine HN.out.mono ?_; rintro e w1 ⟨rfl, hb⟩; have B1 := hidden hb; clear hb)
  go_ret
  exact ⟨rfl, B1.out⟩
 ·rw [postAhead_k (by omega)]
  rw [hk] at hn
  have HN := hidden hn
  clear h hn hk
  go_enter Tryz.func181, Tryz.ntmps181
  go_wp2_with (go_at_call 39; refine HN.out.mono ?_; rintro e w1 ⟨rfl, hb⟩; have B1 := hidden hb; clear hb)
  go_ret
  exact ⟨rfl, B1.out⟩
 ·rw [postAhead_s hk]
  obtain ⟨k1, k2, k3, k4⟩ := hk
  have HN := hidden hn
  clear h hn
  generalize (tk c.ts i).kind = kd at *
  go_enter Tryz.func181, Tryz.ntmps181
  go_wp2_with (go_at_call 39; refine HN.out.mono ?_; rintro e w1 ⟨rfl, hb⟩; have B1 := hidden hb; have P1 := hidden (H.out.below hb); clear hb)
  refine (comesL P1.out hi [[33], [116, 114, 117, 101], [102, 97, 108, 115, 101], [40], [98, 101, 103, 105, 110], [91], [91, 124], [123]] 8 rfl (by decide) (by decide) rfl).mono ?_
  rintro e w2 ⟨rfl, hb2⟩
  have B2 := hidden (B1.out.trans (hb2.mono B1.out.size))
  clear hb2
  go_wp2_with fail
  go_ret
  exact ⟨rfl, B2.out⟩
end
end Go.Proofs.YthjmakjhidjbaaaGreat

/-
 Layer 8, the program's parser: methods that tell a row of nodes. No condition but that they lie in memory.
-/
namespace Go.Proofs.YthjmakjhidjbaaaGreat
open Go.ChangeShapes Go.WideShapes Go.ChangeAt Go.RowKit Go.Deep
set_option linter.unusedVariables false
set_option linter.unusedSimpArgs false
set_option maxHeartbeats 2000000
set_option maxRecDepth 20000

/-- What a method tells that makes a row. -/
def GotL (c : PC) (r : Res) (w : World) (e : Ending) (w' : World) : Prop :=
 match r with
 | .ok (x, j) => ∃ (ao : Option Addr) (cp : Nat), e = .returned (.slice ao x.L.length cp) ∧ RL c.pl (fun g => w.heap.size ≤ g) w' x.L ao ∧ PS c w' j ∧ OnlyB c.b w w'
 | .error m => e = .panicked [faultQ (c.pl m)] ∧ OnlyB c.b w w'
/-- Within a method that makes a row. -/
structure Ro (c : PC) (w0 w : World) (i : Nat) (v : Value) (L : List ND) : Prop where
 ps : PS c w i
 on : OnlyB c.b w0 w
 v : NWq c.pl w w0.heap.size c.b v L
 b0 : c.b < w0.heap.size
 g0 : c.g < w0.heap.size
section
variable {c : PC} {w0 w w' : World} {i j : Nat} {v : Value} {L : List ND}
theorem Ro.nil (h : PS c w i) : Ro c w w i (.slice none 0 0) [] := ⟨h, Only.refl _ _, NWq.nil _ _ _ _, h.lt, h.glt⟩
theorem Ro.only (h : Ro c w0 w i v L) (ho : OnlyB c.b w w') (hp : PS c w' j) : Ro c w0 w' j v L := ⟨hp, h.on.trans ho, h.v.only ho h.b0, h.b0, h.g0⟩
theorem Ro.below (h : Ro c w0 w i v L) (hb : Below w.heap.size w w') : Ro c w0 w' i v L := h.only (Only.of_below hb) (h.ps.below hb)
theorem Ro.alloc (h : Ro c w0 w i v L) (o : Obj) : Ro c w0 (w.alloc o) i v L := h.below ((Below.refl _ _).alloc (Nat.le_refl _) _)
theorem Ro.fresh (h : Ro c w0 w i v L) {K : List Tr} {ao : Option Addr} (hl : RL c.pl (fun g => w.heap.size ≤ g) w' K ao) : RL c.pl (fun g => w0.heap.size ≤ g ∧ g ≠ c.b ∧ v.ownBlock ≠ some g) w' K ao := hl.mono (fun g hg _ => ⟨by have := h.on.size; omega, by have := h.ps.lt; omega, fun e => by have := h.v.ownlt e; omega⟩)
theorem Ro.one (h : Ro c w0 w i v L) {x : Tr} {ao : Option Addr} (cp : Nat) (hx : RL c.pl (fun g => w0.heap.size ≤ g ∧ g ≠ c.b ∧ v.ownBlock ≠ some g) w x.L ao) : Ro c w0 (w.alloc (.cells #[.int .i64 x.kind, .int .i64 (c.pl x.pl), .int .i64 x.N, .string ⟨x.S.toArray⟩, .slice ao x.L.length cp] 25)) i (.slice (some ⟨w.heap.size, 0, none⟩) 1 1) [⟨x, ao, cp⟩] := by
 have hz := h.on.size
 have hb := h.b0
 refine ⟨h.ps.alloc _, h.on.alloc _, NWq.one (blk_alloc_new _ _) (by omega) (by omega) ?_, hb, h.g0⟩
 exact (hx.mono (Q := fun g => w0.heap.size ≤ g ∧ g ≠ c.b ∧ g ≠ w.heap.size) (fun g hg hl => ⟨hg.1, hg.2.1, by omega⟩)).alloc _
theorem Ro.grown (h : Ro c w0 w i v L) {v' : Value} {L' : List ND} (hg : w.grownBy w' v.ownBlock) (hv : NWq c.pl w' w0.heap.size c.b v' L') : Ro c w0 w' i v' L' := by
 have ho : Only (fun g => w0.heap.size ≤ g) w w' := grown_only hg (fun g e => h.v.ownB e)
 exact ⟨h.ps.keep ho (by have := h.b0; omega) (by have := h.g0; omega), h.on.transB ho (Nat.le_refl _), hv, h.b0, h.g0⟩
theorem Ro.stop (h : Ro c w0 w i v L) {m : Nat} (ho : OnlyB c.b w w') {R : Res} (hR : R = .error m) : GotL c R w0 (.panicked [faultQ (c.pl m)]) w' := by
 subst hR
 exact ⟨rfl, h.on.trans ho⟩
theorem Ro.ret {ao : Option Addr} {n cp : Nat} (h : Ro c w0 w i (.slice ao n cp) L) {R : Res} (hR : R = .ok (lst (L.map ND.t), i)) {e : Ending} (he : e = .returned (.slice ao n cp)) : GotL c R w0 e w := by
 subst hR he
 obtain ⟨h1, rfl⟩ := h.v.tree
 refine ⟨ao, cp, ?_, h1.mono (fun g hg _ => hg.1), h.ps, h.on⟩
 show _ = Ending.returned (.slice ao (L.map ND.t).length cp)
 rw [List.length_map]
end
/-- While a row grows. -/
def InL (c : PC) (w0 : World) (lo : Nat) (Q : List Tr → Nat → Prop) (gk : Nat) (v : Value) (wr : World) : Prop := ∃ (kk : Nat) (ao : Option Addr) (n cp : Nat) (L : List ND), kk ≤ c.ts.length ∧ lo ≤ kk ∧ L.length ≤ kk ∧ gk = c.ts.length + 1 - kk ∧ v = .slice ao n cp ∧ Ro c w0 wr kk (.slice ao n cp) L ∧ Q (L.map ND.t) kk
/-- Nodes that a slice leads to, as a row's. -/
theorem RL.nds {f : Nat → Int} {P : Nat → Prop} {w : World} {L : List Tr} {ao : Option Addr} (h : RL f P w L ao) (h0 : L ≠ []) : ∃ (g : Nat) (D : List ND), ao = some ⟨g, 0, none⟩ ∧ D.map ND.t = L ∧ (∀ j u, (flat5 f D)[j]? = some u → w.cell? ((Addr.mk g 0 none).add j) = some u) ∧ ∀ d ∈ D, RL f P w d.t.L d.ao := by
 obtain ⟨aos, cps, hc, hr⟩ := h
 have hl : 0 < L.length := List.length_pos_iff.2 h0
 obtain ⟨g, rfl, _⟩ := hc 0 L[0] (List.getElem?_eq_getElem hl)
 refine ⟨g, L.mapIdx (fun k t => ⟨t, aos k, cps k⟩), rfl, ?_, ?_, ?_⟩
 ·apply List.ext_getElem?
  intro k
  simp only [List.getElem?_map, List.getElem?_mapIdx, Option.map_map]
  cases L[k]? <;> rfl
 ·intro m u hu
  have hm : m = m / 5 * 5 + m % 5 := by omega
  have hlt : m < (flat5 f (L.mapIdx (fun k t => (⟨t, aos k, cps k⟩ : ND)))).length := (List.getElem?_eq_some_iff.1 hu).1
  rw [flat5_len, List.length_mapIdx] at hlt
  have hk : m / 5 < L.length := by omega
  have hd : (L.mapIdx (fun k t => (⟨t, aos k, cps k⟩ : ND)))[m / 5]? = some ⟨L[m / 5], aos (m / 5), cps (m / 5)⟩ := by
   rw [List.getElem?_mapIdx, List.getElem?_eq_getElem hk]; rfl
  have h1 := flat5_at f _ (m / 5) (m % 5) _ hd (by omega)
  rw [← hm, hu] at h1
  obtain ⟨g', e, _, c0, c1, c2, c3, c4⟩ := hc (m / 5) L[m / 5] (List.getElem?_eq_getElem hk)
  simp only [Option.some.injEq, Addr.mk.injEq, and_true] at e
  subst e
  have ha : (Addr.mk g 0 none).add m = ⟨g, m, none⟩ := by rw [Addr.add_lit, Nat.zero_add]
  rw [ha, hm]
  have hr5 : m % 5 = 0 ∨ m % 5 = 1 ∨ m % 5 = 2 ∨ m % 5 = 3 ∨ m % 5 = 4 := by omega
  rcases hr5 with e | e | e | e | e <;> rw [e] at h1 ⊢ <;> simp only [ND.cells, List.getElem?_cons_zero, List.getElem?_cons_succ, Option.some.injEq] at h1 <;> subst h1 <;> assumption
 ·intro d hd
  obtain ⟨k, hk, e⟩ := List.mem_mapIdx.1 hd
  rw [← e]
  exact hr k L[k] (List.getElem?_eq_getElem hk)
theorem one_ne1 {t : Tk} {ss : List (List UInt8)} (h : isOne ss t = true) : t.kind ≠ 1 := by
 unfold isOne at h
 obtain ⟨s, _, hs⟩ := List.any_eq_true.1 h
 exact sign_ne1 hs
theorem arms_cons {ts : List Tk} {j q : Nat} {l : Tr} (h : reads ts .arms j = .ok (l, q)) (hj : j ≤ ts.length) : ∃ (m : Nat) (x r : Tr), l = lst (x :: r.L) := by
 rw [reads_eq _ hj] at h
 have key : ∀ k, exec ts (reads ts) (.call .arm fun x => .call .armsR fun r => .ret (lst (x :: r.L))) k = .ok (l, q) → ∃ (m : Nat) (x r : Tr), l = lst (x :: r.L) := fun k e => by
  cases hx : reads ts .arm k with
  | error m => rw [ex_err rfl hx] at e; cases e
  | ok xj =>
   obtain ⟨x, m⟩ := xj
   have e1 := (ex_ok (R := .ok (l, q)) e.symm hx)
   cases hr : reads ts .armsR m with
   | error m' => rw [ex_err rfl hr] at e1; cases e1
   | ok rj =>
    obtain ⟨r, m'⟩ := rj
    have e1' := ex_ok e1 hr
    have e2 := ex_ret e1'
    simp only [Except.ok.injEq, Prod.mk.injEq] at e2
    exact ⟨m, x, r, e2.1⟩
 cases hs : isS [124] (tk ts j) with
 | true => exact key _ (ex_opt (R := .ok (l, q)) h.symm hs).symm
 | false => exact key _ (ex_optN (R := .ok (l, q)) h.symm hs).symm
theorem arms_ne {ts : List Tk} {j q : Nat} {l : Tr} (h : reads ts .arms j = .ok (l, q)) (hj : j ≤ ts.length) : l.L ≠ [] := by
 obtain ⟨_, x, r, rfl⟩ := arms_cons h hj
 exact List.cons_ne_nil _ _
theorem cntL_ge : ∀ l : List Tr, l.length ≤ cntL l
 | [] => Nat.le_refl _
 | x :: l => by
  have := cntL_ge l
  cases x
  simp only [List.length_cons, cntL, Tr.cnt]
  omega
theorem arms_le {ts : List Tk} {j q : Nat} {l : Tr} (h : reads ts .arms j = .ok (l, q)) : l.L.length ≤ q := by
 have h1 : PL j q l.L := reads_post h
 have := h1.2
 have := cntL_ge l.L
 omega
end Go.Proofs.YthjmakjhidjbaaaGreat

/-
 Layer 8, the program's parser: a variable that holds a tree and is set anew. No condition but that they lie in memory.
-/
namespace Go.Proofs.YthjmakjhidjbaaaGreat
open Go.ChangeShapes Go.WideShapes Go.ChangeAt Go.RowKit Go.Deep
set_option linter.unusedVariables false
set_option linter.unusedSimpArgs false
set_option maxHeartbeats 2000000
set_option maxRecDepth 20000

/-- A variable at q holds the tree x. -/
structure Va (c : PC) (w0 w : World) (i q : Nat) (x : Tr) (ao : Option Addr) (cp : Nat) : Prop where
 st : St c w0 w i
 n : B5 w q x.kind (c.pl x.pl) x.N ⟨x.S.toArray⟩ (.slice ao x.L.length cp)
 rl : RL c.pl (fun g => w0.heap.size + 1 ≤ g ∧ g ≠ q) w x.L ao
 hq : w0.heap.size < q
section
variable {c : PC} {w0 w w' : World} {i j q : Nat} {x y : Tr} {ao ao' : Option Addr} {cp cp' : Nat}
theorem Va.only (h : Va c w0 w i q x ao cp) (ho : OnlyB c.b w w') (hp : PS c w' j) : Va c w0 w' j q x ao cp := ⟨h.st.only ho hp, h.n.only ho (by have := h.st.b0; have := h.hq; omega), h.rl.onlyQ ho (fun g hg => by have := h.st.b0; omega), h.hq⟩
theorem Va.below (h : Va c w0 w i q x ao cp) (hb : Below w.heap.size w w') : Va c w0 w' i q x ao cp := h.only (Only.of_below hb) (h.st.ps.below hb)
theorem Va.alloc (h : Va c w0 w i q x ao cp) (o : Obj) : Va c w0 (w.alloc o) i q x ao cp := h.below ((Below.refl _ _).alloc (Nat.le_refl _) _)
theorem Va.drew (h : Va c w0 w i q x ao cp) : Va c w0 w.drew i q x ao cp := ⟨h.st.drew, h.n, h.rl.keep (fun _ _ _ => rfl), h.hq⟩
theorem Va.new (h : St c w0 w i) (hx : Has c w0 w x.L ao) (cp : Nat) : Va c w0 (w.alloc (.cells #[.int .i64 x.kind, .int .i64 (c.pl x.pl), .int .i64 x.N, .string ⟨x.S.toArray⟩, .slice ao x.L.length cp] 25)) i w.heap.size x ao cp := ⟨h.alloc _, B5.new _ _ _ _ _ _, (hx.mono (Q := fun g => w0.heap.size + 1 ≤ g ∧ g ≠ w.heap.size) (fun g hg hl => by omega)).alloc _, h.size⟩
theorem Va.has (h : Va c w0 w i q x ao cp) : Has c w0 w x.L ao := h.rl.mono (fun g hg _ => hg.1)
theorem St.fillq (h : St c w0 w i) (hq : w0.heap.size < q) (a b d : Int) (s : ByteArray) (v : Value) : St c w0 (fill5 w q a b d s v) i := ((((h.set (a := ⟨q, 0, none⟩) hq _).set (a := ⟨q, 1, none⟩) hq _).set (a := ⟨q, 2, none⟩) hq _).set (a := ⟨q, 3, none⟩) hq _).set (a := ⟨q, 4, none⟩) hq _
/-- It is set to another tree. -/
theorem Va.put (h : Va c w0 w i q x ao cp) (hy : RL c.pl (fun g => w0.heap.size + 1 ≤ g ∧ g ≠ q) w y.L ao') (cp' : Nat) : Va c w0 (fill5 w q y.kind (c.pl y.pl) y.N ⟨y.S.toArray⟩ (.slice ao' y.L.length cp')) i q y ao' cp' := ⟨h.st.fillq h.hq _ _ _ _ _, h.n.fill _ _ _ _ _, hy.fill5 (fun g hg => hg.2) _ _ _ _ _, h.hq⟩
/-- It is wrapped. -/
theorem Va.wrap (h : Va c w0 w i q x ao cp) (k : Int) (pl : Nat) (N : Int) (s : List UInt8) : Va c w0 ((fill5 w q k (c.pl pl) N ⟨s.toArray⟩ (.slice (some ⟨w.heap.size, 0, none⟩) 1 1)).alloc (.cells #[.int .i64 x.kind, .int .i64 (c.pl x.pl), .int .i64 x.N, .string ⟨x.S.toArray⟩, .slice ao x.L.length cp] 25)) i q (.mk k pl N s [x]) (some ⟨w.heap.size, 0, none⟩) 1 := by
 have hq := h.n.lt
 have hz := h.st.size
 refine ⟨(h.st.fillq h.hq _ _ _ _ _).alloc _, (h.n.fill _ _ _ _ _).alloc _, RL.one (fill_new _ _ _ _ _ _ _ _ _) ⟨by omega, by omega⟩ ?_, h.hq⟩
 exact (h.rl.fill5 (fun g hg => hg.2) _ _ _ _ _).alloc _
/-- It is wrapped, the row laid ahead. -/
theorem Va.wrapAt {g : Nat} (h : Va c w0 w i q x ao cp) (hr : Lc c w0 w g x.kind (c.pl x.pl) x.N ⟨x.S.toArray⟩ (.slice ao x.L.length cp)) (hne : g ≠ q) (k : Int) (pl : Nat) (N : Int) (s : List UInt8) : Va c w0 (fill5 w q k (c.pl pl) N ⟨s.toArray⟩ (.slice (some ⟨g, 0, none⟩) 1 1)) i q (.mk k pl N s [x]) (some ⟨g, 0, none⟩) 1 :=
 h.put (y := .mk k pl N s [x]) (RL.one hr.n ⟨hr.hq, hne⟩ h.rl) 1
/-- It becomes a node that parts are added to. -/
theorem Va.toMk (h : Va c w0 w i q x ao cp) (k p N : Int) (s : ByteArray) : Mk c w0 ((fill5 w q k p N s (.slice (some ⟨w.heap.size, 0, none⟩) 1 1)).alloc (.cells #[.int .i64 x.kind, .int .i64 (c.pl x.pl), .int .i64 x.N, .string ⟨x.S.toArray⟩, .slice ao x.L.length cp] 25)) i q k p N s (.slice (some ⟨w.heap.size, 0, none⟩) 1 1) [⟨x, ao, cp⟩] := by
 have hq := h.n.lt
 have hz := h.st.size
 refine ⟨(h.st.fillq h.hq _ _ _ _ _).alloc _, (h.n.fill _ _ _ _ _).alloc _, NWq.one (fill_new _ _ _ _ _ _ _ _ _) (by omega) (by omega) ?_, h.hq⟩
 exact ((h.rl.mono (Q := fun g => w0.heap.size + 1 ≤ g ∧ g ≠ q ∧ g ≠ w.heap.size) (fun g hg hl => ⟨hg.1, hg.2, by omega⟩)).fill5 (fun g hg => hg.2.1) _ _ _ _ _).alloc _
theorem Va.ret (h : Va c w0 w i q x ao cp) {R : Res} (hR : R = .ok (x, i)) {e : Ending} (he : e = .returned (.agg #[.int .i64 x.kind, .int .i64 (c.pl x.pl), .int .i64 x.N, .string ⟨x.S.toArray⟩, .slice ao x.L.length cp])) : Got8 c R w0 e (fill5 w w0.heap.size x.kind (c.pl x.pl) x.N ⟨x.S.toArray⟩ (.slice ao x.L.length cp)) := h.st.ret h.has hR he
end
/-- While it is set anew. -/
def InV (c : PC) (w0 : World) (lo : Nat) (Q : Tr → Nat → Prop) (q : Nat) (gk : Nat) (wr : World) : Prop := ∃ (kk : Nat) (x : Tr) (ao : Option Addr) (cp : Nat), kk ≤ c.ts.length ∧ lo ≤ kk ∧ gk = c.ts.length + 1 - kk ∧ Va c w0 wr kk q x ao cp ∧ Q x kk
/-- What a method tells that wraps a tree at P. -/
def GotP (c : PC) (P : Nat → Prop) (r : Res) (w : World) (e : Ending) (w' : World) : Prop :=
 match r with
 | .ok (x, j) => ∃ (ao : Option Addr) (cp : Nat), e = .returned (.agg #[.int .i64 x.kind, .int .i64 (c.pl x.pl), .int .i64 x.N, .string ⟨x.S.toArray⟩, .slice ao x.L.length cp]) ∧ RL c.pl (fun g => P g ∨ w.heap.size ≤ g) w' x.L ao ∧ PS c w' j ∧ OnlyB c.b w w'
 | .error m => e = .panicked [faultQ (c.pl m)] ∧ OnlyB c.b w w'
end Go.Proofs.YthjmakjhidjbaaaGreat

/-
 Layer 8, the program's parser: what rules that join in a row, and from the left, have caught. No condition but that it lies in memory.
-/
namespace Go.Proofs.YthjmakjhidjbaaaGreat
open Go.ChangeShapes Go.WideShapes Go.ChangeAt Go.RowKit Go.Deep
set_option linter.unusedVariables false
set_option linter.unusedSimpArgs false
set_option maxHeartbeats 2000000
set_option maxRecDepth 20000

structure FI (c : PC) (w : World) (s k1 : Nat) (kd : Int) (sg : List UInt8) : Prop where
 p : w.cell? ⟨s, 0, none⟩ = some (.pointer (some ⟨c.b, 0, none⟩))
 nx : w.cell? ⟨s + 1, 0, none⟩ = some (.func (.func k1) #[.pointer (some ⟨c.b, 0, none⟩)] #[])
 kn : w.cell? ⟨s + 2, 0, none⟩ = some (.int .i64 kd)
 sn : w.cell? ⟨s + 3, 0, none⟩ = some (.string ⟨sg.toArray⟩)
structure FL (c : PC) (w : World) (s k1 gl n : Nat) (ss : List (List UInt8)) : Prop where
 p : w.cell? ⟨s, 0, none⟩ = some (.pointer (some ⟨c.b, 0, none⟩))
 nx : w.cell? ⟨s + 1, 0, none⟩ = some (.func (.func k1) #[.pointer (some ⟨c.b, 0, none⟩)] #[])
 sn : w.cell? ⟨s + 2, 0, none⟩ = some (.slice (some ⟨gl, 0, none⟩) n n)
 ls : LS w gl ss
section
variable {c : PC} {w w' w0 : World} {i s k1 gl n : Nat} {kd : Int} {sg : List UInt8} {ss : List (List UInt8)}
theorem FI.only (h : FI c w s k1 kd sg) (k : OnlyB c.b w w') (hs : c.b < s) : FI c w' s k1 kd sg := ⟨only_cell k (by omega) h.p, only_cell k (by omega) h.nx, only_cell k (by omega) h.kn, only_cell k (by omega) h.sn⟩
theorem FI.lt (h : FI c w s k1 kd sg) : s + 3 < w.heap.size := cell_lt h.sn
theorem FL.only (h : FL c w s k1 gl n ss) (k : OnlyB c.b w w') (hs : c.b < s) (hg : c.b ≠ gl) : FL c w' s k1 gl n ss := ⟨only_cell k (by omega) h.p, only_cell k (by omega) h.nx, only_cell k (by omega) h.sn, fun j hj => only_cell k (by intro e; exact hg e.symm) (h.ls j hj)⟩
theorem FL.lt (h : FL c w s k1 gl n ss) : s + 2 < w.heap.size := cell_lt h.sn
theorem inF (c : PC) (w : World) (k1 : Nat) (kd : Int) (sg : List UInt8) : Calls Tryz.prog 127 #[.pointer (some ⟨c.b, 0, none⟩), .func (.func k1) #[.pointer (some ⟨c.b, 0, none⟩)] #[], .int .i64 kd, .string ⟨sg.toArray⟩] w fun e w' => ∃ s, e = .returned (.func (.func 150) #[] #[.pointer (some ⟨s + 1, 0, none⟩), .pointer (some ⟨s, 0, none⟩), .pointer (some ⟨s + 3, 0, none⟩), .pointer (some ⟨s + 2, 0, none⟩)]) ∧ FI c w' s k1 kd sg ∧ w.heap.size ≤ s ∧ Below w.heap.size w w' := by
 have hmf : ∀ (fn : Fn) (first cap : Array Value) (w : World), (Instr.makeFunc fn first cap).run Tryz.prog w = .ok (.func fn first cap) w := fun _ _ _ _ => rfl
 go_enter Tryz.func127, Tryz.ntmps127
 go_wp2_with fail
 go_ret
 exact ⟨w.heap.size, rfl, ⟨cellL (cellL (cellL (cellN _ _ _ rfl) _) _) _, cellL (cellL (cellN _ _ _ (by simp only [nblk_alloc])) _) _, cellL (cellN _ _ _ (by simp only [nblk_alloc])) _, cellN _ _ _ (by simp only [nblk_alloc])⟩, Nat.le_refl _, ((((Below.refl _ _).alloc (Nat.le_refl _) _).alloc (by simp only [nblk_alloc]; omega) _).alloc (by simp only [nblk_alloc]; omega) _).alloc (by simp only [nblk_alloc]; omega) _⟩
theorem leftF (c : PC) (w : World) (k1 gl n : Nat) (ss : List (List UInt8)) (hl : LS w gl ss) : Calls Tryz.prog 171 #[.pointer (some ⟨c.b, 0, none⟩), .func (.func k1) #[.pointer (some ⟨c.b, 0, none⟩)] #[], .slice (some ⟨gl, 0, none⟩) n n] w fun e w' => ∃ s, e = .returned (.func (.func 173) #[] #[.pointer (some ⟨s + 1, 0, none⟩), .pointer (some ⟨s, 0, none⟩), .pointer (some ⟨s + 2, 0, none⟩)]) ∧ FL c w' s k1 gl n ss ∧ w.heap.size ≤ s ∧ Below w.heap.size w w' := by
 have hmf : ∀ (fn : Fn) (first cap : Array Value) (w : World), (Instr.makeFunc fn first cap).run Tryz.prog w = .ok (.func fn first cap) w := fun _ _ _ _ => rfl
 have HL := hidden hl
 clear hl
 go_enter Tryz.func171, Tryz.ntmps171
 go_wp2_with fail
 go_ret
 have hb : Below w.heap.size w (((w.alloc (.cells #[.pointer (some ⟨c.b, 0, none⟩)] 63)).alloc (.cells #[.func (.func k1) #[.pointer (some ⟨c.b, 0, none⟩)] #[]] 108)).alloc (.cells #[.slice (some ⟨gl, 0, none⟩) n n] 41)) := (((Below.refl _ _).alloc (Nat.le_refl _) _).alloc (by simp only [nblk_alloc]; omega) _).alloc (by simp only [nblk_alloc]; omega) _
 exact ⟨w.heap.size, rfl, ⟨cellL (cellL (cellN _ _ _ rfl) _) _, cellL (cellN _ _ _ (by simp only [nblk_alloc])) _, cellN _ _ _ (by simp only [nblk_alloc]), HL.out.below hb⟩, Nat.le_refl _, hb⟩
end
/-- A part; or, where a sign stands behind it, a node of several. -/
def inR (ts : List Tk) (n1 T : NT) (sg : List UInt8) (kd : Int) (i : Nat) : Res := match reads ts n1 i with
 | .error m => .error m
 | .ok (x, j) => if isS sg (tk ts j) then exec ts (reads ts) (.call T fun r => .ret (.mk kd j 0 [] ([x] ++ r.L))) j else .ok (x, j)
theorem in_of {ts : List Tk} {n n1 T : NT} {sg : List UInt8} {kd : Int} {i : Nat} (hb : body n = .call n1 fun x => .here fun a => .skip sg (.call n1 fun y => .call T fun r => .ret (.mk kd a 0 [] (x :: y :: r.L))) (.ret x)) (ht : body T = .skip sg (.call n1 fun x => .call T fun r => .ret (lst (x :: r.L))) (.ret (lst []))) (hi : i ≤ ts.length) : reads ts n i = inR ts n1 T sg kd i := by
 rw [reads_eq n hi, hb]
 unfold inR
 have hf := reads_fine (ts := ts) n1 hi
 cases hx : reads ts n1 i with
 | error m => exact ex_err rfl hx
 | ok xj =>
  obtain ⟨x, j⟩ := xj
  rw [hx] at hf
  have hj : j ≤ ts.length := hf.2.1
  refine Eq.trans (ex_ok rfl hx) ?_
  show exec ts (reads ts) (.skip sg (.call n1 fun y => .call T fun r => .ret (.mk kd j 0 [] (x :: y :: r.L))) (.ret x)) j = (if isS sg (tk ts j) then exec ts (reads ts) (.call T fun r => .ret (.mk kd j 0 [] ([x] ++ r.L))) j else .ok (x, j))
  cases hs : isS sg (tk ts j) with
  | false => exact ex_skipN rfl hs
  | true =>
   refine Eq.trans (ex_skip rfl hs) ?_
   rw [if_pos rfl]
   exact (tail_skip (T := T) (C := fun l => .ret (.mk kd j 0 [] l)) (acc := [x]) ht hj rfl hs).symm
theorem in_err {ts : List Tk} {n1 T : NT} {sg : List UInt8} {kd : Int} {i m : Nat} {R : Res} (h : R = inR ts n1 T sg kd i) (e : reads ts n1 i = .error m) : R = .error m := by rw [h]; unfold inR; rw [e]
theorem in_ok {ts : List Tk} {n1 T : NT} {sg : List UInt8} {kd : Int} {i j : Nat} {x : Tr} {R : Res} (h : R = inR ts n1 T sg kd i) (e : reads ts n1 i = .ok (x, j)) : R = (if isS sg (tk ts j) then exec ts (reads ts) (.call T fun r => .ret (.mk kd j 0 [] ([x] ++ r.L))) j else .ok (x, j)) := by rw [h]; unfold inR; rw [e]
/-- A part, and what joins it from the left. -/
structure LeftE (ts : List Tk) (n1 : NT) (ss : List (List UInt8)) (f : Tr → Nat → Res) : Prop where
 go : ∀ x k, k ≤ ts.length → isOne ss (tk ts k) = true → f x k = (match reads ts n1 (k + 1) with | .error m => .error m | .ok (y, m) => f (.mk 29 k 0 (tk ts k).S [x, y]) m)
 no : ∀ x k, k ≤ ts.length → isOne ss (tk ts k) = false → f x k = .ok (x, k)
theorem isOne_mem {ss : List (List UInt8)} {t : Tk} (h : isOne ss t = true) : t.S ∈ ss := by
 unfold isOne at h
 obtain ⟨s, h1, h2⟩ := List.any_eq_true.1 h
 unfold isS at h2
 rw [Bool.and_eq_true, beq_iff_eq (b := s)] at h2
 exact h2.2 ▸ h1
theorem left_of {ts : List Tk} {lv : Nat} (hl : leftAt lv = true) (hn : ∀ s ∈ signsAt lv, s ≠ [58, 58]) : LeftE ts (.join (lv + 1)) (signsAt lv) (fun x k => reads ts (.joinR lv x) k) := by
 refine ⟨fun x k hk e => ?_, fun x k hk e => ?_⟩
 ·show reads ts (.joinR lv x) k = _
  rw [reads_eq (.joinR lv x) hk]
  have hlt := isOne_in (ts := ts) e
  have h1 : exec ts (reads ts) (body (.joinR lv x)) k = exec ts (reads ts) (.call (.join (lv + 1)) fun y => .call (.joinR lv (mkJ (tk ts k).S k x y)) .ret) (k + 1) := ex_eat (kt := fun t => .call (.join (lv + 1)) fun y => .call (.joinR lv (mkJ t.S k x y)) .ret) (ex_yes (z := .ret x) rfl e) hlt
  rw [h1]
  have hm : ∀ y, mkJ (tk ts k).S k x y = .mk 29 k 0 (tk ts k).S [x, y] := fun y => by
   unfold mkJ
   rw [if_neg]
   simpa using hn _ (isOne_mem e)
  simp only [exec, hm]
  cases reads ts (.join (lv + 1)) (k + 1) with
  | error m => rfl
  | ok ym =>
   obtain ⟨y, m⟩ := ym
   simp only
   cases reads ts (.joinR lv (.mk 29 k 0 (tk ts k).S [x, y])) m with
   | error m => rfl
   | ok z => rfl
 ·show reads ts (.joinR lv x) k = _
  rw [reads_eq (.joinR lv x) hk]
  exact ex_no (p := isOne (signsAt lv)) (y := .eat fun t => .call (.join (lv + 1)) fun y => .call (.joinR lv (mkJ t.S k x y)) .ret) rfl e
end Go.Proofs.YthjmakjhidjbaaaGreat

/-
 A region that draws its order: one of three may come up. No program is named.
-/
namespace Go.Proofs.YthjmakjhidjbaaaGreat
section
variable {P : Program} {ops : Array Oper} {Q : Exit → Act → World → Prop} {md : Region.Mode} {S : World → Prop} {kz : Nat}
theorem AnyTill.three {i j k : Nat} {o o' o'' : Oper} {n : Nat} {done : Array Bool} {a : Act} {w : World} (hr : Region.ready md ops done = [i, j, k]) (ho : ops[i]? = some o) (ho' : ops[j]? = some o') (ho'' : ops[k]? = some o'')
  (h : ∀ K : Act → World → Prop, Shut (∀ b u, (i ≠ kz → S u) → AnyTill P md ops Q S kz n (done.setIfInBounds i true) b u → K b u) → if Region.wanted o (yielded ops a.tmps) = true then Oper.wp P o a w K Q else K (a.put o.dst undef) w)
  (h' : ∀ K : Act → World → Prop, Shut (∀ b u, (j ≠ kz → S u) → AnyTill P md ops Q S kz n (done.setIfInBounds j true) b u → K b u) → if Region.wanted o' (yielded ops a.tmps) = true then Oper.wp P o' a w K Q else K (a.put o'.dst undef) w)
  (h'' : ∀ K : Act → World → Prop, Shut (∀ b u, (k ≠ kz → S u) → AnyTill P md ops Q S kz n (done.setIfInBounds k true) b u → K b u) → if Region.wanted o'' (yielded ops a.tmps) = true then Oper.wp P o'' a w K Q else K (a.put o''.dst undef) w) :
  AnyTill P md ops Q S kz (n + 1) done a w := by
 refine ⟨fun h0 => (by rw [hr] at h0; cases h0), fun m hk => ?_⟩
 rw [hr] at hk
 have e : m = i ∨ m = j ∨ m = k := by simpa using hk
 rcases e with e | e | e
 ·subst e
  exact wpOp_step ho (fun K hK => h K (fun b u h1 h2 => hK b u ⟨h1, h2⟩))
 ·subst e
  exact wpOp_step ho' (fun K hK => h' K (fun b u h1 h2 => hK b u ⟨h1, h2⟩))
 ·subst e
  exact wpOp_step ho'' (fun K hK => h'' K (fun b u h1 h2 => hK b u ⟨h1, h2⟩))
end
end Go.Proofs.YthjmakjhidjbaaaGreat
