/-
  Layer 5: the calls whose answers the document fixes are answered so, where the program's text does as the document's own (TextC, LayC).
-/
import Derived.Test.YtlhcleocdlnbdaaT5Plain
namespace Go.Proofs.Ytlhcleocdlnbdaa
open Go.ChangeShapes Go.WideShapes Go.ChangeAt Go.RowKit Go.Deep
set_option linter.unusedVariables false
set_option maxHeartbeats 1000000

variable {s s' : St} {r r' : RS} {x y i : Int} {l l' : List UInt8}
/-- A field of a block, read. -/
theorem get_blk {k j : Nat} {b : Blk} (h : Rep s r) (hb : r.L[k]? = some b) (hx : (b.ad : Int) = addrW x) (hj : j < b.F.length) : s.fieldE x j = 0 ∧ s.get x j = b.F.getD j 0 := by
  have hf := h.find_blk' hb hx
  have he := (rep_put (v := 0) (i := j) h hb (by rw [hf]) hj).1
  refine ⟨he, ?_⟩
  unfold St.get
  rw [if_pos he, hf]
  show s.C ((b.ad : Int) + j).toNat = _
  rw [show ((b.ad : Int) + j).toNat = b.ad + j from by omega, List.getD_eq_getElem?_getD, List.getElem?_eq_getElem hj]
  exact h.fld k b hb _ _ (List.getElem?_eq_getElem hj)
theorem get_text (h : Rep s r) (e : textAt s r x = (some l, 0)) {j : Nat} (hj : j < l.length / 8 + 1) : s.fieldE x j = 0 ∧ s.get x j = (fieldsT l).getD j 0 := by
  obtain ⟨k, b, hk, hx, _, _, ht, _⟩ := text_is h e
  have hF := (textF_tag ht).2
  have := get_blk h hk hx (j := j) (by rw [hF, fieldsT_len]; exact hj)
  rw [hF] at this
  exact this
theorem size_text (h : Rep s r) (e : textAt s r x = (some l, 0)) : s.size x = ((l.length / 8 + 1 : Nat) : Int) := by
  obtain ⟨k, b, hk, hx, _, _, ht, _⟩ := text_is h e
  have hf := h.find_blk' hk hx
  have hin := h.inside hk
  have hF := (textF_tag ht).2
  unfold St.size
  rw [if_neg (by rw [hf]; show ¬ (b.ad : Int) = 0; omega), hf]
  have := (h.tagAt hk).2
  rw [hF, fieldsT_len] at this
  exact this
/-- The first text that is laid. -/
theorem lay_first {n : Nat} (X : Nat → Int) (m : Nat) (l : List UInt8) (h1 : 2 ≤ n) (h2 : n ≤ 32768) (hl : l.length ≤ 4096) (hn : l.length / 8 + 2 ≤ n) : (layOf ⟨n, 0, []⟩ 0 m X l).1 = 0 ∧ (layOf ⟨n, 0, []⟩ 0 m X l).2.1 = 2 := by
  have hg : Good (St.new n) ⟨n, 0, []⟩ := ⟨rep_new n, fun _ => Int.le_refl _, fun _ => by show (0 : Int) ≤ _; omega, h1, h2, Nat.zero_le _⟩
  have hp := pick_good hg
  have g : (pick ⟨n, 0, []⟩).allocE 202 (sizeT l) = 0 := by
    rw [← agree_allocE hg hp]
    unfold St.allocE sizeT
    rw [if_neg (by decide), if_neg (by omega), if_neg (by show ¬ ((0 : Nat) : Int) + (n : Int) < ((0 : Nat) : Int) + _ + 1; omega)]
  unfold layOf
  rw [if_neg (by omega), if_pos g]
  refine ⟨rfl, ?_⟩
  show (pick ⟨n, 0, []⟩).allocW 202 (sizeT l) = 2
  unfold St.allocW
  rw [if_pos g, ← agree_top hg hp]
  rfl
theorem abc_word : (fieldsT [97, 98, 99]).getD 0 0 = 288230376158224993 := by decide
theorem byte_of (e : textAt s r x = (some l, 0)) (i : Int) : byteAt s r x i = byteOut (some l) i := by
  unfold byteAt
  rw [e, if_neg (by show ¬ (0 : Int) = 6; decide)]
set_option maxRecDepth 100000 in
theorem awake5_any (H : TextC) (HL : LayC) : AwakeC := by
  intro w
  have HH := hidden H
  have HLY := hidden HL
  have HC : Hid (Value.int .u8 120 = u8v 120) := rfl
  clear H HL
  go_enter Try.func8, Try.ntmps8
  go_upto_region 5 with (first
    | (go_at_call 9; refine (mNew_yes 40 _ (by omega) (by omega)).mono ?_; rintro e w1 ⟨kb, p, rfl, pi1, b1, hp1⟩; obtain ⟨c0, c1, c2⟩ := pi1.cells; have PI1 := hidden pi1; have B1 := hidden b1; have HP := hidden hp1; clear pi1 b1 hp1)
    | (go_at_call 14; refine (mArena (p := p) _ PI1.out.cells.1).mono ?_; rintro e w' ⟨rfl, hw'⟩; rw [hw']; clear hw' w')
    | (go_at_call 11; refine (HLY.out.lay (X := fun _ => 0) (al := none) (n := 0) (c := 0) ⟨#[97, 98, 99]⟩ _ PI1.out ⟨fun _ => ⟨rfl, rfl⟩, fun i hi => absurd hi (Nat.not_lt_zero _), fun i hi => absurd hi (Nat.not_lt_zero _), fun i hi => absurd hi (Nat.not_lt_zero _)⟩ (by omega)).mono ?_; rw [show bytesS ⟨#[97, 98, 99]⟩ = [97, 98, 99] from rfl]; rintro e w2 ⟨s2, now2, rfl, pi2, on2, _, h02⟩; obtain ⟨e0, eW⟩ := lay_first (n := 40) (fun _ => 0) 0 [97, 98, 99] (by omega) (by omega) (by decide) (by decide); obtain ⟨al2, c2', rfl, _⟩ := h02 e0; have tx := (lay_read (s1 := s2) (k := 0) (n := 0) (X := fun _ => 0) [97, 98, 99] (pick_good PI1.out.good) w e0 pi2.rep).1; rw [eW] at tx; rw [e0, eW]; obtain ⟨r2, k2, pi22, tx2⟩ : ∃ r2 k2, PI kb p w2 s2 r2 k2 ∧ textAt s2 r2 2 = (some [97, 98, 99], 0) := ⟨_, _, pi2, tx⟩; have PI2 := hidden pi22; have TX2 := hidden tx2; have B2 : Hid (Below w.heap.size w w2) := B1.out.trans (on2.below B1.out.size (fun q hq hp => by have := HP.out q hp; omega)); clear pi2 tx pi22 tx2 on2 h02 e0 eW))
  clear c0 c1 c2 B1 PI1
  obtain ⟨gE, gV⟩ := get_text PI2.out.rep TX2.out (j := 0) (by decide)
  rw [abc_word] at gV
  have GE := hidden gE
  have GV := hidden gV
  have B22 : Hid ((byteAt s2 r2 2 2).2 = 0) := by show _ = _; rw [byte_of TX2.out]; decide
  clear gE gV
  go_upto_region 8 with (first
    | (go_at_call 14; refine (mArena (p := p) _ (by first | exact PI4.out.cells.1 | exact PI3.out.cells.1 | exact PI2.out.cells.1)).mono ?_; rintro e w' ⟨rfl, hw'⟩; rw [hw']; clear hw' w')
    | (go_at_call 22; refine (get_at 2 0 288230376158224993 0 _ PI2.out.ar PI2.out.rep.fits (by omega) (by omega) GV.out GE.out).mono ?_; rintro e w3 ⟨rfl, m3, hw3⟩; have PI3 : Hid (PI kb p w3 s2 r2 k2) := by { show PI _ _ _ _ _ _; rw [hw3]; exact PI2.out.below (below_drews _ _) rfl }; have B3 : Hid (Below w.heap.size w w3) := by { show Below _ _ _; rw [hw3]; exact below_drewN B2.out _ }; clear hw3)
    | (go_at_call 20; refine (HH.out.put 2 2 120 _ PI3.out.ar PI3.out.rep (by omega) (by omega)).mono ?_; rintro e w4 ⟨rfl, s4, ar4, rep4, on4⟩; rw [B22.out]; have TX4 := hidden (put_text PI3.out.rep TX2.out (by omega) (by decide) 120 rep4); have PI4 := hidden (PI3.out.moved ar4 rep4 on4); have B4 : Hid (Below w.heap.size w w4) := B3.out.trans (on4.below B3.out.size (fun q hq hp => by have := HP.out q (Or.inr (Or.inr hp)); omega)); clear ar4 rep4 on4)
    | (go_at_call 15; refine (HH.out.read 2 _ PI4.out.ar PI4.out.rep (by omega) (by omega)).mono ?_; rw [TX4.out]; rintro e w5 ⟨rfl, hb5⟩; have PI5 := hidden (PI4.out.below hb5 rfl); have B5 := hidden (B4.out.trans (hb5.mono B4.out.size)); clear hb5))
  generalize putR s2 r2 2 2 120 = r4 at *
  have B33 : Hid ((byteAt s4 r4 2 3).2 = 2) := by show _ = _; rw [byte_of TX4.out]; decide
  go_wp2_with (first
    | (go_at_call 14; refine (mArena (p := p) _ PI5.out.cells.1).mono ?_; rintro e w' ⟨rfl, hw'⟩; rw [hw']; clear hw' w')
    | (go_at_call 20; refine (HH.out.put 2 3 120 _ PI5.out.ar PI5.out.rep (by omega) (by omega)).mono ?_; rintro e w6 ⟨rfl, s6, ar6, rep6, on6⟩; rw [B33.out]; have B6 : Hid (Below w.heap.size w w6) := B5.out.trans (on6.below B5.out.size (fun q hq hp => by have := HP.out q (Or.inr (Or.inr hp)); omega)); clear ar6 rep6 on6))
  all_goals go_ret
  all_goals exact ⟨rfl, B6.out⟩
end Go.Proofs.Ytlhcleocdlnbdaa
