/-
  Layer 5, the program's Put: what becomes of a text when a byte is put. Condition: the arena lies in memory, in one state with a list of blocks.
-/
import Derived.Test.YtlhcleocdlnbdaaE5Byte
namespace Go.Proofs.Ytlhcleocdlnbdaa
open Go.ChangeShapes Go.WideShapes Go.ChangeAt Go.RowKit Go.Deep
set_option linter.unusedVariables false
set_option maxHeartbeats 1000000

variable {w : World} {p : Pl} {s : St} {r : RS}
/-- One of eight bytes is put. -/
def setF (f : Nat → UInt8) (m : Nat) (c : UInt8) (i : Nat) : UInt8 := if i = m then c else f i
theorem setF_list (f : Nat → UInt8) {m : Nat} (hm : m < 8) (c : UInt8) : listF (setF f m c) = (listF f).set m c := by
  refine listF_eq (by rw [List.length_set]; rfl) (fun i hi => ?_)
  unfold setF
  by_cases e : i = m
  · subst e
    rw [List.getElem?_set_self (by show i < 8; exact hi), if_pos rfl]
  · rw [List.getElem?_set_ne (fun h => e h.symm), listF_at f hi, if_neg e]
/-- The field that has the byte, when it is put. -/
theorem put_field {l : List UInt8} {i : Nat} (hi : i < l.length) (c : UInt8) : fieldsT (l.set i c) = (fieldsT l).set (i / 8) (wordK (setF (byteI ((fieldsT l).getD (i / 8) 0)) (i % 8) c) 8) := by
  rw [fieldsT_set l hi c, wordK_list, setF_list _ (by omega), ← bytesF_part (fieldsT l) (by rw [fieldsT_len]; omega), fieldsT_bytes]
theorem put5_rep (hr : Rep s r) {x : Int} {l : List UInt8} (e : textAt s r x = (some l, 0)) {i : Nat} (hi : i < l.length) (c : UInt8) : s.fieldE x ((i / 8 : Nat) : Int) = 0 ∧ Rep (s.put x ((i / 8 : Nat) : Int) (wordK (setF (byteI (s.get x ((i / 8 : Nat) : Int))) (i % 8) c) 8)) (putR s r x i c) := by
  obtain ⟨k, b, hk, hx, hl, hbk, ht, h2⟩ := text_is hr e
  have hF := (textF_tag ht).2
  have hf := hr.find_blk' hk hx
  have hj : i / 8 < b.F.length := by rw [hF, fieldsT_len]; omega
  have hg := (get_text hr e (j := i / 8) (by omega)).2
  obtain ⟨h1, h3⟩ := rep_put (v := wordK (setF (byteI (s.get x ((i / 8 : Nat) : Int))) (i % 8) c) 8) (i := i / 8) hr hk (by rw [hf]) hj
  refine ⟨h1, ?_⟩
  have e3 : putR s r x i c = r.put k b (i / 8) (wordK (setF (byteI (s.get x ((i / 8 : Nat) : Int))) (i % 8) c) 8) := by
    unfold putR
    rw [hl, e]
    show (if 0 ≤ (i : Int) ∧ (i : Int) < l.length then _ else _) = _
    rw [if_pos (by omega), hbk, show ((i : Int)).toNat = i from rfl, put_field hi c, hg]
    have := withF_put r k b b.F (i / 8) (wordK (setF (byteI ((fieldsT l).getD (i / 8) 0)) (i % 8) c) 8)
    rw [withF_self hk] at this
    rw [hF] at this
    rw [← this]
    have eb : b = ⟨b.ad, b.tag, b.F⟩ := rfl
    rw [← hF]
  rw [e3]
  exact h3
set_option maxRecDepth 20000 in
theorem put5_yes {l : List UInt8} {i : Nat} (x : Int) (c : UInt8) (w : World) (h : Ar w p s) (hr : Rep s r) (h0 : 0 ≤ x) (h1 : x ≤ 18446744073709551615) (et : textAt s r x = (some l, 0)) (hi : i < l.length) (hE : (byteAt s r x i).2 = 0) :
    Calls Try.prog 20 #[.pointer (some ⟨p.a, 0, none⟩), .int .u64 x, .int .i64 i, u8v c] w fun e w' => e = .returned (.int .i64 0) ∧ Ar w' p (s.put x ((i / 8 : Nat) : Int) (wordK (setF (byteI (s.get x ((i / 8 : Nat) : Int))) (i % 8) c) 8)) ∧ Only p.own w w' := by
  obtain ⟨he, hrep⟩ := put5_rep hr et hi c
  have hi2 : (i : Int) < 32768 := by have := text_short hr et; omega
  have hfits := hr.fits
  have HE : Hid _ := hE
  have HP : Hid _ := he
  have hd : ((i / 8 : Nat) : Int) = (i : Int) / 8 := by omega
  rw [hd] at *
  clear hE he hrep et hi hd
  unfold u8v
  go_enter Try.func20, Try.ntmps20
  go_upto_region 5 with (first | (go_at_call 43; refine (has_is x _ _ h hr h0 h1 HE.out).mono ?_; rintro e w1 ⟨rfl, hb⟩; have hA := h.frame (S := fun _ => False) (Only.of_below hb) id id id id; have HB : Hid _ := hb; clear hb) | (go_at_call 37; refine (e5_field x _ _ hA hfits h0 h1).mono ?_; rintro e w2 ⟨rfl, hb⟩; rw [eight_lit]; have hA2 := hA.frame (S := fun _ => False) (Only.of_below hb) id id id id; have HB2 : Hid _ := hb; clear hb))
  simp only [← eight_lit]
  have hr3 : (w2.alloc (.cells (eightV (byteI (s.get x ((i : Int) / 8)))) 71)).rowIs w2.heap.size 71 8 (fun j => .int .u8 ((byteI (s.get x ((i : Int) / 8)) j).toNat : Int)) := w2.rowIs_alloc _ 71 _ (fun j hj => eight_at _ hj)
  have hA3 : Ar (w2.alloc (.cells (eightV (byteI (s.get x ((i : Int) / 8)))) 71)) p s := hA2.alloc _
  have HB3 : Hid (Below w.heap.size w (w2.alloc (.cells (eightV (byteI (s.get x ((i : Int) / 8)))) 71))) := (HB.out.trans (HB2.out.mono HB.out.size)).alloc (Nat.le_trans HB.out.size HB2.out.size) _
  have hge : w.heap.size ≤ w2.heap.size := Nat.le_trans HB.out.size HB2.out.size
  generalize w2.alloc (.cells (eightV (byteI (s.get x ((i : Int) / 8)))) 71) = w3 at *
  have hm8 : i % 8 < 8 := by omega
  have hc3 := hr3.cell hm8
  have hf3 := hr3.frozen (i % 8)
  have hlt := hr3.lt
  have HR3 : Hid _ := hr3
  have hmi : ((i : Int) % 8).toNat = i % 8 := by omega
  have n1 := lt_of_some hA2.ha
  have n2 := lt_of_some hA2.hh
  have n3 := hA2.hc.lt
  have n4 := hA2.hb.lt
  clear hr3 hA hA2 HB HB2 h
  go_upto_region 6 with fail
  have hr4 : (w3.setCell ⟨w2.heap.size, i % 8, none⟩ (.int .u8 (c.toNat : Int))).rowIs w2.heap.size 71 8 (fun j => .int .u8 ((setF (byteI (s.get x ((i : Int) / 8))) (i % 8) c j).toNat : Int)) := World.rowIs.congr (World.rowIs.set HR3.out (i % 8) _) (fun j hj => by unfold setF; split <;> rfl)
  have o4 : Only (fun k => k = w2.heap.size) w3 (w3.setCell ⟨w2.heap.size, i % 8, none⟩ (.int .u8 (c.toNat : Int))) := (Only.refl (fun k => k = w2.heap.size) w3).setCell (a := ⟨w2.heap.size, i % 8, none⟩) (Or.inr rfl) _
  have hA4 := hA3.frame o4 (by omega) (by omega) (by omega) (by omega)
  have HB4 : Hid (Below w.heap.size w (w3.setCell ⟨w2.heap.size, i % 8, none⟩ (.int .u8 (c.toNat : Int)))) := HB3.out.setCell hge _
  generalize w3.setCell ⟨w2.heap.size, i % 8, none⟩ (.int .u8 (c.toNat : Int)) = w4 at *
  obtain ⟨c0, c1, c2, c3, c4, c5, c6, c7⟩ := eight_cells hr4
  have hw := wordK_rng (setF (byteI (s.get x ((i : Int) / 8))) (i % 8) c) 8
  have hw0 := hw.1
  have hw1 : wordK (setF (byteI (s.get x ((i : Int) / 8))) (i % 8) c) 8 ≤ 18446744073709551615 := by have := hw.2; omega
  clear hr4 o4 hA3 HB3 HR3 hc3 hf3 hw
  go_wp2_with (first | (go_at_call 31; refine (e5_word (setF (byteI (s.get x ((i : Int) / 8))) (i % 8) c) _).mono ?_; rintro e w5 ⟨rfl, hb⟩; have hA5 := hA4.frame (S := fun _ => False) (Only.of_below hb) id id id id; have HB5 : Hid _ := hb; clear hb) | (go_at_call 29; refine (set_any x _ _ _ hA5 hfits h0 h1 hw0 hw1).mono ?_; rintro e w6 ⟨rfl, hA6, o6⟩))
  all_goals go_ret
  all_goals exact ⟨by rw [← HP.out]; rfl, hA6, ((Only.of_below (HB4.out.trans (HB5.out.mono HB4.out.size))).trans o6)⟩
theorem put5_any (x i : Int) (c : UInt8) (w : World) (h : Ar w p s) (hr : Rep s r) (h0 : 0 ≤ x) (h1 : x ≤ 18446744073709551615) :
    Calls Try.prog 20 #[.pointer (some ⟨p.a, 0, none⟩), .int .u64 x, .int .i64 i, u8v c] w fun e w' => e = .returned (.int .i64 (byteAt s r x i).2) ∧ ∃ s', Ar w' p s' ∧ Rep s' (putR s r x i c) ∧ Only p.own w w' := by
  by_cases hE : (byteAt s r x i).2 = 0
  · obtain ⟨l, et, i0, i1, e1⟩ := byte_yes hr hE
    obtain ⟨j, rfl⟩ : ∃ j : Nat, i = j := ⟨i.toNat, by omega⟩
    rw [hE]
    refine (put5_yes x c w h hr h0 h1 et (by omega) hE).mono ?_
    rintro e w' ⟨he, ha, ho⟩
    exact ⟨he, _, ha, (put5_rep hr et (by omega) c).2, ho⟩
  · have hp : putR s r x i c = r := by
      unfold putR
      rcases text_two hr x with ⟨e1, e2⟩ | ⟨l, e3⟩
      · rw [e1]; split <;> simp_all
      · rw [e3]
        rw [byte_of e3 i] at hE
        split
        · rename_i k l' hk hl
          have : l = l' := by simpa using hl
          subst this
          rw [if_neg (fun c => hE (by unfold byteOut; simp only; rw [if_pos c]))]
        · rfl
    rw [hp]
    have hE2 : ((byteAt s r x i).2 != 0) = true := by simp [hE]
    clear hE hp
    unfold u8v
    go_enter Try.func20, Try.ntmps20
    go_wp2_with (go_at_call 43; refine (has_is x _ _ h hr h0 h1 rfl).mono ?_; rintro e w1 ⟨rfl, hb⟩; have hA := h.frame (S := fun _ => False) (Only.of_below hb) id id id id; have HB : Hid _ := hb; clear hb)
    all_goals go_ret
    all_goals exact ⟨rfl, s, hA, hr, Only.of_below HB.out⟩
end Go.Proofs.Ytlhcleocdlnbdaa
