/-
  Layer 5, the program's Read: which text a word holds, or what is wrong. Condition: the arena lies in memory, in one state with a list of blocks.
-/
import Derived.Test.YtcbgjkedmboifabE5Byte
import Derived.Deep.RegionLaw
namespace Go.Proofs.Ytcbgjkedmboifab
open Go.ChangeShapes Go.WideShapes Go.ChangeAt Go.RowKit Go.Deep
set_option linter.unusedVariables false
set_option maxHeartbeats 1000000

variable {w : World} {p : Pl} {s : St} {r : RS}
theorem length_is {l : List UInt8} (x : Int) (w : World) (h : Ar w p s) (hr : Rep s r) (h0 : 0 ≤ x) (h1 : x ≤ 18446744073709551615) (e : textAt s r x = (some l, 0)) :
    Calls Try.prog 84 #[.pointer (some ⟨p.a, 0, none⟩), .int .u64 x] w fun e w' => e = .returned (.tuple #[.int .i64 (l.length : Nat), .int .i64 0]) ∧ Below w.heap.size w w' := by
  have := length_any x w h hr h0 h1
  rw [e] at this
  exact this
theorem make_bytes (n : Nat) (hn : n < 32768) (w : World) : (Instr.makeSlice 85 (.int .i64 (n : Int)) (.int .i64 (n : Int))).run Try.prog w = .ok (.slice (some ⟨w.heap.size, 0, none⟩) n n) (w.alloc (.cells (madeCells #[.int .u8 0] n) 5)) := run_make_row' (P := Try.prog) 85 5 (.int .u8 0) 1 Try.underlying85 infoU8 rfl .i64 .i64 n (by omega) (by omega) w
/-- Eight bytes are copied into a row of bytes, as far as it goes. -/
theorem run_copy_row8 (w : World) (ty : TypeId) (g b n o c : Nat) (a : Option Addr) {f h : Nat → Value} (hr : w.rowIs g 5 n f) (hb : w.rowIs b 130 8 h) (ho : o ≤ n) (ha : o < n → a = some ⟨g, o, none⟩) (hv : ∀ i, i < 8 → (h i).oneCell' = true) :
    ∃ v w', Sem.run Try.prog (Builtin.copy_ #[85, 85] ty #[.slice a (n - o) c, .slice (some ⟨b, 0, none⟩) 8 8]) w = .ok v w' ∧ w'.rowIs g 5 n (fun i => if o ≤ i ∧ i < o + 8 then h (i - o) else f i) ∧ Only (fun k => k = g) w w' := by
  have hsz : (Try.prog.info? 5).map (·.size) = some 1 := by
    obtain ⟨i0, hi0, hz0, hz1, hz2⟩ := info_parts infoU8
    rw [hi0]; show some i0.size = some 1; rw [hz1]
  by_cases e : o < n
  · rw [ha e]
    have hl : ((List.range (min 8 (n - o))).map h).length = Nat.min 8 (n - o) := by rw [List.length_map, List.length_range]
    refine ⟨_, _, run_copy_cells w 85 85 ty 5 g o (n - o) c ⟨b, 0, none⟩ 8 8 ((List.range (min 8 (n - o))).map h) Try.underlying85 hsz hl ?_ ?_ (fun j _ => hr.frozen _) ?_, (rowIs_setCells _ o w f hr).congr (fun i hi => ?_), only_setCells (S := fun k => k = g) (Or.inr rfl) _ _ _ (Only.refl _ _)⟩
    · intro j v hj
      have hj2 : j < min 8 (n - o) := by have := (List.getElem?_eq_some_iff.1 hj).1; rw [hl] at this; exact this
      rw [List.getElem?_map, List.getElem?_range hj2] at hj
      have ea : (Addr.mk b 0 none).add j = ⟨b, j, none⟩ := by
        unfold Addr.add
        split
        · rename_i h; rw [h]
        · simp
      rw [ea, hb.cell (by omega)]
      simpa using hj
    · intro j hj
      rw [hl] at hj
      have : j < min 8 (n - o) := hj
      rw [hr.cell (by omega)]; rfl
    · intro v hv2
      obtain ⟨j, hj, rfl⟩ := List.mem_map.1 hv2
      exact hv j (by have := List.mem_range.1 hj; omega)
    · rw [hl]
      show (if o ≤ i ∧ i < o + min 8 (n - o) then _ else _) = _
      by_cases c : o ≤ i ∧ i < o + 8
      · rw [if_pos (by omega), if_pos c, List.getD_eq_getElem?_getD, List.getElem?_map, List.getElem?_range (by omega)]; rfl
      · rw [if_neg (by omega), if_neg c]
  · refine ⟨_, _, run_copy_none w 85 85 ty 5 a (some ⟨b, 0, none⟩) (n - o) c 8 8 Try.underlying85 hsz (by rw [show n - o = 0 from by omega]; rfl), hr.congr (fun i hi => by rw [if_neg (by omega)]), Only.refl _ _⟩
set_option maxRecDepth 20000 in
theorem read5_yes {l : List UInt8} (x : Int) (w : World) (h : Ar w p s) (hr : Rep s r) (h0 : 0 ≤ x) (h1 : x ≤ 18446744073709551615) (et : textAt s r x = (some l, 0)) :
    Calls Try.prog 60 #[.pointer (some ⟨p.a, 0, none⟩), .int .u64 x] w fun e w' => e = .returned (.tuple #[.string ⟨l.toArray⟩, .int .i64 0]) ∧ Below w.heap.size w w' := by
  have hs := text_short hr et
  have hfits := hr.fits
  have HSZ : Hid _ := size_text hr et
  have HT : Hid _ := et
  clear et
  go_enter Try.func60, Try.ntmps60
  go_upto_region 4 with (go_at_call 84; refine (length_is x _ h hr h0 h1 HT.out).mono ?_; rintro e w1 ⟨rfl, hb⟩; have hA := h.frame (S := fun _ => False) (Only.of_below hb) id id id id; have HB : Hid _ := hb; clear hb)
  generalize hn : l.length = n at *
  have HN : Hid _ := hn
  clear hn
  have hmk := make_bytes n hs w1
  go_upto_region 5 with fail
  clear hmk
  have hr2 : (w1.alloc (.cells (madeCells #[.int .u8 0] n) 5)).rowIs w1.heap.size 5 n (fun i => .int .u8 0) := World.rowIs_made w1 (.int .u8 0) n 5
  have hA2 : Ar (w1.alloc (.cells (madeCells #[.int .u8 0] n) 5)) p s := hA.alloc _
  have HB2 : Hid (Below w.heap.size w (w1.alloc (.cells (madeCells #[.int .u8 0] n) 5))) := HB.out.alloc HB.out.size _
  have hge := HB.out.size
  have n1 := lt_of_some hA.ha
  have n2 := lt_of_some hA.hh
  have n3 := hA.hc.lt
  have n4 := hA.hb.lt
  have HR2 : Hid _ := hr2
  generalize w1.alloc (.cells (madeCells #[.int .u8 0] n) 5) = w2 at *
  generalize w1.heap.size = G at *
  clear hA HB hr2 h
  go_wp2_with (go_at_call 44; refine (sizev_is x _ hA2 h0 h1 HSZ.out).mono ?_; rintro e w' ⟨rfl, m, hw'⟩; have HM : Hid _ := hw'; clear hw')
  have hA3 : Ar w' p s := by rw [HM.out]; exact hA2.drewN m
  have HR3 : Hid (w'.rowIs G 5 n (fun i => .int .u8 0)) := by show World.rowIs _ _ _ _ _; rw [HM.out]; exact HR2.out
  have HB3 : Hid (Below w.heap.size w w') := by show Below _ _ _; rw [HM.out]; exact ((Only.of_below HB2.out : Only (fun _ => False) _ _).drewN m).below (Nat.le_refl _) (fun _ _ => id)
  clear HM HB2 HR2 hA2
  go_loopw [25] (fun i wr => ∃ k : Nat, k ≤ n / 8 + 1 ∧ i = .int .i64 k ∧ Ar wr p s ∧ wr.rowIs G 5 n (fun i => if i < 8 * k then u8v (l.getD i 0) else .int .u8 0) ∧ Below w.heap.size w wr) (fun i _ => ((n / 8 + 1 : Nat) - intOf i).toNat)
  case atStart => exact ⟨0, by omega, rfl, hA3, World.rowIs.congr HR3.out (fun i hi => by rw [if_neg (by omega)]), HB3.out⟩
  case round =>
    clear hA3 HR3 HB3
    obtain ⟨k, hk, rfl, hA, hrow, hb⟩ := hrel
    have HR : Hid _ := hrow
    have HB : Hid _ := hb
    clear hrow hb
    by_cases hlt : k < n / 8 + 1
    · have hlt2 : (k : Int) < ((n / 8 + 1 : Nat) : Int) := by omega
      go_upto_region 9 with (go_at_call 85; refine (e5_field x _ _ hA hfits h0 h1).mono ?_; rintro e w3 ⟨rfl, hb⟩; rw [eight_lit]; have hA2 := hA.frame (S := fun _ => False) (Only.of_below hb) id id id id; have HB2 : Hid _ := hb; clear hb)
      simp only [← eight_lit]
      have hr3 : (w3.alloc (.cells (eightV (byteI (s.get x (k : Int)))) 130)).rowIs w3.heap.size 130 8 (fun j => .int .u8 ((byteI (s.get x (k : Int)) j).toNat : Int)) := w3.rowIs_alloc _ 130 _ (fun j hj => eight_at _ hj)
      have hA3 : Ar (w3.alloc (.cells (eightV (byteI (s.get x (k : Int)))) 130)) p s := hA2.alloc _
      have HB3 : Hid (Below w.heap.size w (w3.alloc (.cells (eightV (byteI (s.get x (k : Int)))) 130))) := (HB.out.trans (HB2.out.mono HB.out.size)).alloc (Nat.le_trans HB.out.size HB2.out.size) _
      have hr4 : (w3.alloc (.cells (eightV (byteI (s.get x (k : Int)))) 130)).rowIs G 5 n (fun i => if i < 8 * k then u8v (l.getD i 0) else .int .u8 0) := World.rowIs.alloc (World.rowIs.of_block HR.out (HB2.out.block _ (World.rowIs.lt HR.out))) _
      generalize w3.alloc (.cells (eightV (byteI (s.get x (k : Int)))) 130) = w4 at *
      generalize w3.heap.size = Bk at *
      obtain ⟨v5, w5, hcp, hr5, o5⟩ := run_copy_row8 w4.drew 3 G Bk n (8 * k) (n - 8 * k) (if n = 8 * k then some ⟨G, 0, none⟩ else some ⟨G, 8 * k, none⟩) hr4 hr3 (by omega) (fun e => if_neg (by omega)) (fun _ _ => rfl)
      have HR5 : Hid _ := hr5
      have HO5 : Hid _ := o5
      clear hr3 hr4 hr5 o5 hA hA2 HB HB2 HR
      go_region
      clear hcp
      have hA5 : Ar w5 p s := (hA3.drewN 1).frame HO5.out (by omega) (by omega) (by omega) (by omega)
      have HB5 : Hid (Below w.heap.size w w5) := HB3.out.trans ((HO5.out.below (w := w4.drew) (B := w.heap.size) HB3.out.size (fun q hq e => by omega)).mono (Nat.le_refl _) |> fun b => ⟨b.os, b.tape, b.output, b.size, b.block⟩)
      clear hA3 HB3 HO5
      go_wp2
      go_roundw
      case rel => exact ⟨k + 1, by omega, by go_num, hA5, World.rowIs.congr HR5.out (fun i hi => by
          have hi2 : i < l.length := by rw [HN.out]; exact hi
          by_cases c : 8 * k ≤ i ∧ i < 8 * k + 8
          · rw [if_pos c, if_pos (by omega)]
            have := byte_field hr HT.out hi2
            rw [show i / 8 = k from by omega, show i % 8 = i - 8 * k from by omega] at this
            rw [this]; rfl
          · rw [if_neg c]
            by_cases c2 : i < 8 * k
            · rw [if_pos c2, if_pos (by omega)]
            · rw [if_neg c2, if_neg (by omega)]), HB5.out⟩
      case measure => simp [intOf]; omega
    · have hlt2 : ¬ (k : Int) < ((n / 8 + 1 : Nat) : Int) := by omega
      have hstr := run_string (w := wr) (g := G) (c := n) l (fun i hi => by
        have := World.rowIs.cell HR.out (i := i) (by rw [← HN.out]; exact hi)
        rw [this, if_pos (by rw [HN.out] at hi; omega), List.getD_eq_getElem?_getD, List.getElem?_eq_getElem hi]; rfl)
      rw [HN.out] at hstr
      clear hA HR
      go_wp2
      go_ret2
      exact ⟨rfl, HB.out⟩
theorem read5_any (x : Int) (w : World) (h : Ar w p s) (hr : Rep s r) (h0 : 0 ≤ x) (h1 : x ≤ 18446744073709551615) :
    Calls Try.prog 60 #[.pointer (some ⟨p.a, 0, none⟩), .int .u64 x] w fun e w' => e = .returned (.tuple #[.string ⟨((textAt s r x).1.getD []).toArray⟩, .int .i64 (textAt s r x).2]) ∧ Below w.heap.size w w' := by
  rcases text_two hr x with ⟨e1, e2⟩ | ⟨l, e⟩
  · have hE : ((textAt s r x).2 != 0) = true := by rcases e2 with e2 | e2 <;> rw [e2] <;> rfl
    have H := hidden (length_any x w h hr h0 h1)
    rw [e1] at H ⊢
    clear e2
    generalize (textAt s r x).2 = E at *
    go_enter Try.func60, Try.ntmps60
    go_wp2_with (go_at_call 84; refine H.out.mono ?_; rintro e w1 ⟨rfl, hb⟩; have HB : Hid _ := hb; clear hb)
    all_goals go_ret2
    all_goals exact ⟨rfl, HB.out⟩
  · rw [e]
    exact read5_yes x w h hr h0 h1 e
end Go.Proofs.Ytcbgjkedmboifab
