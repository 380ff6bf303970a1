/-
 Layer 8: ParseCounts, walked: it returns true. No condition but that the tree is read.
-/
import Derived.Test.YthjmakjhidjbaaaGreatN8Open
import Derived.Test.YthjmakjhidjbaaaGreatL8Awake
import Derived.Deep.Cut
namespace Go.Proofs.YthjmakjhidjbaaaGreat
open Go.ChangeShapes Go.WideShapes Go.ChangeAt Go.RowKit Go.Deep
set_option linter.unusedVariables false
set_option linter.unusedSimpArgs false
set_option maxHeartbeats 4000000
set_option maxRecDepth 20000

theorem cell_dn {w w' : World} {g o : Nat} {v : Value} (hb : Below w.heap.size w w') (h : w.cell? ⟨g, o, none⟩ = some v) : w'.cell? ⟨g, o, none⟩ = some v := by
 have e : w'.heap[g]? = w.heap[g]? := hb.block g (cell_ltA h)
 rw [← h]
 exact World.cell?_of_block (a := ⟨g, o, none⟩) e
theorem count_negP (k p N : Int) (s : ByteArray) (al : Option Addr) (len cap : Nat) (m : Int) (hm : m < 0) (w : World) : Calls Tryz.prog 16 #[.agg #[.int .i64 k, .int .i64 p, .int .i64 N, .string s, .slice al len cap], .int .i64 m] w fun e w' => e = .returned (.int .i64 0) ∧ Below w.heap.size w w' := by
 go_enter Tryz.func16, Tryz.ntmps16
 go_wp2_with fail
 go_ret
 exact ⟨rfl, (Below.refl _ _).alloc (Nat.le_refl _) _⟩
theorem count_neg8 (k p N : Int) (s : ByteArray) (al : Option Addr) (len cap : Nat) (m : Int) (hm : m < 0) (w : World) : Calls Tryz.prog 13 #[.agg #[.int .i64 k, .int .i64 p, .int .i64 N, .string s, .slice al len cap], .int .i64 m] w fun e w' => e = .returned (.int .i64 0) ∧ Below w.heap.size w w' := by
 go_enter Tryz.func13, Tryz.ntmps13
 go_wp2_with fail
 go_ret
 exact ⟨rfl, (Below.refl _ _).alloc (Nat.le_refl _) _⟩
theorem deep_negP (k p N : Int) (s : ByteArray) (al : Option Addr) (len cap : Nat) (m : Int) (hm : m < 1) (w : World) : Calls Tryz.prog 14 #[.agg #[.int .i64 k, .int .i64 p, .int .i64 N, .string s, .slice al len cap], .int .i64 m] w fun e w' => e = .returned (.tuple #[.int .i64 p, .bool true]) ∧ Below w.heap.size w w' := by
 go_enter Tryz.func14, Tryz.ntmps14
 go_wp2_with fail
 go_ret2
 exact ⟨rfl, (Below.refl _ _).alloc (Nat.le_refl _) _⟩
theorem deep_neg8 (k p N : Int) (s : ByteArray) (al : Option Addr) (len cap : Nat) (m : Int) (hm : m < 1) (w : World) : Calls Tryz.prog 15 #[.agg #[.int .i64 k, .int .i64 p, .int .i64 N, .string s, .slice al len cap], .int .i64 m] w fun e w' => e = .returned (.tuple #[.int .i64 p, .bool true]) ∧ Below w.heap.size w w' := by
 go_enter Tryz.func15, Tryz.ntmps15
 go_wp2_with fail
 go_ret2
 exact ⟨rfl, (Below.refl _ _).alloc (Nat.le_refl _) _⟩
/-- What the four tell of a tree, whatever number is handed: the same. -/
theorem cfour (k p N : Int) (s : ByteArray) (al : Option Addr) (cap : Nat) (L : List Tr) (hc : 1 + cntL L ≤ 16384) (m : Int) (hm : m ≤ 16384) : ∃ (dq : Int) (db : Bool) (c : Int), ∀ w : World, RG fz w L al →
  (Calls Tryz.prog 14 #[.agg #[.int .i64 k, .int .i64 p, .int .i64 N, .string s, .slice al L.length cap], .int .i64 m] w fun e w' => e = .returned (.tuple #[.int .i64 dq, .bool db]) ∧ Below w.heap.size w w') ∧ (Calls Tryz.prog 15 #[.agg #[.int .i64 k, .int .i64 p, .int .i64 N, .string s, .slice al L.length cap], .int .i64 m] w fun e w' => e = .returned (.tuple #[.int .i64 dq, .bool db]) ∧ Below w.heap.size w w') ∧ (Calls Tryz.prog 16 #[.agg #[.int .i64 k, .int .i64 p, .int .i64 N, .string s, .slice al L.length cap], .int .i64 m] w fun e w' => e = .returned (.int .i64 c) ∧ Below w.heap.size w w') ∧ (Calls Tryz.prog 13 #[.agg #[.int .i64 k, .int .i64 p, .int .i64 N, .string s, .slice al L.length cap], .int .i64 m] w fun e w' => e = .returned (.int .i64 c) ∧ Below w.heap.size w w') := by
 have hx : (Tr.mk k 0 N s.data.toList L).cnt ≤ 20000 := by show cntL L + 1 ≤ 20000; omega
 have hs : (⟨s.data.toList.toArray⟩ : ByteArray) = s := by simp
 have hC : ∃ c : Int, ∀ w : World, RG fz w L al → (Calls Tryz.prog 16 #[.agg #[.int .i64 k, .int .i64 p, .int .i64 N, .string s, .slice al L.length cap], .int .i64 m] w fun e w' => e = .returned (.int .i64 c) ∧ Below w.heap.size w w') ∧ (Calls Tryz.prog 13 #[.agg #[.int .i64 k, .int .i64 p, .int .i64 N, .string s, .slice al L.length cap], .int .i64 m] w fun e w' => e = .returned (.int .i64 c) ∧ Below w.heap.size w w') := by
  by_cases h0 : m < 0
  ·exact ⟨0, fun w _ => ⟨count_negP k p N s al L.length cap m h0 w, count_neg8 k p N s al L.length cap m h0 w⟩⟩
  ·refine ⟨cntM (.mk k 0 N s.data.toList L) m, fun w h => ?_⟩
   have h1 := countGP 20000 (.mk k 0 N s.data.toList L) hx (by omega) w al cap p m (by omega) (by omega) h
   have h2 := countG8 20000 (.mk k 0 N s.data.toList L) hx (by omega) w al cap p m (by omega) (by omega) h
   simp only [Tr.S, hs] at h1 h2
   exact ⟨h1, h2⟩
 obtain ⟨c, hc⟩ := hC
 by_cases h1 : m < 1
 ·exact ⟨p, true, c, fun w h => ⟨deep_negP k p N s al L.length cap m h1 w, deep_neg8 k p N s al L.length cap m h1 w, (hc w h).1, (hc w h).2⟩⟩
 ·obtain ⟨n, hn⟩ : ∃ n : Nat, m = ((n + 1 : Nat) : Int) := ⟨(m - 1).toNat, by omega⟩
  have hD : ∀ w : World, RG fz w L al → (Calls Tryz.prog 14 #[.agg #[.int .i64 k, .int .i64 p, .int .i64 N, .string s, .slice al L.length cap], .int .i64 m] w fun e w' => e = .returned (deepR (deepL fz n L)) ∧ Below w.heap.size w w') ∧ (Calls Tryz.prog 15 #[.agg #[.int .i64 k, .int .i64 p, .int .i64 N, .string s, .slice al L.length cap], .int .i64 m] w fun e w' => e = .returned (deepR (deepL fz n L)) ∧ Below w.heap.size w w') := fun w h => by
   have h1 := deepGP 20000 (.mk k 0 N s.data.toList L) hx (by omega) w al cap p (n + 1) (by omega) h
   have h2 := deepG8 20000 (.mk k 0 N s.data.toList L) hx (by omega) w al cap p (n + 1) (by omega) h
   simp only [Tr.S, hs] at h1 h2
   rw [hn]
   exact ⟨h1, h2⟩
  cases ho : deepL fz n L with
  | some q =>
   rw [ho] at hD
   exact ⟨q, true, c, fun w h => ⟨(hD w h).1, (hD w h).2, (hc w h).1, (hc w h).2⟩⟩
  | none =>
   rw [ho] at hD
   exact ⟨0, false, c, fun w h => ⟨(hD w h).1, (hD w h).2, (hc w h).1, (hc w h).2⟩⟩
theorem parseCounts_walk (cs : Array Value) (m : Int) (w : World) (hok : NOk w 16385 cs.toList) (hm0 : -9223372036854775808 ≤ m) (hm1 : m ≤ 9223372036854775807) : Calls Tryz.prog 4 #[.agg cs, .int .i64 m] w fun e w' => e = .returned (.bool true) ∧ Below w.heap.size w w' := by
 have hok2 := hok
 obtain ⟨k, p, N, s, al, len, cap, hcs, hlen, _⟩ := hok2
 obtain rfl : cs = #[.int .i64 k, .int .i64 p, .int .i64 N, .string s, .slice al len cap] := by
  have := congrArg List.toArray hcs
  simpa using this
 have OK := hidden hok
 clear hok hcs
 have D0 := hidden ((Below.refl w.heap.size w).alloc (Nat.le_refl _) (.cells #[.int .i64 k, .int .i64 p, .int .i64 N, .string s, .slice al len cap] 25))
 have V0 := hidden (B5.new w k p N s (.slice al len cap))
 go_enter Tryz.func4, Tryz.ntmps4
 go_upto_region 1 with fail
 generalize w.alloc (.cells #[.int .i64 k, .int .i64 p, .int .i64 N, .string s, .slice al len cap] 25) = w0 at *
 go_wp2_with fail
 refine (aw8_any w0).mono ?_
 rintro e w1 ⟨rfl, hb⟩
 have B1 := hidden (D0.out.trans (hb.mono D0.out.size))
 have V1 := hidden (V0.out.below hb (Nat.le_refl _))
 clear hb
 obtain ⟨v0, v1, v2, v3, v4, vf⟩ := V1.out.cells
 go_wp2_with fail
 have HC := hidden (rcount_gen 16385 16384 (by omega) (by omega) w1 k p N s al len cap (NOk.below B1.out 16385 OK.out))
 refine HC.out.mono ?_
 rintro e w2 ⟨hb, ⟨L, rfl, hl2, hl3, rfl⟩ | rfl⟩
 ·have B2 := hidden (B1.out.trans (hb.mono B1.out.size))
  have V2 := hidden (V1.out.below hb (Nat.le_refl _))
  have R2 := hidden hl2
  obtain ⟨ct, hct⟩ : ∃ n, 1 + cntL L = n := ⟨_, rfl⟩
  have hl4 := hl3
  rw [hct] at hl4 ⊢
  have z1 : ¬ (16384 : Int) < (ct : Int) := by omega
  clear hb hl2 hct v0 v1 v2 v3 v4 vf
  by_cases hm : m ≤ 16384
  ·have z2 : ¬ (16384 : Int) < m := by omega
   obtain ⟨dq, db, c, hF⟩ := cfour k p N s al cap L hl3 m hm
   have HF := hidden hF
   clear hF
   obtain ⟨v0, v1, v2, v3, v4, vf⟩ := V2.out.cells
   go_wp2_with fail
   refine ((HF.out w2 R2.out).1).mono ?_
   rintro e w3 ⟨rfl, hb⟩
   have B3 := hidden (B2.out.trans (hb.mono B2.out.size))
   have V3 := hidden (V2.out.below hb (Nat.le_refl _))
   have R3 := hidden (R2.out.beneath hb (Nat.le_refl _))
   clear hb v0 v1 v2 v3 v4 vf
   obtain ⟨v0, v1, v2, v3, v4, vf⟩ := V3.out.cells
   go_wp2_with fail
   refine ((HF.out w3 R3.out).2.1).mono ?_
   rintro e w4 ⟨rfl, hb⟩
   have B4 := hidden (B3.out.trans (hb.mono B3.out.size))
   have V4 := hidden (V3.out.below hb (Nat.le_refl _))
   have R4 := hidden (R3.out.beneath hb (Nat.le_refl _))
   clear hb v0 v1 v2 v3 v4 vf
   obtain ⟨v0, v1, v2, v3, v4, vf⟩ := V4.out.cells
   go_upto_region 7 with fail
   refine region_till (S := (fun w' => w'.cell? ⟨w.heap.size, 0, none⟩ = some (.int .i64 k) ∧ w'.cell? ⟨w.heap.size, 1, none⟩ = some (.int .i64 p) ∧ w'.cell? ⟨w.heap.size, 2, none⟩ = some (.int .i64 N) ∧ w'.cell? ⟨w.heap.size, 3, none⟩ = some (.string s) ∧ w'.cell? ⟨w.heap.size, 4, none⟩ = some (.slice al L.length cap))) (kz := 17) (by kernel_rfl) ⟨v0, v1, v2, v3, v4⟩ (fun hHeld => ?_)
   refine AnyTill.tk (i := 0) (v := ?_) hHeld ?_ ?_
   rotate_left
   ·(intro w hSw; (try dsimp only at hSw); go_simp; (try with_reducible rfl))
   (try simp only [Act.put, q4, q5, q6, q1, q2, q3])
   refine AnyTill.tk (i := 1) (v := ?_) hHeld ?_ ?_
   rotate_left
   ·(intro w hSw; (try dsimp only at hSw); go_simp; (try with_reducible rfl))
   (try simp only [Act.put, q4, q5, q6, q1, q2, q3])
   refine AnyTill.tk (i := 2) (v := ?_) hHeld ?_ ?_
   rotate_left
   ·(intro w hSw; (try dsimp only at hSw); go_simp; (try with_reducible rfl))
   (try simp only [Act.put, q4, q5, q6, q1, q2, q3])
   (try simp only [beq_self_eq_true])
   refine AnyTill.tk (i := 3) (v := ?_) hHeld ?_ ?_
   rotate_left
   ·(intro w hSw; (try dsimp only at hSw); go_simp; (try with_reducible rfl))
   (try simp only [Act.put, q4, q5, q6, q1, q2, q3])
   refine AnyTill.tk (i := 4) (v := ?_) hHeld ?_ ?_
   rotate_left
   ·(intro w hSw; (try dsimp only at hSw); go_simp; (try with_reducible rfl))
   (try simp only [Act.put, q4, q5, q6, q1, q2, q3])
   refine AnyTill.tk (i := 5) (v := ?_) hHeld ?_ ?_
   rotate_left
   ·(intro w hSw; (try dsimp only at hSw); go_simp; (try with_reducible rfl))
   (try simp only [Act.put, q4, q5, q6, q1, q2, q3])
   refine AnyTill.tk (i := 6) (v := ?_) hHeld ?_ ?_
   rotate_left
   ·(intro w hSw; (try dsimp only at hSw); go_simp; (try with_reducible rfl))
   (try simp only [Act.put, q4, q5, q6, q1, q2, q3])
   (try simp only [beq_self_eq_true])
   refine AnyTill.tk (i := 7) (v := ?_) hHeld ?_ ?_
   rotate_left
   ·(intro w hSw; (try dsimp only at hSw); go_simp; (try with_reducible rfl))
   (try simp only [Act.put, q4, q5, q6, q1, q2, q3])
   refine AnyTill.tk (i := 8) (v := ?_) hHeld ?_ ?_
   rotate_left
   ·(intro w hSw; (try dsimp only at hSw); go_simp; (try with_reducible rfl))
   (try simp only [Act.put, q4, q5, q6, q1, q2, q3])
   refine AnyTill.tk (i := 9) (v := ?_) hHeld ?_ ?_
   rotate_left
   ·(intro w hSw; (try dsimp only at hSw); go_simp; (try with_reducible rfl))
   (try simp only [Act.put, q4, q5, q6, q1, q2, q3])
   refine AnyTill.tk (i := 10) (v := ?_) hHeld ?_ ?_
   rotate_left
   ·(intro w hSw; (try dsimp only at hSw); go_simp; (try with_reducible rfl))
   (try simp only [Act.put, q4, q5, q6, q1, q2, q3])
   refine AnyTill.tk (i := 12) (v := ?_) hHeld ?_ ?_
   rotate_left
   ·(intro w hSw; (try dsimp only at hSw); go_simp; (try with_reducible rfl))
   (try simp only [Act.put, q4, q5, q6, q1, q2, q3])
   refine AnyTill.tk (i := 13) (v := ?_) hHeld ?_ ?_
   rotate_left
   ·(intro w hSw; (try dsimp only at hSw); go_simp; (try with_reducible rfl))
   (try simp only [Act.put, q4, q5, q6, q1, q2, q3])
   refine AnyTill.one (i := 11) (by kernel_rfl) rfl (fun K hK => ?_)
   (try simp only [q1, q2, q3])
   go_simp
   refine ((HF.out _ (R4.out.beneath (drew_below w4) (Nat.le_refl _))).2.2.1).mono ?_
   rintro e w5 ⟨rfl, hb5⟩
   have B5_ := hidden hb5
   have R5 := hidden (R4.out.beneath ((drew_below w4).trans hb5) (Nat.le_refl _))
   have H5 : Hid (w5.cell? ⟨w.heap.size, 0, none⟩ = some (.int .i64 k) ∧ w5.cell? ⟨w.heap.size, 1, none⟩ = some (.int .i64 p) ∧ w5.cell? ⟨w.heap.size, 2, none⟩ = some (.int .i64 N) ∧ w5.cell? ⟨w.heap.size, 3, none⟩ = some (.string s) ∧ w5.cell? ⟨w.heap.size, 4, none⟩ = some (.slice al L.length cap)) := ⟨cell_on hb5 v0, cell_on hb5 v1, cell_on hb5 v2, cell_on hb5 v3, cell_on hb5 v4⟩
   refine hK.out _ _ (fun _ => H5.out) ?_
   clear hHeld hb5
   clear hK K
   (try simp only [Act.put, q4, q5, q6, q1, q2, q3])
   refine AnyTill.one (i := 14) (by kernel_rfl) rfl (fun K hK => ?_)
   (try simp only [q1, q2, q3])
   go_simp
   refine ((HF.out _ R5.out).2.2.2).mono ?_
   rintro e w6 ⟨rfl, hb6⟩
   have B6 := hidden hb6
   have h5 := H5.out
   have H6 : Hid (w6.cell? ⟨w.heap.size, 0, none⟩ = some (.int .i64 k) ∧ w6.cell? ⟨w.heap.size, 1, none⟩ = some (.int .i64 p) ∧ w6.cell? ⟨w.heap.size, 2, none⟩ = some (.int .i64 N) ∧ w6.cell? ⟨w.heap.size, 3, none⟩ = some (.string s) ∧ w6.cell? ⟨w.heap.size, 4, none⟩ = some (.slice al L.length cap)) := ⟨cell_dn hb6 h5.1, cell_dn hb6 h5.2.1, cell_dn hb6 h5.2.2.1, cell_dn hb6 h5.2.2.2.1, cell_dn hb6 h5.2.2.2.2⟩
   refine hK.out _ _ (fun _ => H6.out) ?_
   clear hb6 h5
   clear hK K
   (try simp only [Act.put, q4, q5, q6, q1, q2, q3])
   refine AnyTill.one (i := 15) (by kernel_rfl) rfl (fun K hK => ?_)
   (try simp only [q1, q2, q3])
   go_simp
   refine hK.out _ _ (fun _ => H6.out) ?_
   clear hK K
   (try simp only [Act.put, q4, q5, q6, q1, q2, q3])
   refine AnyTill.one (i := 16) (by kernel_rfl) rfl (fun K hK => ?_)
   (try simp only [q1, q2, q3])
   go_simp
   refine hK.out _ _ (fun _ => H6.out) ?_
   clear hK K
   (try simp only [Act.put, q4, q5, q6, q1, q2, q3])
   refine AnyTill.one (i := 17) (by kernel_rfl) rfl (fun K hK => ?_)
   (try simp only [q1, q2, q3])
   go_simp
   refine hK.out _ _ (fun h => absurd rfl h) ?_
   clear hK K
   (try simp only [Act.put, q4, q5, q6, q1, q2, q3])
   refine AnyTill.done (by kernel_rfl) ?_ _
   (try simp only [Act.put, q4, q5, q6, q1, q2, q3])
   go_wp2_with fail
   go_ret
   exact ⟨by simp, B4.out.trans ((((drew_below w4).trans B5_.out).trans (B6.out.mono (by have := B5_.out.size; exact this))).mono B4.out.size)⟩
  ·have z2 : (16384 : Int) < m := by omega
   go_wp2_with fail
   go_ret
   exact ⟨rfl, B2.out⟩
 ·have B2 := hidden (B1.out.trans (hb.mono B1.out.size))
  clear hb
  go_wp2_with fail
  go_ret
  exact ⟨rfl, B2.out⟩
end Go.Proofs.YthjmakjhidjbaaaGreat
