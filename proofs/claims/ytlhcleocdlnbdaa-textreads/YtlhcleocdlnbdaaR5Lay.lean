/-
  Layer 5: what the document's own Lay tells and makes. Condition: the document's own Mem lies in memory, and what its Alloc tells and makes.
-/
import Derived.Test.YtlhcleocdlnbdaaR5Put
import Derived.Deep.RegionWith
namespace Go.Proofs.Ytlhcleocdlnbdaa
open Go.ChangeShapes Go.WideShapes Go.ChangeAt Go.RowKit Go.Deep
set_option linter.unusedVariables false
set_option maxHeartbeats 1000000

variable {kb rb : Nat} {w w' : World} {r r1 : RS} {k k1 : Int} {m : Shape}
theorem rlay_long (s : ByteArray) (al : Option Addr) (n c : Nat) (w : World) (hs : 4096 < s.size) :
    Calls Try.prog 12 #[.pointer (some ⟨kb, 0, none⟩), .string s, .slice al n c] w fun e w' => e = .returned (.tuple #[.int .u64 0, .slice none 0 0, .int .i64 4]) ∧ w' = w := by
  have h2 : (4096 : Int) < (s.size : Int) := by omega
  go_enter Try.func12, Try.ntmps12
  go_wp2_with fail
  go_ret3
  exact ⟨rfl, rfl⟩
/-- What Alloc tells and makes, wherever memory has grown. -/
def AllocsAs (kb rb : Nat) (w : World) (len : Nat) (m : Shape) (al : Option Addr) (n c : Nat) (z E W : Int) (Y : Nat → Int) (r1 : RS) (k1 : Int) : Prop := ∀ w1, Below w.heap.size w w1 → Calls Try.prog 33 #[.pointer (some ⟨kb, 0, none⟩), .int .i64 202, .int .i64 z, .slice al n c] w1 fun e w' => RAllocAs kb rb len m n E W Y r1 k1 w1 e w'
theorem rlay_no {al : Option Addr} {n c : Nat} {E W : Int} {Y : Nat → Int} (s : ByteArray) (w : World) (hs : s.size ≤ 4096) (ha : AllocsAs kb rb w r.L.length m al n c ((s.size / 8 + 1 : Nat) : Int) E W Y r1 k1) (hE : E ≠ 0) :
    Calls Try.prog 12 #[.pointer (some ⟨kb, 0, none⟩), .string s, .slice al n c] w fun e w' => RAllocAs kb rb r.L.length m n E 0 Y r1 k1 w e w' := by
  have h2 : (s.size : Int) ≤ 4096 := by omega
  have HA := hidden ha
  have HS := hidden hs
  have hE2 : (E == 0) = false := beq_eq_false_iff_ne.2 hE
  have HE := hidden hE
  clear ha hE
  go_enter Try.func12, Try.ntmps12
  go_wp2_with (first
    | (go_at_call 32; refine (rfields_any s _ (by omega)).mono ?_; rintro e w1 ⟨g5, c5, rfl, ho5, hg5, hb5⟩; have B5 := hidden hb5; clear ho5 hb5 hg5)
    | (go_at_call 33; refine (HA.out _ B5.out).mono ?_; rintro e w2 ⟨now, m1, rfl, i1, o1, q1, f1, t1⟩; have I1 := hidden i1; have O1 := hidden o1; have Q1 := hidden q1; clear i1 o1 q1 t1 f1))
  all_goals go_ret3
  all_goals exact ⟨_, m1, rfl, I1.out, (Only.of_below B5.out).trans O1.out, fun q hq => (Q1.out q hq).imp id (fun h => Nat.le_trans B5.out.size h), fun _ => rfl, fun h => absurd h HE.out⟩
/-- The fields are set: what lies in memory then. -/
theorem laid_set {w2 wr : World} {kk : Nat} {b : Blk} {f : List Int} {m1 : Shape} (hI : MI kb rb w2 r1 k1 m1) (hs : Setting w2 rb r1 kk b m1.1 m1.2.1 m1.2.2 f wr) : ∃ m2 : Shape, MI kb rb wr (r1.withF kk b f) k1 m2 ∧ (∀ q, Mown kb rb (r1.withF kk b f).L.length m2 q → Mown kb rb r1.L.length m1 q ∨ w2.heap.size ≤ q) := by
  obtain ⟨⟨V, s, rf, hg, fr⟩, on⟩ := hs
  have hsep := hI.sep
  refine ⟨(m1.1, m1.2.1, V), ⟨rf, ⟨s, hg⟩, (on.block _ (lt_of_some hI.mem) (fun hc => hsep.2.1 kb hc rfl)).trans hI.mem, hI.four⟩, ?_⟩
  rw [withF_len]
  rintro q (e | e | ⟨i, hi, n, c, e⟩)
  · exact Or.inl (Or.inl e)
  · exact Or.inl (Or.inr (Or.inl e))
  · rcases fr i hi with ⟨q1, q2⟩ | q1
    · exact Or.inl (Or.inr (Or.inr ⟨i, q1, n, c, by rw [← q2]; exact e⟩))
    · exact Or.inr (q1 ⟨q, 0, none⟩ n c e)
set_option maxRecDepth 100000 in
theorem rlay_yes {al : Option Addr} {n c : Nat} {W : Int} {Y : Nat → Int} {kk : Nat} {b : Blk} (s : ByteArray) (w : World) (hI : MI kb rb w r k m) (hs : s.size ≤ 4096) (ha : AllocsAs kb rb w r.L.length m al n c ((s.size / 8 + 1 : Nat) : Int) 0 W Y r1 k1) (hk : r1.L[kk]? = some b) (hF : b.F.length = s.size / 8 + 1) (hx : (b.ad : Int) = addrW W) (h0 : 0 ≤ W) (h1 : W ≤ 18446744073709551615) :
    Calls Try.prog 12 #[.pointer (some ⟨kb, 0, none⟩), .string s, .slice al n c] w fun e w' => RAllocAs kb rb r.L.length m n 0 W Y (r1.withF kk b (fieldsT (bytesS s))) k1 w e w' := by
  have h2 : (s.size : Int) ≤ 4096 := by omega
  have hkl := (List.getElem?_eq_some_iff.1 hk).1
  have h4 := hI.four
  have HA := hidden ha
  have HS := hidden hs
  have HHX := hidden hx
  have HK := hidden hk
  have HLT := hidden hI.lt
  have HfL : Hid ((fieldsT (bytesS s)).length = b.F.length) := by show _ = _; rw [fieldsT_len, bytesS_len, hF]
  have HfR : Hid (∀ y, y ∈ fieldsT (bytesS s) → R64 y) := fun y hy => fieldsT_rng _ y hy
  have HF := hidden hF
  have hbF : b.F.length ≤ 40000 := by omega
  clear ha hI hx hk hF
  go_enter Try.func12, Try.ntmps12
  go_wp2_with (first
    | (go_at_call 32; refine (rfields_any s _ (by omega)).mono ?_; rintro e w1 ⟨g5, c5, rfl, ho5, hg5, hb5⟩; have B5 := hidden hb5; have O5 := hidden ho5; have G5 := hidden hg5; clear ho5 hb5 hg5)
    | (go_at_call 33; refine (HA.out _ B5.out).mono ?_; rintro e w2 ⟨now, m1, rfl, i1, o1, q1, f1, t1⟩; obtain ⟨gn, cn, rfl, on1, gn1, nm1⟩ := t1 rfl; have I1 := hidden i1; have O1 := hidden o1; have Q1 := hidden q1; have ON1 := hidden on1; have GN1 := hidden gn1; have NM1 := hidden nm1; clear i1 o1 q1 t1 f1 on1 gn1 nm1))
  have O6 : Hid (Own w2 g5 b.F.length (fun i => (fieldsT (bytesS s)).getD i 0)) := by
    have := O5.out.frame O1.out (fun hq => by have := HLT.out g5 hq; have := G5.out; omega)
    rw [HF.out]; exact this
  have HNR : Hid (¬ Rown rb m1.1 g5) := fun hq => by
    rcases Q1.out g5 (Or.inr (Or.inl hq)) with h | h
    · have := HLT.out g5 h; have := G5.out; omega
    · have := O5.out.lt; omega
  have ST0 : Hid (Setting w2 rb r1 kk b m1.1 m1.2.1 m1.2.2 b.F w2) := by
    obtain ⟨s', hs'⟩ := I1.out.good
    exact Setting.start I1.out.rf hs' HK.out
  generalize hf : fieldsT (bytesS s) = f at *
  have HFE := hidden hf
  clear hf
  clear O5
  rw [show s.size / 8 + 1 = b.F.length from HF.out.symm]
  go_loopw [13] (fun kv wr => SetTill w2 rb r1 kk b m1.1 m1.2.1 m1.2.2 f b.F g5 kv wr) (fun kv _ => b.F.length - (intOf kv).toNat)
  case atStart => exact ⟨0, Nat.zero_le _, rfl, by rw [mixG_zero]; exact ST0.out, O6.out⟩
  case round =>
    clear ST0 O6
    obtain ⟨j, hj, rfl, hst, ho⟩ := hrel
    have y0 : wr.cell? ⟨kb, 0, none⟩ = some (.pointer (some ⟨rb, 0, none⟩)) := (World.cell?_of_block (w := w2) (a := ⟨kb, 0, none⟩) (hst.on.block kb (lt_of_some I1.out.mem) (fun hc => I1.out.sep.2.1 kb hc rfl))).trans I1.out.cells.1
    have SS := hidden hst
    have HO := hidden ho
    clear hst
    by_cases hlt : j < b.F.length
    · have hc := ho.cell hlt
      have x2 : (j : Int) < (b.F.length : Int) := by omega
      clear ho
      have hv : R64 (f.getD j 0) := by
        have hl2 := HfL.out
        rw [List.getD_eq_getElem?_getD, List.getElem?_eq_getElem (by omega)]
        exact HfR.out _ (List.getElem_mem _)
      have HV := hidden hv
      have HMS := hidden (mixG_set HfL.out hlt)
      have HML := hidden (mixG_len HfL.out j)
      obtain ⟨v0, v1⟩ := hv
      generalize f.getD j 0 = fv at *
      go_wp2_with fail
      go_region_with (go_at_call 34; refine (rset_text (SS.out.below (w' := wr.drewN 1) ⟨rfl, rfl, rfl, Nat.le_refl _, fun _ _ => rfl⟩) h4 hkl HHX.out h0 h1 (by rw [HML.out]; exact hlt) HV.out).mono ?_; rintro e w6 ⟨rfl, hs6, on6⟩; have S6 := hidden hs6; have O6 := hidden (HO.out.frame ⟨on6.os, on6.tape, on6.output, on6.size, on6.block⟩ HNR.out); clear hs6 on6)
      all_goals
        go_wp2_with fail
        go_roundw
        case rel => exact ⟨j + 1, by omega, by go_num, by rw [← HMS.out]; exact S6.out, O6.out⟩
        case measure => simp [intOf]; omega
    · have ej : j = b.F.length := by omega
      subst ej
      clear ho
      have HD : Hid (Setting w2 rb r1 kk b m1.1 m1.2.1 m1.2.2 f wr) := by have := SS.out; rw [mixG_all HfL.out] at this; exact this
      clear SS
      go_wp2_with fail
      go_ret3
      obtain ⟨m2, i2, q2⟩ := laid_set I1.out HD.out
      have z1 := B5.out.size
      have z2 := O1.out.size
      refine ⟨_, m2, rfl, by rw [HFE.out]; exact i2, ?_, ?_, fun h => absurd rfl h, fun _ => ⟨gn, cn, rfl, ON1.out.frame HD.out.on (fun hq => NM1.out (Or.inr (Or.inl hq))), Nat.le_trans z1 GN1.out, ?_⟩⟩
      · refine only_more ((Only.of_below B5.out).trans O1.out) HD.out.on (fun q hq => ?_)
        rcases Q1.out q (Or.inr (Or.inl hq)) with h | h
        · exact Or.inl h
        · exact Or.inr (Nat.le_trans z1 h)
      · rw [HFE.out]
        intro q hq
        rcases q2 q hq with h | h
        · rcases Q1.out q h with h | h
          · exact Or.inl h
          · exact Or.inr (Nat.le_trans z1 h)
        · exact Or.inr (by omega)
      · rw [HFE.out]
        intro hq
        rcases q2 gn hq with h | h
        · exact NM1.out h
        · have := ON1.out.lt; omega
end Go.Proofs.Ytlhcleocdlnbdaa
