/-
  Layer 6: what a word is in an arena (a number, a text, a block, nothing, a function); and that the document's own Wrong tells what is wrong with it. Condition: the document's own arena lies in memory.
-/
import Derived.Test.YtcbgjkedmboifaaO6More
import Derived.Test.YtcbgjkedmboifaaR5Text
import Derived.Test.YtcbgjkedmboifaaRefNum
import Derived.BigQuiet
namespace Go.Proofs.Ytcbgjkedmboifaa
open Go.ChangeShapes Go.WideShapes Go.ChangeAt Go.RowKit Go.Deep
set_option linter.unusedVariables false
set_option maxHeartbeats 1000000

/-- Bytes as numbers. -/
def bytesI (l : List UInt8) : List Int := l.map fun c => (c.toNat : Int)
/-- What a word is that leads to a block at a distance. -/
def ndB (b : Blk) (d : Int) : Nd := if b.tag = 200 then .fn else if 0 < d then .bad else if b.tag = 202 then (match readT b.F with | some l => .txt (bytesI l) | none => .bad) else .blk b.tag b.F
/-- What a word is. -/
def ndW (s : St) (r : RS) (x : Int) : Nd := if isIntW x = true then .num (numW x) else match leadI s r x with | none => .bad | some k => ndB (blkAt r k) (s.find x).2
variable {w : World} {p : Pl} {s : St} {rb : Nat} {r : RS} {a : Option Addr} {cap : Nat} {V : Nat → Value}
theorem nd_cases (h : Rep s r) (x : Int) : (isIntW x = true ∧ ndW s r x = .num (numW x)) ∨ (isIntW x = false ∧ (s.find x).1 = 0 ∧ ndW s r x = .bad) ∨ (isIntW x = false ∧ ∃ k b, r.L[k]? = some b ∧ (s.find x).1 = b.ad ∧ leadI s r x = some k ∧ blkAt r k = b ∧ ndW s r x = ndB b (s.find x).2) := by
  unfold ndW
  by_cases hi : isIntW x = true
  · exact Or.inl ⟨hi, by rw [if_pos hi]⟩
  · have hi2 : isIntW x = false := by simpa using hi
    rw [if_neg hi]
    rcases lead_cases h x with ⟨g0, hl⟩ | ⟨k, b, hb, hf, hl⟩
    · exact Or.inr (Or.inl ⟨hi2, g0, by rw [hl]⟩)
    · have hbk : blkAt r k = b := by unfold blkAt; rw [List.getD_eq_getElem?_getD, hb]; rfl
      exact Or.inr (Or.inr ⟨hi2, k, b, hb, hf, hl, hbk, by rw [hl]; simp only [hbk]⟩)
theorem isInt_is {b : Bool} (x : Int) (w : World) (h : 0 ≤ x) (h' : x ≤ 18446744073709551615) (e : isIntW x = b) :
    Calls Try.prog 27 #[.int .u64 x] w fun e w' => e = .returned (.bool b) ∧ w' = w := by
  subst e; exact risInt_any x w h h'
theorem rfind_at {d : Int} (x : Int) (k : Nat) (b : Blk) (w : World) (h : Both w p s rb r a cap V) (h0 : 0 ≤ x) (h1 : x ≤ 18446744073709551615) (hk : r.L[k]? = some b) (g : (s.find x).1 = b.ad) (e : (s.find x).2 = d) :
    Calls Try.prog 29 #[.pointer (some ⟨rb, 0, none⟩), .int .u64 x] w fun e w' => e = .returned (.tuple #[.int .i64 k, .int .i64 d]) ∧ ∃ m, w' = w.drewN m := by
  subst e; exact rfind_yes x k b w h h0 h1 hk g
theorem rwrong_int (x : Int) (w : World) (h0 : 0 ≤ x) (h1 : x ≤ 18446744073709551615) (hi : isIntW x = true) :
    Calls Try.prog 26 #[.pointer (some ⟨rb, 0, none⟩), .int .u64 x] w fun e w' => e = .returned (.int .i64 0) ∧ Below w.heap.size w w' := by
  have HI := hidden hi
  clear hi
  go_enter Try.func26, Try.ntmps26
  go_wp2_with (go_at_call 27; refine (isInt_is x _ h0 h1 HI.out).mono ?_; rintro e w' ⟨rfl, rfl⟩)
  all_goals go_ret
  all_goals exact ⟨rfl, Below.refl _ _⟩
theorem rwrong_no (x : Int) (w : World) (h : Both w p s rb r a cap V) (h0 : 0 ≤ x) (h1 : x ≤ 18446744073709551615) (hi : isIntW x = false) (g : (s.find x).1 = 0) :
    Calls Try.prog 26 #[.pointer (some ⟨rb, 0, none⟩), .int .u64 x] w fun e w' => e = .returned (.int .i64 6) ∧ Below w.heap.size w w' := by
  have HI := hidden hi
  have HG := hidden g
  clear hi g
  go_enter Try.func26, Try.ntmps26
  go_wp2_with (first | (go_at_call 27; refine (isInt_is x _ h0 h1 HI.out).mono ?_; rintro e w' ⟨rfl, rfl⟩) | (go_at_call 29; refine (rfind_no x _ h h0 h1 HG.out).mono ?_; rintro e w' ⟨rfl, m, rfl⟩))
  all_goals go_ret
  all_goals exact ⟨rfl, below_drews _ _⟩
theorem rwrong_blk (x : Int) (k : Nat) (b : Blk) (w : World) (h : Both w p s rb r a cap V) (h0 : 0 ≤ x) (h1 : x ≤ 18446744073709551615) (hi : isIntW x = false) (hk : r.L[k]? = some b) (g : (s.find x).1 = b.ad) :
    Calls Try.prog 26 #[.pointer (some ⟨rb, 0, none⟩), .int .u64 x] w fun e w' => e = .returned (.int .i64 (ndB b (s.find x).2).wrong) ∧ Below w.heap.size w w' := by
  obtain ⟨l1, l2⟩ := h.blk hk
  obtain ⟨z1, z2, z3, z4, z5⟩ := h.sizes
  have hl := (List.getElem?_eq_some_iff.1 hk).1
  obtain ⟨ga, rfl, hg1, hg2, hg3, hg4⟩ := h.rf.row (by omega)
  obtain ⟨d0, d1, d2, d3⟩ := hg4 k b hk
  obtain ⟨c0, c1, c2, c3⟩ := h.rf.cells
  have hd := find2_lo s x
  have HI := hidden hi
  have HF := hidden g
  have HK := hidden hk
  have HRD : Hid (∀ m, Calls Try.prog 30 #[.pointer (some ⟨rb, 0, none⟩), .int .u64 x] (w.drewN m) fun e w' => (s.find x).2 = 0 → ReadAs (textF b) (w.drewN m) e w') := fun m => by
    by_cases c : (s.find x).2 = 0
    · exact (rread_blk x k b _ (h.drewN m) h0 h1 hk g c).mono (fun e w' h _ => h)
    · exact (rread_addr x _ (h.drewN m) h0 h1 (Or.inr (by omega))).mono (fun e w' h c2 => absurd c2 c)
  have HN : Hid ((ndB b (s.find x).2).wrong = if b.tag = 200 then 12 else if 0 < (s.find x).2 then 6 else if b.tag = 202 then (if (textF b).isSome then 0 else 6) else 0) := by
    show _ = _
    unfold ndB
    by_cases t1 : b.tag = 200
    · rw [if_pos t1, if_pos t1]; rfl
    · rw [if_neg t1, if_neg t1]
      by_cases t2 : 0 < (s.find x).2
      · rw [if_pos t2, if_pos t2]; rfl
      · rw [if_neg t2, if_neg t2]
        by_cases t3 : b.tag = 202
        · rw [if_pos t3, if_pos t3]
          unfold textF
          rw [if_pos t3]
          cases readT b.F <;> rfl
        · rw [if_neg t3, if_neg t3]; rfl
  have HD : Hid (∃ d, (s.find x).2 = d) := ⟨_, rfl⟩
  obtain ⟨d, ed⟩ := HD.out
  rw [ed] at HRD HN hd ⊢
  have HED := hidden ed
  generalize (ndB b d).wrong = out at *
  clear hg4 d0 d2 d3 c0 c1 g hk hi ed HD
  by_cases t1 : b.tag = 200
  · have HO : Hid (out = 12) := by show _ = _; rw [HN.out, if_pos t1]
    clear HN HRD
    go_enter Try.func26, Try.ntmps26
    go_wp2_with (first | (go_at_call 27; refine (isInt_is x _ h0 h1 HI.out).mono ?_; rintro e w' ⟨rfl, rfl⟩) | (go_at_call 29; refine (rfind_at x k b _ h h0 h1 HK.out HF.out HED.out).mono ?_; rintro e w1 ⟨rfl, m, hw1⟩; have HW1 := hidden hw1; replace d1 : w1.cell? ⟨ga, k * 3 + 1, none⟩ = some (.int .i64 b.tag) := by { rw [hw1]; exact d1 }; replace c2 : w1.cell? ⟨rb, 2, none⟩ = some (.slice (some ⟨ga, 0, none⟩) r.L.length cap) := by { rw [hw1]; exact c2 }; clear hw1))
    all_goals go_ret
    all_goals exact ⟨ret_int HO.out.symm, by rw [HW1.out]; exact below_drews _ _⟩
  · have t1b : (b.tag == 200) = false := beq_eq_false_iff_ne.2 t1
    by_cases t2 : 0 < d
    · have HO : Hid (out = 6) := by show _ = _; rw [HN.out, if_neg t1, if_pos t2]
      clear HN HRD t1
      go_enter Try.func26, Try.ntmps26
      go_wp2_with (first | (go_at_call 27; refine (isInt_is x _ h0 h1 HI.out).mono ?_; rintro e w' ⟨rfl, rfl⟩) | (go_at_call 29; refine (rfind_at x k b _ h h0 h1 HK.out HF.out HED.out).mono ?_; rintro e w1 ⟨rfl, m, hw1⟩; have HW1 := hidden hw1; replace d1 : w1.cell? ⟨ga, k * 3 + 1, none⟩ = some (.int .i64 b.tag) := by { rw [hw1]; exact d1 }; replace c2 : w1.cell? ⟨rb, 2, none⟩ = some (.slice (some ⟨ga, 0, none⟩) r.L.length cap) := by { rw [hw1]; exact c2 }; clear hw1))
      all_goals go_ret
      all_goals exact ⟨ret_int HO.out.symm, by rw [HW1.out]; exact below_drews _ _⟩
    · have d0 : d = 0 := by omega
      subst d0
      by_cases t3 : b.tag = 202
      · have HO : Hid (out = if (textF b).isSome then 0 else 6) := by show _ = _; rw [HN.out, if_neg t1, if_neg t2, if_pos t3]
        clear HN t1 t1b
        generalize textF b = tx at *
        cases tx with
        | none =>
          go_enter Try.func26, Try.ntmps26
          go_wp2_with (first | (go_at_call 27; refine (isInt_is x _ h0 h1 HI.out).mono ?_; rintro e w' ⟨rfl, rfl⟩) | (go_at_call 29; refine (rfind_at x k b _ h h0 h1 HK.out HF.out HED.out).mono ?_; rintro e w1 ⟨rfl, m, hw1⟩; have HW1 := hidden hw1; replace d1 : w1.cell? ⟨ga, k * 3 + 1, none⟩ = some (.int .i64 b.tag) := by { rw [hw1]; exact d1 }; replace c2 : w1.cell? ⟨rb, 2, none⟩ = some (.slice (some ⟨ga, 0, none⟩) r.L.length cap) := by { rw [hw1]; exact c2 }; clear hw1) | (go_at_call 30; rw [HW1.out]; refine (HRD.out m).mono ?_; intro e w2 h2; obtain ⟨rfl, hb2⟩ := h2 (by first | exact rfl | exact trivial); have HB2 := hidden hb2; clear hb2 h2; unfold textOut))
          all_goals go_ret
          all_goals exact ⟨ret_int (by rw [HO.out]; rfl), (below_drews _ m).trans HB2.out⟩
        | some l =>
          go_enter Try.func26, Try.ntmps26
          go_wp2_with (first | (go_at_call 27; refine (isInt_is x _ h0 h1 HI.out).mono ?_; rintro e w' ⟨rfl, rfl⟩) | (go_at_call 29; refine (rfind_at x k b _ h h0 h1 HK.out HF.out HED.out).mono ?_; rintro e w1 ⟨rfl, m, hw1⟩; have HW1 := hidden hw1; replace d1 : w1.cell? ⟨ga, k * 3 + 1, none⟩ = some (.int .i64 b.tag) := by { rw [hw1]; exact d1 }; replace c2 : w1.cell? ⟨rb, 2, none⟩ = some (.slice (some ⟨ga, 0, none⟩) r.L.length cap) := by { rw [hw1]; exact c2 }; clear hw1) | (go_at_call 30; rw [HW1.out]; refine (HRD.out m).mono ?_; intro e w2 h2; obtain ⟨rfl, hb2⟩ := h2 (by first | exact rfl | exact trivial); have HB2 := hidden hb2; clear hb2 h2; unfold textOut))
          all_goals go_ret
          all_goals exact ⟨ret_int (by rw [HO.out]; rfl), (below_drews _ m).trans HB2.out⟩
      · have t3b : (b.tag == 202) = false := beq_eq_false_iff_ne.2 t3
        have HO : Hid (out = 0) := by show _ = _; rw [HN.out, if_neg t1, if_neg t2, if_neg t3]
        clear HN HRD t1 t3
        go_enter Try.func26, Try.ntmps26
        go_wp2_with (first | (go_at_call 27; refine (isInt_is x _ h0 h1 HI.out).mono ?_; rintro e w' ⟨rfl, rfl⟩) | (go_at_call 29; refine (rfind_at x k b _ h h0 h1 HK.out HF.out HED.out).mono ?_; rintro e w1 ⟨rfl, m, hw1⟩; have HW1 := hidden hw1; replace d1 : w1.cell? ⟨ga, k * 3 + 1, none⟩ = some (.int .i64 b.tag) := by { rw [hw1]; exact d1 }; replace c2 : w1.cell? ⟨rb, 2, none⟩ = some (.slice (some ⟨ga, 0, none⟩) r.L.length cap) := by { rw [hw1]; exact c2 }; clear hw1))
        all_goals go_ret
        all_goals exact ⟨ret_int HO.out.symm, by rw [HW1.out]; exact below_drews _ _⟩
/-- What the document's own Wrong tells. -/
theorem rwrong_any (x : Int) (w : World) (h : Both w p s rb r a cap V) (h0 : 0 ≤ x) (h1 : x ≤ 18446744073709551615) :
    Calls Try.prog 26 #[.pointer (some ⟨rb, 0, none⟩), .int .u64 x] w fun e w' => e = .returned (.int .i64 (ndW s r x).wrong) ∧ Below w.heap.size w w' := by
  rcases nd_cases h.rep x with ⟨hi, e⟩ | ⟨hi, g, e⟩ | ⟨hi, k, b, hk, hf, _, _, e⟩
  · rw [e]; exact rwrong_int x w h0 h1 hi
  · rw [e]; exact rwrong_no x w h h0 h1 hi g
  · rw [e]; exact rwrong_blk x k b w h h0 h1 hi hk hf
end Go.Proofs.Ytcbgjkedmboifaa
