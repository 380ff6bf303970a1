/-
  Layer 5, the program's Length: how long a text is, or what is wrong. Condition: the arena lies in memory, in one state with a list of blocks.
-/
import Derived.Test.YtcbgjkedmboifabE5Field
import Derived.Test.YtcbgjkedmboifabT5Text
namespace Go.Proofs.Ytcbgjkedmboifab
open Go.ChangeShapes Go.WideShapes Go.ChangeAt Go.RowKit Go.Deep
set_option linter.unusedVariables false
set_option maxHeartbeats 1000000

variable {w : World} {p : Pl} {s : St} {r : RS}
theorem leads_is {a d : Int} (x : Int) (w : World) (h : Ar w p s) (h0 : 0 ≤ x) (h1 : x ≤ 18446744073709551615) (e1 : (s.find x).1 = a) (e2 : (s.find x).2 = d) :
    Calls Try.prog 86 #[.pointer (some ⟨p.a, 0, none⟩), .int .u64 x] w fun e w' => e = .returned (.tuple #[.int .u64 (2 * a), .int .i64 d]) ∧ ∃ m, w' = w.drewN m := by
  subst e1 e2; exact leads_any x w h h0 h1
theorem tagv_is {t : Int} (x : Int) (w : World) (h : Ar w p s) (h0 : 0 ≤ x) (h1 : x ≤ 18446744073709551615) (e1 : s.tag x = t) :
    Calls Try.prog 42 #[.pointer (some ⟨p.a, 0, none⟩), .int .u64 x] w fun e w' => e = .returned (.int .i64 t) ∧ ∃ m, w' = w.drewN m := by
  subst e1; exact tag_of x w h h0 h1
theorem sizev_is {z : Int} (x : Int) (w : World) (h : Ar w p s) (h0 : 0 ≤ x) (h1 : x ≤ 18446744073709551615) (e1 : s.size x = z) :
    Calls Try.prog 44 #[.pointer (some ⟨p.a, 0, none⟩), .int .u64 x] w fun e w' => e = .returned (.int .i64 z) ∧ ∃ m, w' = w.drewN m := by
  subst e1; exact size_of x w h h0 h1
theorem blk_says {x : Int} {k : Nat} {b : Blk} (h : Rep s r) (hk : r.L[k]? = some b) (hf : (s.find x).1 = b.ad) : s.tag x = b.tag ∧ s.size x = b.F.length ∧ 1 ≤ b.ad ∧ b.F.length ≤ 4096 := by
  have h1 := (h.inside hk).1
  unfold St.tag St.size
  rw [hf, if_neg (by omega), if_neg (by omega)]
  exact ⟨(h.tagAt hk).1, (h.tagAt hk).2, by omega, (h.tag k b hk).2.2⟩
theorem len_addr (x : Int) (w : World) (h : Ar w p s) (h0 : 0 ≤ x) (h1 : x ≤ 18446744073709551615) (g : (s.find x).1 = 0 ∨ 0 < (s.find x).2) :
    Calls Try.prog 84 #[.pointer (some ⟨p.a, 0, none⟩), .int .u64 x] w fun e w' => e = .returned (.tuple #[.int .i64 0, .int .i64 6]) ∧ Below w.heap.size w w' := by
  obtain ⟨r0, r1⟩ := find_rng h x
  have n2 := h.n2
  by_cases g0 : (s.find x).1 = 0
  · have HG : Hid _ := g0
    clear g g0 r0 r1
    go_enter Try.func84, Try.ntmps84
    go_wp2_with (go_at_call 86; refine (leads_is x _ h h0 h1 HG.out rfl).mono ?_; rintro e w' ⟨rfl, m, rfl⟩)
    all_goals go_ret2
    all_goals exact ⟨rfl, below_drews _ _⟩
  · have g1 : 0 < (s.find x).2 := by rcases g with g | g; exact absurd g g0; exact g
    have g2 : ((s.find x).2 != 0) = true := by simp; omega
    have g3 : (2 * (s.find x).1 == 0) = false := by rw [beq_eq_false_iff_ne]; omega
    clear g g0 g1
    go_enter Try.func84, Try.ntmps84
    go_wp2_with (go_at_call 86; refine (leads_is x _ h h0 h1 rfl rfl).mono ?_; rintro e w' ⟨rfl, m, rfl⟩)
    all_goals go_ret2
    all_goals exact ⟨rfl, below_drews _ _⟩
theorem len_form {k : Nat} {b : Blk} (x : Int) (w : World) (h : Ar w p s) (hr : Rep s r) (h0 : 0 ≤ x) (h1 : x ≤ 18446744073709551615) (hk : r.L[k]? = some b) (hf : (s.find x).1 = b.ad) (hd : (s.find x).2 = 0) (g : b.tag ≠ 202 ∨ b.F.length = 0) :
    Calls Try.prog 84 #[.pointer (some ⟨p.a, 0, none⟩), .int .u64 x] w fun e w' => e = .returned (.tuple #[.int .i64 0, .int .i64 5]) ∧ Below w.heap.size w w' := by
  obtain ⟨e1, e2, e3, e4⟩ := blk_says hr hk hf
  have g3 : (2 * (b.ad : Int) == 0) = false := by rw [beq_eq_false_iff_ne]; omega
  have HF : Hid _ := hf
  have HD : Hid _ := hd
  have HT : Hid _ := e1
  have HS : Hid _ := e2
  clear hf hd e1 e2
  by_cases t : b.tag = 202
  · have hz : b.F.length = 0 := by rcases g with g | g; exact absurd t g; exact g
    have HT2 : Hid _ := HT.out.trans t
    have HS2 : Hid (s.size x = 0) := by show _ = _; rw [HS.out, hz]; rfl
    clear t g hz HT HS
    go_enter Try.func84, Try.ntmps84
    go_wp2_with (first | (go_at_call 86; refine (leads_is x _ h h0 h1 HF.out HD.out).mono ?_; rintro e w' ⟨rfl, m, rfl⟩) | (go_at_call 44; refine (sizev_is x _ (h.drewN _) h0 h1 HS2.out).mono ?_; rintro e w' ⟨rfl, m2, rfl⟩) | (go_at_call 42; refine (tagv_is x _ (h.drewN _) h0 h1 HT2.out).mono ?_; rintro e w' ⟨rfl, m3, rfl⟩))
    all_goals go_ret2
    all_goals exact ⟨rfl, below_drews _ _⟩
  · have t2 : (b.tag != 202) = true := by simp [t]
    clear g t
    go_enter Try.func84, Try.ntmps84
    go_wp2_with (first | (go_at_call 86; refine (leads_is x _ h h0 h1 HF.out HD.out).mono ?_; rintro e w' ⟨rfl, m, rfl⟩) | (go_at_call 44; refine (sizev_is x _ (h.drewN _) h0 h1 HS.out).mono ?_; rintro e w' ⟨rfl, m2, rfl⟩) | (go_at_call 42; refine (tagv_is x _ (h.drewN _) h0 h1 HT.out).mono ?_; rintro e w' ⟨rfl, m3, rfl⟩))
    all_goals go_ret2
    all_goals exact ⟨rfl, below_drews _ _⟩
/-- How long the text is that some words hold, or that they hold none. -/
def lenF (F : List Int) : Int × Int := if (endB (byteI (lastF F))).2 = true then (8 * ((F.length : Int) - 1) + (endB (byteI (lastF F))).1, 0) else (0, 5)
theorem end_is {f : Nat → UInt8} {n : Int} {b : Bool} (w : World) (e : endB f = (n, b)) : Calls Try.prog 95 #[.agg (eightV f)] w fun e w' => e = .returned (.tuple #[.int .i64 n, .bool b]) ∧ Below w.heap.size w w' := by
  have := e5_end f w
  rw [e] at this
  exact this
theorem len_text {k : Nat} {b : Blk} (x : Int) (w : World) (h : Ar w p s) (hr : Rep s r) (h0 : 0 ≤ x) (h1 : x ≤ 18446744073709551615) (hk : r.L[k]? = some b) (hf : (s.find x).1 = b.ad) (hd : (s.find x).2 = 0) (ht : b.tag = 202) (hz : b.F.length ≠ 0) :
    Calls Try.prog 84 #[.pointer (some ⟨p.a, 0, none⟩), .int .u64 x] w fun e w' => e = .returned (.tuple #[.int .i64 (lenF b.F).1, .int .i64 (lenF b.F).2]) ∧ Below w.heap.size w w' := by
  obtain ⟨e1, e2, e3, e4⟩ := blk_says hr hk hf
  have g3 : (2 * (b.ad : Int) == 0) = false := by rw [beq_eq_false_iff_ne]; omega
  have hx : (b.ad : Int) = addrW x := by have := find_sum (s := s) (x := x) (by rw [hf]; omega); omega
  have HG : Hid (s.get x ((b.F.length : Int) - 1) = lastF b.F) := by
    show _ = _
    have := (get_blk (j := b.F.length - 1) hr hk hx (by omega)).2
    rw [show ((b.F.length - 1 : Nat) : Int) = (b.F.length : Int) - 1 from by omega] at this
    exact this
  have HT : Hid _ := e1.trans ht
  have HF : Hid _ := hf
  have HD : Hid _ := hd
  have HS : Hid _ := e2
  have hz2 : ((b.F.length : Int) == 0) = false := by rw [beq_eq_false_iff_ne]; omega
  have hfits := hr.fits
  obtain ⟨l0, l1⟩ := endB_rng (byteI (lastF b.F))
  obtain ⟨n, bo, hen⟩ : ∃ n bo, endB (byteI (lastF b.F)) = (n, bo) := ⟨_, _, rfl⟩
  have hl1 : bo = true → lenF b.F = (8 * ((b.F.length : Int) - 1) + n, 0) := by intro e; unfold lenF; rw [hen, e]; rfl
  have hl2 : bo = false → lenF b.F = (0, 5) := by intro e; unfold lenF; rw [hen, e]; rfl
  rw [hen] at l0 l1
  have HE : Hid _ := hen
  generalize lenF b.F = out at *
  clear hf hd e1 e2 ht hx hz hen
  simp only at l0 l1
  cases bo with
  | true =>
    have HO : Hid _ := hl1 rfl
    clear hl1 hl2
    go_enter Try.func84, Try.ntmps84
    go_wp2_with (first | (go_at_call 86; refine (leads_is x _ h h0 h1 HF.out HD.out).mono ?_; rintro e w' ⟨rfl, m, rfl⟩) | (go_at_call 44; refine (sizev_is x _ (h.drewN _) h0 h1 HS.out).mono ?_; rintro e w' ⟨rfl, m2, rfl⟩) | (go_at_call 42; refine (tagv_is x _ (h.drewN _) h0 h1 HT.out).mono ?_; rintro e w' ⟨rfl, m3, rfl⟩) | (go_at_call 85; refine (e5_field x _ _ (h.drewN _) hfits h0 h1).mono ?_; rintro e w' ⟨rfl, hb⟩; rw [HG.out]; have HB : Hid _ := hb; clear hb) | (go_at_call 95; refine (end_is _ HE.out).mono ?_; rintro e w2 ⟨rfl, hb⟩; have HB2 : Hid _ := hb; clear hb))
    all_goals go_ret2
    all_goals exact ⟨by rw [HO.out]; rfl, (below_drews w _).trans (HB.out.trans (HB2.out.mono HB.out.size))⟩
  | false =>
    have HO : Hid _ := hl2 rfl
    clear hl1 hl2
    go_enter Try.func84, Try.ntmps84
    go_wp2_with (first | (go_at_call 86; refine (leads_is x _ h h0 h1 HF.out HD.out).mono ?_; rintro e w' ⟨rfl, m, rfl⟩) | (go_at_call 44; refine (sizev_is x _ (h.drewN _) h0 h1 HS.out).mono ?_; rintro e w' ⟨rfl, m2, rfl⟩) | (go_at_call 42; refine (tagv_is x _ (h.drewN _) h0 h1 HT.out).mono ?_; rintro e w' ⟨rfl, m3, rfl⟩) | (go_at_call 85; refine (e5_field x _ _ (h.drewN _) hfits h0 h1).mono ?_; rintro e w' ⟨rfl, hb⟩; rw [HG.out]; have HB : Hid _ := hb; clear hb) | (go_at_call 95; refine (end_is _ HE.out).mono ?_; rintro e w2 ⟨rfl, hb⟩; have HB2 : Hid _ := hb; clear hb))
    all_goals go_ret2
    all_goals exact ⟨by rw [HO.out]; rfl, (below_drews w _).trans (HB.out.trans (HB2.out.mono HB.out.size))⟩
theorem rep_rng (h : Ar w p s) (hr : Rep s r) {k : Nat} {b : Blk} (hk : r.L[k]? = some b) (y : Int) (hy : y ∈ b.F) : 0 ≤ y ∧ y ≤ 18446744073709551615 := by
  obtain ⟨i, hi, rfl⟩ := List.getElem_of_mem hy
  have e := hr.fld k b hk i b.F[i] (List.getElem?_eq_getElem hi)
  rw [← e]
  exact ⟨h.lo _, h.hi _⟩
theorem lenF_read (F : List Int) (hF : F.length ≠ 0) (hr : ∀ x, x ∈ F → 0 ≤ x ∧ x ≤ 18446744073709551615) : lenF F = ((((readT F).getD []).length : Int), if (readT F).isSome then 0 else 5) := by
  obtain ⟨l0, l1⟩ := endB_rng (byteI (lastF F))
  unfold lenF
  rw [read_end F hF hr]
  have hl := bytesF_len F
  by_cases c : (endB (byteI (lastF F))).2 = true
  · rw [if_pos c, if_pos c]
    simp only [Option.getD_some, Option.isSome_some, if_true, List.length_take]
    rw [Prod.mk.injEq]
    exact ⟨by omega, rfl⟩
  · rw [if_neg c, if_neg c]; rfl
theorem textF_no {b : Blk} (g : b.tag ≠ 202 ∨ b.F.length = 0) : textF b = none := by
  unfold textF
  split
  · rename_i t
    have hz : b.F.length = 0 := by rcases g with g | g; exact absurd t g; exact g
    unfold readT
    rw [if_pos hz]
  · rfl
theorem length_any (x : Int) (w : World) (h : Ar w p s) (hr : Rep s r) (h0 : 0 ≤ x) (h1 : x ≤ 18446744073709551615) :
    Calls Try.prog 84 #[.pointer (some ⟨p.a, 0, none⟩), .int .u64 x] w fun e w' => e = .returned (.tuple #[.int .i64 (((textAt s r x).1.getD []).length : Nat), .int .i64 (textAt s r x).2]) ∧ Below w.heap.size w w' := by
  rcases text_cases hr x with ⟨g, e⟩ | ⟨k, b, hk, hf, g2, hx, _, _, e⟩
  · rw [e]
    exact len_addr x w h h0 h1 g
  · rw [e]
    by_cases g : b.tag ≠ 202 ∨ b.F.length = 0
    · rw [textF_no g]
      exact len_form x w h hr h0 h1 hk hf g2 g
    · have ht : b.tag = 202 := Classical.byContradiction (fun c => g (Or.inl c))
      have hz : b.F.length ≠ 0 := fun c => g (Or.inr c)
      have := len_text x w h hr h0 h1 hk hf g2 ht hz
      rw [lenF_read b.F hz (fun y hy => rep_rng h hr hk y hy)] at this
      have e2 : textF b = readT b.F := by unfold textF; rw [if_pos ht]
      rw [e2]
      exact this
end Go.Proofs.Ytcbgjkedmboifab
