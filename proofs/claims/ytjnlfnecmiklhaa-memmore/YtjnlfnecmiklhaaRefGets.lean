/-
  What the document's own arena tells of a word (Find, Leads, Tag, Size, Get), where it and the program's arena are in one state: by that state. Condition: it lies in memory (Rf), and both are in one state (Rep).
-/
import Derived.Test.YtjnlfnecmiklhaaRefFind2
namespace Go.Proofs.Ytjnlfnecmiklhaa
open Go.ChangeShapes Go.WideShapes Go.ChangeAt Go.RowKit Go.Deep
set_option linter.unusedVariables false
set_option maxHeartbeats 400000

/-- The document's own arena lies in memory, in one state with the program's (which may lie in another memory). -/
structure Both (w : World) (p : Pl) (s : St) (rb : Nat) (r : RS) (a : Option Addr) (cap : Nat) (V : Nat → Value) : Prop where
  ar : ∃ w0, Ar w0 p s
  rf : Rf w rb r a cap V
  rep : Rep s r
  below : p.a < rb ∧ p.h < rb ∧ p.c < rb ∧ p.b < rb
theorem lenB_length (l : List Blk) : l.length ≤ lenB l := by
  induction l with
  | nil => simp [lenB]
  | cons b l ih => simp [lenB]; omega
variable {w : World} {p : Pl} {s : St} {rb : Nat} {r : RS} {a : Option Addr} {cap : Nat} {V : Nat → Value}
theorem Both.drewN (h : Both w p s rb r a cap V) (n : Nat) : Both (w.drewN n) p s rb r a cap V := ⟨h.ar, h.rf.drewN n, h.rep, h.below⟩
theorem Both.arw (h : Both w p s rb r a cap V) : Ar h.ar.choose p s := h.ar.choose_spec
theorem Both.sizes (h : Both w p s rb r a cap V) : lenB r.L ≤ 32768 ∧ r.L.length ≤ 32768 ∧ r.n ≤ 32768 ∧ s.base ≤ 32768 ∧ s.top ≤ 65536 := by
  have := h.rep.top; have := h.arw.t2; have := h.arw.n2; have := h.rep.n; have := lenB_length r.L; have := h.arw.b1
  omega
theorem Both.blk (h : Both w p s rb r a cap V) {j : Nat} {c : Blk} (hc : r.L[j]? = some c) : c.ad ≤ 100000 ∧ c.F.length ≤ 4096 := by
  have := h.rep.inside hc; have := h.sizes; have := (h.rep.tag j c hc).2.2
  omega
theorem Both.find0 (h : Both w p s rb r a cap V) {x : Int} (g : addrW x = 0) : s.find x = (0, 0) := by
  have hb : ¬ s.isBlk 0 = true := by
    rw [h.rep.blk]
    rintro ⟨i, b, hb, e⟩
    have := h.rep.inside hb
    omega
  unfold St.find
  rw [g, if_neg hb, if_pos (by unfold St.inUse; simp; omega)]
theorem rfind_no (x : Int) (w : World) (h : Both w p s rb r a cap V) (h0 : 0 ≤ x) (h1 : x ≤ 18446744073709551615) (g : (s.find x).1 = 0) :
    Calls Try.prog 62 #[.pointer (some ⟨rb, 0, none⟩), .int .u64 x] w fun e w' => e = .returned (.tuple #[.int .i64 (-1), .int .i64 0]) ∧ ∃ m, w' = w.drewN m := by
  obtain ⟨z1, z2, z3, z4, z5⟩ := h.sizes
  by_cases c : addrW x = 0
  · refine (rfind_zero x w h.rf h0 h1 c).mono ?_
    rintro e w' ⟨rfl, rfl⟩
    exact ⟨rfl, 0, rfl⟩
  · have hn : ∀ (j : Nat) (c : Blk), r.L[j]? = some c → (c.ad : Int) ≠ addrW x := by
      intro j b hb e
      have := h.rep.find_blk' hb e
      rw [this] at g
      have := h.rep.inside hb
      omega
    refine rfind_rest x r.L.length (-1) 0 w h.rf (by omega) h0 h1 c (fun j c hc => (h.blk hc).1) (fun j c hc => (h.blk hc).2) hn (Nat.le_refl _) ?_ (Or.inl ⟨rfl, rfl, rfl⟩)
    intro j b _ hb hit
    have := h.rep.find_hit hn hb hit
    rw [this] at g
    have := h.rep.inside hb
    omega
theorem rfind_yes (x : Int) (k : Nat) (b : Blk) (w : World) (h : Both w p s rb r a cap V) (h0 : 0 ≤ x) (h1 : x ≤ 18446744073709551615) (hk : r.L[k]? = some b) (g : (s.find x).1 = b.ad) :
    Calls Try.prog 62 #[.pointer (some ⟨rb, 0, none⟩), .int .u64 x] w fun e w' => e = .returned (.tuple #[.int .i64 k, .int .i64 (s.find x).2]) ∧ ∃ m, w' = w.drewN m := by
  obtain ⟨z1, z2, z3, z4, z5⟩ := h.sizes
  have hin := h.rep.inside hk
  have c : addrW x ≠ 0 := by
    intro c
    rw [h.find0 c] at g
    have g' : (0 : Int) = b.ad := g
    omega
  by_cases hb : ∃ (j : Nat) (c : Blk), r.L[j]? = some c ∧ (c.ad : Int) = addrW x
  · obtain ⟨j, b', hb', e⟩ := hb
    have hf := h.rep.find_blk' hb' e
    rw [hf] at g
    have g' : (b'.ad : Int) = b.ad := g
    have := h.rep.inj hb' hk (by omega)
    subst this
    rw [hk] at hb'
    have : b = b' := by simpa using hb'
    subst this
    refine (rfind_blk x j b w h.rf (by omega) h0 h1 c hk e ?_).mono ?_
    · intro i c hi hc e'
      have := h.rep.inj hc hk (by omega)
      omega
    · rintro e w' ⟨rfl, rfl⟩
      exact ⟨by rw [hf], 0, rfl⟩
  · have hn : ∀ (j : Nat) (c : Blk), r.L[j]? = some c → (c.ad : Int) ≠ addrW x := fun j c hc e => hb ⟨j, c, hc, e⟩
    by_cases hh : ∃ (j : Nat) (c : Blk), r.L[j]? = some c ∧ Rep.hit c (addrW x)
    · obtain ⟨j, b', hb', hit⟩ := hh
      have hf := h.rep.find_hit hn hb' hit
      rw [hf] at g
      have g' : (b'.ad : Int) = b.ad := g
      have := h.rep.inj hb' hk (by omega)
      subst this
      rw [hk] at hb'
      have : b = b' := by simpa using hb'
      subst this
      have hl := (List.getElem?_eq_some_iff.1 hk).1
      refine rfind_rest x j j (s.find x).2 w h.rf (by omega) h0 h1 c (fun j c hc => (h.blk hc).1) (fun j c hc => (h.blk hc).2) hn (by omega) ?_ (Or.inr ⟨b, hk, hit, rfl, by rw [hf]⟩)
      intro i c hi hc hit'
      have hf' := h.rep.find_hit hn hc hit'
      rw [hf] at hf'
      have e : (b.ad : Int) = c.ad := congrArg Prod.fst hf'
      have := h.rep.inj hk hc (by omega)
      omega
    · have hf := h.rep.find_none h.arw.lo h.arw.hi hn (fun i c hc hit => hh ⟨i, c, hc, hit⟩)
      rw [hf] at g
      have g' : (0 : Int) = b.ad := g
      omega
theorem Both.block (h : Both w p s rb r a cap V) {x : Int} (g : (s.find x).1 ≠ 0) : ∃ (k : Nat) (b : Blk), r.L[k]? = some b ∧ (s.find x).1 = b.ad := by
  obtain ⟨k, b, hb, e⟩ := (h.rep.blk _).1 (find_blk g)
  exact ⟨k, b, hb, e.symm⟩
theorem rsize_of (x : Int) (w : World) (h : Both w p s rb r a cap V) (h0 : 0 ≤ x) (h1 : x ≤ 18446744073709551615) :
    Calls Try.prog 39 #[.pointer (some ⟨rb, 0, none⟩), .int .u64 x] w fun e w' => e = .returned (.int .i64 (s.size x)) ∧ ∃ m, w' = w.drewN m := by
  by_cases g : (s.find x).1 = 0
  · have HV : Hid (s.size x = -1) := by show _ = _; unfold St.size; rw [if_pos g]
    have HG : Hid _ := g
    clear g
    go_enter Try.func39, Try.ntmps39
    go_wp2_with (go_at_call 62; refine (rfind_no x _ h h0 h1 HG.out).mono ?_; rintro e w' ⟨rfl, m, rfl⟩)
    all_goals go_ret
    all_goals exact ⟨ret_int HV.out.symm, _, rfl⟩
  · obtain ⟨k, b, hk, hf⟩ := h.block g
    obtain ⟨l1, l2⟩ := h.blk hk
    obtain ⟨z1, z2, z3, z4, z5⟩ := h.sizes
    have hl := (List.getElem?_eq_some_iff.1 hk).1
    obtain ⟨ga, rfl, hg1, hg2, hg3, hg4⟩ := h.rf.row (by omega)
    obtain ⟨d0, d1, d2, d3⟩ := hg4 k b hk
    obtain ⟨c0, c1, c2, c3⟩ := h.rf.cells
    have HV : Hid (s.size x = b.F.length) := by show _ = _; unfold St.size; rw [if_neg g, hf]; exact (h.rep.tagAt hk).2
    obtain ⟨va, vc, hv⟩ := field_len d3
    rw [hv] at d2
    have HF : Hid _ := hf
    have HK : Hid _ := hk
    clear g hg4 d3 hf hk hv
    go_enter Try.func39, Try.ntmps39
    go_wp2_with (go_at_call 62; refine (rfind_yes x k b _ h h0 h1 HK.out HF.out).mono ?_; rintro e w' ⟨rfl, m, rfl⟩)
    all_goals go_ret
    all_goals exact ⟨ret_int HV.out.symm, _, rfl⟩
theorem rget_any (x i : Int) (w : World) (h : Both w p s rb r a cap V) (h0 : 0 ≤ x) (h1 : x ≤ 18446744073709551615) :
    Calls Try.prog 37 #[.pointer (some ⟨rb, 0, none⟩), .int .u64 x, .int .i64 i] w fun e w' => e = .returned (.tuple #[.int .u64 (s.get x i), .int .i64 (s.fieldE x i)]) ∧ ∃ m, w' = w.drewN m := by
  by_cases g : (s.find x).1 = 0
  · have HE : Hid (s.fieldE x i = 6) := by show _ = _; unfold St.fieldE; rw [if_pos g]
    have HV : Hid (s.get x i = 0) := by show _ = _; unfold St.get; rw [if_neg (by rw [HE.out]; omega)]
    have HG : Hid _ := g
    clear g
    go_enter Try.func37, Try.ntmps37
    go_wp2_with (go_at_call 62; refine (rfind_no x _ h h0 h1 HG.out).mono ?_; rintro e w' ⟨rfl, m, rfl⟩)
    all_goals go_ret2
    all_goals exact ⟨ret_two HV.out.symm HE.out.symm, _, rfl⟩
  · obtain ⟨k, b, hk, hf⟩ := h.block g
    obtain ⟨l1, l2⟩ := h.blk hk
    obtain ⟨z1, z2, z3, z4, z5⟩ := h.sizes
    have hl := (List.getElem?_eq_some_iff.1 hk).1
    obtain ⟨ga, rfl, hg1, hg2, hg3, hg4⟩ := h.rf.row (by omega)
    obtain ⟨d0, d1, d2, d3⟩ := hg4 k b hk
    obtain ⟨c0, c1, c2, c3⟩ := h.rf.cells
    have hsz := (h.rep.tagAt hk).2
    by_cases i1 : i < 0
    · have HE : Hid (s.fieldE x i = 2) := by show _ = _; unfold St.fieldE; rw [if_neg g, if_pos (Or.inl i1)]
      have HV : Hid (s.get x i = 0) := by show _ = _; unfold St.get; rw [if_neg (by rw [HE.out]; omega)]
      have HF : Hid _ := hf
      have HK : Hid _ := hk
      clear g hg4 d3 hf hk hsz
      go_enter Try.func37, Try.ntmps37
      go_wp2_with (go_at_call 62; refine (rfind_yes x k b _ h h0 h1 HK.out HF.out).mono ?_; rintro e w' ⟨rfl, m, rfl⟩)
      all_goals go_ret2
      all_goals exact ⟨ret_two HV.out.symm HE.out.symm, _, rfl⟩
    · by_cases i2 : (b.F.length : Int) ≤ i
      · have HE : Hid (s.fieldE x i = 2) := by show _ = _; unfold St.fieldE; rw [if_neg g, hf, hsz, if_pos (Or.inr i2)]
        have HV : Hid (s.get x i = 0) := by show _ = _; unfold St.get; rw [if_neg (by rw [HE.out]; omega)]
        obtain ⟨va, vc, hv⟩ := field_len d3
        rw [hv] at d2
        have HF : Hid _ := hf
        have HK : Hid _ := hk
        clear g hg4 d3 hf hk hsz hv
        go_enter Try.func37, Try.ntmps37
        go_wp2_with (go_at_call 62; refine (rfind_yes x k b _ h h0 h1 HK.out HF.out).mono ?_; rintro e w' ⟨rfl, m, rfl⟩)
        all_goals go_ret2
        all_goals exact ⟨ret_two HV.out.symm HE.out.symm, _, rfl⟩
      · have HE : Hid (s.fieldE x i = 0) := by show _ = _; unfold St.fieldE; rw [if_neg g, hf, hsz, if_neg (by omega)]
        have HV : Hid (s.get x i = b.F.getD i.toNat 0) := by
          show _ = _
          unfold St.get
          rw [if_pos HE.out, hf, show ((b.ad : Int) + i).toNat = b.ad + i.toNat from by omega]
          rw [List.getD_eq_getElem?_getD, List.getElem?_eq_getElem (by omega)]
          exact h.rep.fld k b hk _ _ (List.getElem?_eq_getElem (by omega))
        obtain ⟨gf, capf, hv, hgf, hcf⟩ := field_cell d3 i.toNat (by omega)
        rw [hv] at d2
        have HF : Hid _ := hf
        have HK : Hid _ := hk
        generalize b.F.getD i.toNat 0 = fv at *
        clear g hg4 d3 hf hk hsz hv
        go_enter Try.func37, Try.ntmps37
        go_wp2_with (go_at_call 62; refine (rfind_yes x k b _ h h0 h1 HK.out HF.out).mono ?_; rintro e w' ⟨rfl, m, rfl⟩)
        all_goals go_ret2
        all_goals exact ⟨ret_two HV.out.symm HE.out.symm, _, rfl⟩
end Go.Proofs.Ytjnlfnecmiklhaa
