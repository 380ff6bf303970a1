/-
  What the document's own arena tells of a word (Find, Leads, Tag, Size, Get), where it and the program's arena are in one state: by that state. Condition: it lies in memory (Rf), and both are in one state (Rep).
-/
import Derived.Test.YtkgocnmeedkieaaRefFind2
namespace Go.Proofs.Ytkgocnmeedkieaa
open Go.ChangeShapes Go.WideShapes Go.ChangeAt Go.RowKit Go.Deep
set_option linter.unusedVariables false
set_option maxHeartbeats 400000

/-- The document's own arena lies in memory, in one state with the program's (which may lie in another memory). -/
structure Both (w : World) (p : Pl) (s : St) (rb : Nat) (r : RS) (a : Option Addr) (cap : Nat) (V : Nat → Value) : Prop where
  ar : ∃ w0, Ar w0 p s
  rf : Rf w rb r a cap V
  rep : Rep s r
  below : p.a < rb ∧ p.h < rb ∧ p.c < rb ∧ p.b < rb
theorem lenB_length (l : List Blk) : l.length ≤ lenB l := by
  induction l with
  | nil => simp [lenB]
  | cons b l ih => simp [lenB]; omega
variable {w : World} {p : Pl} {s : St} {rb : Nat} {r : RS} {a : Option Addr} {cap : Nat} {V : Nat → Value}
theorem Both.drewN (h : Both w p s rb r a cap V) (n : Nat) : Both (w.drewN n) p s rb r a cap V := ⟨h.ar, h.rf.drewN n, h.rep, h.below⟩
theorem Both.arw (h : Both w p s rb r a cap V) : Ar h.ar.choose p s := h.ar.choose_spec
theorem Both.sizes (h : Both w p s rb r a cap V) : lenB r.L ≤ 32768 ∧ r.L.length ≤ 32768 ∧ r.n ≤ 32768 ∧ s.base ≤ 32768 ∧ s.top ≤ 65536 := by
  have := h.rep.top; have := h.arw.t2; have := h.arw.n2; have := h.rep.n; have := lenB_length r.L; have := h.arw.b1
  omega
theorem Both.blk (h : Both w p s rb r a cap V) {j : Nat} {c : Blk} (hc : r.L[j]? = some c) : c.ad ≤ 100000 ∧ c.F.length ≤ 4096 := by
  have := h.rep.inside hc; have := h.sizes; have := (h.rep.tag j c hc).2.2
  omega
theorem Both.find0 (h : Both w p s rb r a cap V) {x : Int} (g : addrW x = 0) : s.find x = (0, 0) := by
  have hb : ¬ s.isBlk 0 = true := by
    rw [h.rep.blk]
    rintro ⟨i, b, hb, e⟩
    have := h.rep.inside hb
    omega
  unfold St.find
  rw [g, if_neg hb, if_pos (by unfold St.inUse; simp; omega)]
theorem rfind_no (x : Int) (w : World) (h : Both w p s rb r a cap V) (h0 : 0 ≤ x) (h1 : x ≤ 18446744073709551615) (g : (s.find x).1 = 0) :
    Calls Try.prog 59 #[.pointer (some ⟨rb, 0, none⟩), .int .u64 x] w fun e w' => e = .returned (.tuple #[.int .i64 (-1), .int .i64 0]) ∧ ∃ m, w' = w.drewN m := by
  obtain ⟨z1, z2, z3, z4, z5⟩ := h.sizes
  by_cases c : addrW x = 0
  · refine (rfind_zero x w h.rf h0 h1 c).mono ?_
    rintro e w' ⟨rfl, rfl⟩
    exact ⟨rfl, 0, rfl⟩
  · have hn : ∀ (j : Nat) (c : Blk), r.L[j]? = some c → (c.ad : Int) ≠ addrW x := by
      intro j b hb e
      have := h.rep.find_blk' hb e
      rw [this] at g
      have := h.rep.inside hb
      omega
    refine rfind_rest x r.L.length (-1) 0 w h.rf (by omega) h0 h1 c (fun j c hc => (h.blk hc).1) (fun j c hc => (h.blk hc).2) hn (Nat.le_refl _) ?_ (Or.inl ⟨rfl, rfl, rfl⟩)
    intro j b _ hb hit
    have := h.rep.find_hit hn hb hit
    rw [this] at g
    have := h.rep.inside hb
    omega
theorem rfind_yes (x : Int) (k : Nat) (b : Blk) (w : World) (h : Both w p s rb r a cap V) (h0 : 0 ≤ x) (h1 : x ≤ 18446744073709551615) (hk : r.L[k]? = some b) (g : (s.find x).1 = b.ad) :
    Calls Try.prog 59 #[.pointer (some ⟨rb, 0, none⟩), .int .u64 x] w fun e w' => e = .returned (.tuple #[.int .i64 k, .int .i64 (s.find x).2]) ∧ ∃ m, w' = w.drewN m := by
  obtain ⟨z1, z2, z3, z4, z5⟩ := h.sizes
  have hin := h.rep.inside hk
  have c : addrW x ≠ 0 := by
    intro c
    rw [h.find0 c] at g
    have g' : (0 : Int) = b.ad := g
    omega
  by_cases hb : ∃ (j : Nat) (c : Blk), r.L[j]? = some c ∧ (c.ad : Int) = addrW x
  · obtain ⟨j, b', hb', e⟩ := hb
    have hf := h.rep.find_blk' hb' e
    rw [hf] at g
    have g' : (b'.ad : Int) = b.ad := g
    have := h.rep.inj hb' hk (by omega)
    subst this
    rw [hk] at hb'
    have : b = b' := by simpa using hb'
    subst this
    refine (rfind_blk x j b w h.rf (by omega) h0 h1 c hk e ?_).mono ?_
    · intro i c hi hc e'
      have := h.rep.inj hc hk (by omega)
      omega
    · rintro e w' ⟨rfl, rfl⟩
      exact ⟨by rw [hf], 0, rfl⟩
  · have hn : ∀ (j : Nat) (c : Blk), r.L[j]? = some c → (c.ad : Int) ≠ addrW x := fun j c hc e => hb ⟨j, c, hc, e⟩
    by_cases hh : ∃ (j : Nat) (c : Blk), r.L[j]? = some c ∧ Rep.hit c (addrW x)
    · obtain ⟨j, b', hb', hit⟩ := hh
      have hf := h.rep.find_hit hn hb' hit
      rw [hf] at g
      have g' : (b'.ad : Int) = b.ad := g
      have := h.rep.inj hb' hk (by omega)
      subst this
      rw [hk] at hb'
      have : b = b' := by simpa using hb'
      subst this
      have hl := (List.getElem?_eq_some_iff.1 hk).1
      refine rfind_rest x j j (s.find x).2 w h.rf (by omega) h0 h1 c (fun j c hc => (h.blk hc).1) (fun j c hc => (h.blk hc).2) hn (by omega) ?_ (Or.inr ⟨b, hk, hit, rfl, by rw [hf]⟩)
      intro i c hi hc hit'
      have hf' := h.rep.find_hit hn hc hit'
      rw [hf] at hf'
      have e : (b.ad : Int) = c.ad := congrArg Prod.fst hf'
      have := h.rep.inj hk hc (by omega)
      omega
    · have hf := h.rep.find_none h.arw.lo h.arw.hi hn (fun i c hc hit => hh ⟨i, c, hc, hit⟩)
      rw [hf] at g
      have g' : (0 : Int) = b.ad := g
      omega
theorem Both.block (h : Both w p s rb r a cap V) {x : Int} (g : (s.find x).1 ≠ 0) : ∃ (k : Nat) (b : Blk), r.L[k]? = some b ∧ (s.find x).1 = b.ad := by
  obtain ⟨k, b, hb, e⟩ := (h.rep.blk _).1 (find_blk g)
  exact ⟨k, b, hb, e.symm⟩
end Go.Proofs.Ytkgocnmeedkieaa
