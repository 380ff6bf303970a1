/-
  Layer 5: the program's Mem and the document's own in one memory: neither writes to the other's. No program is named here.
-/
import Derived.Test.YtlhcleocdlnbdaaR5LayAny
import Derived.Test.YtlhcleocdlnbdaaR4New
import Derived.Test.YtlhcleocdlnbdaaT5Spec
import Derived.Test.YtlhcleocdlnbdaaLibD
namespace Go.Proofs.Ytlhcleocdlnbdaa
open Go.ChangeShapes Go.WideShapes Go.ChangeAt Go.RowKit Go.Deep
set_option linter.unusedVariables false
set_option maxHeartbeats 1000000

/-- Both in one memory and one state. -/
structure Two5 (w : World) (kb : Nat) (p : Pl) (s : St) (kb2 rb : Nat) (r : RS) (k : Int) (m : Shape) : Prop where
  pi : PI kb p w s r k
  mi : MI kb2 rb w r k m
  lt : ∀ q, Pown kb p q → q < rb
section
variable {w w' : World} {kb : Nat} {p : Pl} {s s' : St} {kb2 rb : Nat} {r r' : RS} {k k' : Int} {m m' : Shape}
theorem mown_ge (h : MI kb2 rb w r k m) {q : Nat} (hq : Mown kb2 rb r.L.length m q) : q = kb2 ∨ rb ≤ q := by
  rcases hq with e | (e | e) | ⟨i, hi, n, c, e⟩
  · exact Or.inl e
  · exact Or.inr (by omega)
  · obtain ⟨g, cur, e2, hb, _⟩ := h.rf.hl.2.2.2 _ e
    have : q = g := by simpa using e2
    exact Or.inr (by omega)
  · have hL : r.L.length ≠ 0 := by omega
    obtain ⟨g, hg, _, _, _, hc⟩ := h.rf.row hL
    obtain ⟨_, _, _, f⟩ := hc i r.L[i] (List.getElem?_eq_getElem hi)
    obtain ⟨a, cap, e3, _, hf⟩ := f
    rw [e] at e3
    simp only [Value.slice.injEq] at e3
    obtain ⟨g2, e4, hb, _⟩ := hf _ e3.1.symm
    have : q = g2 := by simpa using e4
    exact Or.inr (by omega)
theorem two_apart (hp : PI kb p w s r' k') (hm : MI kb2 rb w r k m) (lt : ∀ q, Pown kb p q → q < rb) : ∀ q, Pown kb p q → ¬ Mown kb2 rb r.L.length m q := by
  intro q hq hc
  rcases mown_ge hm hc with e | e
  · subst e
    have h2 := hm.mem
    rcases hq with e | e | e | e | e
    · subst e; exact ty_two hp.mem h2 (by decide) rfl
    · subst e; exact ty_two hp.ar.ha h2 (by decide) rfl
    · subst e; exact ty_two hp.ar.hh h2 (by decide) rfl
    · subst e; obtain ⟨cur, hc, _⟩ := hp.ar.hc; exact ty_two hc h2 (by decide) rfl
    · subst e; obtain ⟨cur, hc, _⟩ := hp.ar.hb; exact ty_two hc h2 (by decide) rfl
  · have := lt q hq; omega
theorem Two5.apart (h : Two5 w kb p s kb2 rb r k m) : ∀ q, Pown kb p q → ¬ Mown kb2 rb r.L.length m q := two_apart h.pi h.mi h.lt
theorem Two5.below {B : Nat} (h : Two5 w kb p s kb2 rb r k m) (b : Below B w w') (hB : B = w.heap.size) : Two5 w' kb p s kb2 rb r k m := by
  subst hB
  exact ⟨h.pi.below b rfl, h.mi.frame (S := fun _ => False) (Only.of_below b) (fun _ _ => id), h.lt⟩
theorem Two5.drewN (h : Two5 w kb p s kb2 rb r k m) (n : Nat) : Two5 (w.drewN n) kb p s kb2 rb r k m := h.below (below_drews _ _) rfl
/-- The program has written. -/
theorem Two5.left (h : Two5 w kb p s kb2 rb r k m) (o : Only (Pown kb p) w w') : MI kb2 rb w' r k m := h.mi.frame o (fun q hq hp => h.apart q hp hq)
/-- The document's own has written likewise. -/
theorem Two5.right {w2 : World} (h : Two5 w kb p s kb2 rb r k m) (hp : PI kb p w' s' r' k') (o : Only (Pown kb p) w w') (hm : MI kb2 rb w2 r' k' m') (o2 : Only (Mown kb2 rb r.L.length m) w' w2) : Two5 w2 kb p s' kb2 rb r' k' m' :=
  ⟨hp.frame o2 (two_apart hp (h.left o) h.lt), hm, h.lt⟩
end
/-- What Lay of the program tells and makes. -/
def PLayAs (kb : Nat) (p : Pl) (al : Option Addr) (n : Nat) (o : Int × Int × (Nat → Int) × RS × Int) (w : World) (e : Ending) (w' : World) : Prop :=
  ∃ s' now, e = .returned (.tuple #[.int .u64 o.2.1, now, .int .i64 o.1]) ∧ PI kb p w' s' o.2.2.2.1 o.2.2.2.2 ∧ Only (Pown kb p) w w' ∧ (o.1 ≠ 0 → ∃ al' c', now = .slice al' 0 c') ∧ (o.1 = 0 → ∃ al' c', now = .slice al' n c' ∧ WS w' al' n c' o.2.2.1 ∧ (∀ ad, al' = some ad → w.heap.size ≤ ad.block) ∧ (al ≠ none → ∃ g, al' = some ⟨g, 0, none⟩))
/-- What the program's Lay is to tell and to make. -/
structure LayC : Prop where
  lay : ∀ {kb : Nat} {p : Pl} {s : St} {r : RS} {k : Int} {al : Option Addr} {n c : Nat} {X : Nat → Int} (b : ByteArray) (w : World), PI kb p w s r k → WS w al n c X → n ≤ 1000 → Calls Try.prog 11 #[.pointer (some ⟨kb, 0, none⟩), .string b, .slice al n c] w fun e w' => PLayAs kb p al n (layOf r k n X (bytesS b)) w e w'
theorem bytes_back (b : ByteArray) : ByteArray.mk (bytesS b).toArray = b := by
  unfold bytesS
  cases b with
  | mk d => simp
/-- The text that was laid is read. -/
theorem text_laid {s s1 : St} {r : RS} (l : List UInt8) (hs : Good s r) (g : s.allocE 202 (sizeT l) = 0) (h1 : Rep s1 (laidT s r l)) : textAt s1 (laidT s r l) (s.allocW 202 (sizeT l)) = (some l, 0) := by
  obtain ⟨e1, e2, _, _⟩ := word_laid hs g
  have hb : (laidT s r l).L[r.L.length]? = some ⟨s.top + 1, 202, fieldsT l⟩ := by unfold laidT; simp
  have hf := h1.find_blk' hb e2
  rcases text_cases h1 (s.allocW 202 (sizeT l)) with ⟨c, _⟩ | ⟨k, b, hk, hfk, _, _, _, _, et⟩
  · rw [hf] at c
    rcases c with c | c
    · have c2 : (((s.top + 1 : Nat) : Nat) : Int) = 0 := c
      omega
    · exact absurd c (show ¬ (0 : Int) < 0 by decide)
  · have : r.L.length = k := h1.inj hb hk (by rw [hf] at hfk; have h5 : ((s.top + 1 : Nat) : Int) = b.ad := hfk; show s.top + 1 = b.ad; omega)
    subst this
    rw [hb] at hk
    cases hk
    rw [et]
    have : textF ⟨s.top + 1, 202, fieldsT l⟩ = some l := by unfold textF; rw [if_pos rfl]; exact read_fields l
    rw [this]; rfl
/-- What comes of it where nothing is wrong. -/
theorem lay_read {s1 : St} {r : RS} {k : Int} {n : Nat} {X : Nat → Int} (l : List UInt8) (hg : Good (pick r) r) (w : World) (h0 : (layOf r k n X l).1 = 0) (h1 : Rep s1 (layOf r k n X l).2.2.2.1) : textAt s1 (layOf r k n X l).2.2.2.1 (layOf r k n X l).2.1 = (some l, 0) ∧ 0 ≤ (layOf r k n X l).2.1 ∧ (layOf r k n X l).2.1 ≤ 18446744073709551615 ∧ l.length ≤ 4096 := by
  unfold layOf at h0 h1 ⊢
  by_cases hl : 4096 < l.length
  · rw [if_pos hl] at h0; exact absurd h0 (by show ¬ (4 : Int) = 0; decide)
  · rw [if_neg hl] at h0 h1 ⊢
    by_cases g : (pick r).allocE 202 (sizeT l) = 0
    · rw [if_pos g] at h1 ⊢
      obtain ⟨_, _, q4, q5⟩ := word_laid hg g
      exact ⟨text_laid l hg g h1, q4, q5, by omega⟩
    · rw [if_neg g] at h0 h1 ⊢
      by_cases gf : (r.n : Int) < (lenG r (reachG (pick r) r (listX X n)) : Nat) + sizeT l + 1
      · rw [if_pos gf] at h0; exact absurd h0 (by show ¬ (10 : Int) = 0; decide)
      · rw [if_neg gf] at h1 ⊢
        have hgc := good_coll_pick hg w (xs := listX X n)
        have g1 := room_fits4 hg.rep (text_errs (pick r) (by omega) g) gf hgc.rep
        obtain ⟨_, _, q4, q5⟩ := word_laid hgc g1
        exact ⟨text_laid l hgc g1 h1, q4, q5, by omega⟩
end Go.Proofs.Ytlhcleocdlnbdaa
