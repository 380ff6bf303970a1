/-
  What Blocks tells: the words of the blocks' addresses, in order, in a row of its own. Condition: the arena lies in memory (Ar), in one state with a list of blocks (Rep).
-/
import Derived.Test.YtjnlfnecmiklhaaRefOwn
namespace Go.Proofs.Ytjnlfnecmiklhaa
open Go.ChangeShapes Go.WideShapes Go.ChangeAt Go.RowKit Go.Deep
set_option linter.unusedVariables false
set_option maxHeartbeats 1000000
variable {w : World} {p : Pl} {s : St} {r : RS}

/-- The word of block i. -/
def blkW (s : St) (r : RS) (i : Nat) : Int := 2 * ((s.base + lenB (r.L.take i) : Nat) + 1 : Int)
theorem ar_grown {w2 w3 : World} {o : Obj} {B : Nat} {row : Option Nat} (h : Ar w2 p s) (gr : (w2.alloc o).grownBy w3 row) (hrow : ∀ k, row = some k → B ≤ k) (h1 : p.a < B) (h2 : p.h < B) (h3 : p.c < B) (h4 : p.b < B) : Ar w3 p s := by
  have ho : Only (fun k => B ≤ k) w2 w3 := ⟨gr.os, gr.tape, gr.output, Nat.le_trans (by rw [nblk_alloc]; omega) gr.size, fun k hk hs => (gr.block k (by rw [nblk_alloc]; omega) (fun e => hs (hrow k e.symm))).trans (blk_alloc_lt _ _ _ hk)⟩
  exact h.frame ho (by omega) (by omega) (by omega) (by omega)
theorem own_ge' {w : World} {B : Nat} {e : TypeId} {size : Nat} {v : Value} {n : Nat} {xs : List Value} (h : w.ownsRow B e size v n xs) : ∀ k, v.ownBlock = some k → B ≤ k := by
  intro k hk
  rcases h.2 with ⟨rfl, _⟩ | ⟨g, cap, cur, rfl, hg, _⟩
  · cases hk
  · have : g = k := by simpa [Value.ownBlock] using hk
    omega
theorem lenB_length' (l : List Blk) : l.length ≤ lenB l := by
  induction l with
  | nil => simp [lenB]
  | cons b l ih => simp [lenB]; omega
theorem sizeAt_is {p : Pl} {s : St} (a v : Int) (w : World) (h : Ar w p s) (h0 : 1 ≤ a) (h1 : a ≤ 2 * s.n) (hv : s.sizeAt a = v) :
    Calls Try.prog 43 #[.pointer (some ⟨p.a, 0, none⟩), .int .i64 a] w fun e w' => e = .returned (.int .i64 v) ∧ w' = w := by
  subst hv; exact sizeAt_any a w h h0 h1
theorem own_any {w : World} {B k : Nat} {v : Value} {X : Nat → Int} (h : w.ownsRow B 54 1 v k ((List.range k).map fun j => .int .u64 (X j))) : ∃ al cb, v = .slice al k cb ∧ (al = none → k = 0 ∧ cb = 0) ∧ (∀ ad, al = some ad → ∃ g, ad = ⟨g, 0, none⟩ ∧ B ≤ g ∧ Own w g k X) := by
  rcases h.2 with ⟨rfl, e⟩ | ⟨g, cap, cur, rfl, r⟩
  · subst e
    exact ⟨none, 0, rfl, fun _ => ⟨rfl, rfl⟩, fun ad h => by cases h⟩
  · refine ⟨some ⟨g, 0, none⟩, cap, rfl, fun h => (by cases h), fun ad had => ?_⟩
    cases had
    obtain ⟨q1, q2⟩ := own_of_row h
    exact ⟨g, rfl, q2, q1⟩
theorem blocks_any (m : Nat) (w : World) (h : Ar w p s) (hr : Rep s r) (hm : m = r.L.length) :
    Calls Try.prog 19 #[.pointer (some ⟨p.a, 0, none⟩)] w fun e w' => ∃ al cb, e = .returned (.slice al m cb) ∧ (al = none → m = 0 ∧ cb = 0) ∧ (∀ ad, al = some ad → ∃ g, ad = ⟨g, 0, none⟩ ∧ w.heap.size ≤ g ∧ Own w' g m (blkW s r)) ∧ Below w.heap.size w w' := by
  have n2 := h.n2; have b1 := h.b1; have t1 := h.t1; have t2 := h.t2
  have htop := hr.top
  have hll := lenB_length' r.L
  have l1 := lt_of_some h.ha
  have l2 := lt_of_some h.hh
  have l3 := h.hc.lt
  have l4 := h.hb.lt
  obtain ⟨c0, c1, c2, c3, c4, c5, c6⟩ := h.cells
  have HM : Hid _ := hm
  clear hm
  go_enter Try.func19, Try.ntmps19
  go_wp2_with (go_at_call 41; refine (orNone_any _ h).mono ?_; rintro e w' ⟨rfl, hw'⟩; rw [hw']; clear hw' w')
  have HT : Hid _ := htop
  clear htop
  go_loopw [3, 4] (fun v i wr => ∃ k : Nat, k ≤ r.L.length ∧ i = .int .i64 ((s.base + lenB (r.L.take k) : Nat) : Int) ∧ wr.ownsRow w.heap.size 54 1 v k ((List.range k).map fun j => .int .u64 (blkW s r j)) ∧ Ar wr p s ∧ Below w.heap.size w wr) (fun _ i _ => s.top - (intOf i).toNat)
  case atStart => exact ⟨0, Nat.zero_le _, rfl, ⟨rfl, .inl ⟨rfl, rfl⟩⟩, h, Below.refl _ _⟩
  case round =>
    clear c0 c1 c2 c3 c4 c5 c6 h
    obtain ⟨k, hk, rfl, ho, h, hb⟩ := hrel
    obtain ⟨c0, c1, c2, c3, c4, c5, c6⟩ := h.cells
    have hle := lenB_take_all r.L k
    have hle0 := HT.out
    by_cases hlt : k < r.L.length
    · obtain ⟨b, hbk⟩ : ∃ b, r.L[k]? = some b := ⟨_, List.getElem?_eq_getElem hlt⟩
      have had := hr.ad k b hbk
      have hin := hr.inside hbk
      have hsz := (hr.tagAt hbk).2
      have hsc := lenB_succ r.L k b hbk
      obtain ⟨q, hq⟩ : ∃ q, q = s.base + lenB (r.L.take k) := ⟨_, rfl⟩
      rw [← hq] at had
      have hsz' : s.sizeAt ((q : Int) + 1) = b.F.length := by rw [show ((q : Int) + 1) = (b.ad : Int) from by omega]; exact hsz
      have HSZ : Hid _ := hsz'
      have HSC : Hid (s.base + lenB (r.L.take (k + 1)) = q + 1 + b.F.length) := by show _ = _; omega
      have HW : Hid (blkW s r k = 2 * ((q : Int) + 1)) := by show _ = _; unfold blkW; rw [← hq]
      have HP : Hid (ptrW ((q : Int) + 1) = 2 * ((q : Int) + 1)) := by show _ = _; unfold ptrW; rw [if_neg (by omega)]
      have hqlt : (q : Int) < s.top := by omega
      have hk6 : k ≤ 100000 := by omega
      have hq0 := hb.size
      rw [← hq]
      have HQ : Hid _ := hq
      clear hsz hsz' hsc hbk hq had hle hle0
      go_wp2_with (first | (go_at_call 44; refine (ptr_any _ _ (by omega) (by omega)).mono ?_; rintro e w' ⟨rfl, hw'⟩; rw [hw', HP.out]; clear hw' w') | (at_builtin; refine wpList_append_one rfl (.tmp 30) (.tmp 34) rfl w.heap.size _ k _ rfl (ho.alloc _) ⟨wr.heap.size, 0, none⟩ 1 (2 * ((q : Int) + 1)) rfl (by simp [Addr.add]) (by omega) (by rw [nblk_alloc]; omega) ?_; intro g cp w3 ho3 gr hg; have h3 := ar_grown h gr (own_ge' ho) l1 l2 l3 l4; have hb3 := (hb.alloc hq0 _).grown gr (by rw [nblk_alloc]; omega) (own_ge' ho); clear gr; obtain ⟨d0, d1, d2, d3, d4, d5, d6⟩ := h3.cells) | (go_at_call 43; refine (sizeAt_is _ _ _ h3 (by omega) (by omega) HSZ.out).mono ?_; rintro e w' ⟨rfl, hw'⟩; rw [hw']; clear hw' w'))
      go_roundw
      case rel => exact ⟨k + 1, by omega, by rw [HSC.out]; go_num, by rw [List.range_succ, List.map_append, List.map_singleton, HW.out]; exact ho3, h3, hb3⟩
      case measure => simp [intOf]; omega
    · have ek : k = r.L.length := by omega
      have e2 : lenB (r.L.take k) = lenB r.L := by rw [List.take_of_length_le (by omega)]
      have hge : ¬ (((s.base + lenB (r.L.take k) : Nat) : Int) < s.top) := by omega
      have EK : Hid _ := ek
      clear ek e2 hle hle0
      go_wp2
      go_ret
      obtain ⟨al, cb, hv, hv1, hv2⟩ := own_any ho
      have em : m = k := HM.out.trans EK.out.symm
      subst em
      exact ⟨al, cb, congrArg Ending.returned hv, hv1, hv2, hb⟩
end Go.Proofs.Ytjnlfnecmiklhaa
