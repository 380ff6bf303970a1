/-
 Layer 8, the statements: brackets round what stands behind a let's '='. No program is named but by its plain answer.
-/
import Derived.Test.YthjmakjhidjbaaaGreatX8Np
namespace Go.Proofs.YthjmakjhidjbaaaGreat
set_option linter.unusedVariables false
set_option linter.unusedSimpArgs false
set_option maxHeartbeats 1000000

theorem br_toks {A : List Tk} (tA : Toks A) (p : List UInt8 × List UInt8) : Toks (br p A) := fun t ht => by
 simp only [br, List.mem_cons, List.mem_append, List.not_mem_nil, or_false] at ht
 rcases ht with rfl | ht | rfl
 ·show (5 : Int) ≠ 0; decide
 ·exact tA t ht
 ·show (5 : Int) ≠ 0; decide
/-- A seq that is all of it is the same in brackets. -/
theorem brk_full {A : List Tk} (tA : Toks A) {r y x : Tr} {e : Nat} (h : reads (u3 ++ A) .items 0 = .ok (r, e)) (hr : r.L = [y]) (hy : y.L.length = 1) (hx : reads A .seq 0 = .ok (x, A.length)) {p : List UInt8 × List UInt8} (hp : p ∈ pairs) : ∃ r' e', reads (u3 ++ br p A) .items 0 = .ok (r', e') ∧ r.L.map Tr.np = r'.L.map Tr.np := by
 obtain ⟨x1, k, h1, h2, h3, h4⟩ := let_inv tA h hr hy
 have hs := reads_sim (u := u3) (l := A) (.refl .seq) (Nat.zero_le _)
 rw [show 0 + u3.length = 3 from rfl, h1, hx] at hs
 obtain ⟨s1, s2⟩ := hs
 obtain ⟨x', a1, a2⟩ := At8.of (ts := u3 ++ br p A) (u := u3) (v := []) (n := 3) (m := (u3 ++ br p A).length) hp hx (by simp) rfl (by rw [u3_len, br_len]; omega)
 have w := let_wrap (X := br p A) (br_toks tA p) (x := x') (by
  have := a1.end_ 0 (Nat.zero_le _)
  rw [u3_len] at this
  exact this)
 refine ⟨_, _, w, ?_⟩
 rw [hr, h3]
 show ([letT _] : List Tr).map Tr.np = ([letT _] : List Tr).map Tr.np
 exact map_cons (eqv_mk (map_cons (eqv_mk (map_cons rfl (map_cons (s1.symm.trans a2) rfl))) rfl)) rfl
/-- What stands behind 'let _ =' in brackets, and in begin and end. -/
theorem brackets_law {s s1 x y : ByteArray} {t : Tr} (h : parseR s1 = .ok [t]) (ht : t.L.length = 1) (h1 : s1.data.toList = letB ++ 32 :: s.data.toList) (hx : x.data.toList = letB ++ 32 :: (40 :: (s.data.toList ++ 41 :: []))) (hy : y.data.toList = letB ++ 32 :: ([98, 101, 103, 105, 110] ++ 32 :: (s.data.toList ++ 32 :: [101, 110, 100]))) (hsz : x.size ≤ 4096) :
  (∃ L', parseR x = .ok L' ∧ [t].map Tr.np = L'.map Tr.np ∧ (y.size ≤ 4096 → ∃ L2, parseR y = .ok L2 ∧ [t].map Tr.np = L2.map Tr.np)) ∨ (∃ p tp, parseR x = .error (21, p) ∧ lexR s = .ok tp ∧ ∃ k, k ∈ srcT tp ∧ isS [59, 59] k = true) := by
 obtain ⟨vs, r, e, l1, l2, l3, l4⟩ := parse_read h
 obtain ⟨tp, hA, hvs⟩ := let_lexes h1 l1
 rw [hvs] at l2
 have hss : s.size ≤ 4096 := by
  have e1 := len_data x
  rw [hx] at e1
  simp only [List.length_append, List.length_cons, len_data] at e1
  omega
 have hls : lexR s = .ok tp := lexes_R hss hA
 have tA := src_toks hls
 have hstar : ∀ z, s.data.toList ≠ 42 :: z := by
  intro z hz
  rw [hz] at hA
  have h3 := lexes_star hA
  obtain ⟨x1, k, g1, _⟩ := let_inv tA l2 (by rw [l3]) ht
  have h4 := star_not (nt := .seq) rfl g1
  have e1 : tk (u3 ++ srcT tp) 3 = tk (srcT tp) 0 := tk_app (u := u3) (l := srcT tp) 0
  rw [e1, h3] at h4
  cases h4
 obtain ⟨vb, b1, b2⟩ := lex_br hA hstar .nil
 obtain ⟨vx, x1, x2⟩ := lex_let b1
 rw [← hx] at x1
 have lx := lexes_R hsz x1
 have ex : srcT vx = u3 ++ br P0 (srcT tp) := by
  show vx.map (·.1) = _
  rw [x2, b2]
  simp [srcT]
 cases hr : reads (srcT vx) .items 0 with
 | ok rj =>
  obtain ⟨r', e'⟩ := rj
  left
  rw [ex] at hr
  obtain ⟨z, hz⟩ := in_brackets2 tA l2 (by rw [l3]) ht hr
  obtain ⟨r2, e2, q1, q2⟩ := brk_full tA l2 (by rw [l3]) ht hz P0_in
  rw [l3] at q2
  refine ⟨r2.L, parse_np h lx (by rw [ex]; exact q1) q2, q2, fun hys => ?_⟩
  obtain ⟨r3, e3, q3, q4⟩ := brk_full tA l2 (by rw [l3]) ht hz (p := ([98, 101, 103, 105, 110], [101, 110, 100])) (by decide)
  rw [l3] at q4
  obtain ⟨vc, c1, c2⟩ := lex_begin hA
  obtain ⟨vy, y1, y2⟩ := lex_let c1
  rw [← hy] at y1
  have ly := lexes_R hys y1
  have ey : srcT vy = u3 ++ br ([98, 101, 103, 105, 110], [101, 110, 100]) (srcT tp) := by
   show vy.map (·.1) = _
   rw [y2, c2]
   rfl
  exact ⟨r3.L, parse_np h ly (by rw [ey]; exact q3) q4, q4⟩
 | error m =>
  right
  refine ⟨_, tp, parse_wrong lx hr, hls, ?_⟩
  apply Classical.byContradiction
  intro hno
  have hn : ∀ k ∈ srcT tp, isS [59, 59] k = false := fun k hk => by
   cases hq : isS [59, 59] k with
   | false => rfl
   | true => exact absurd ⟨k, hk, hq⟩ hno
  obtain ⟨r', e', q1, _⟩ := brackets_plain tA l2 (by rw [l3]) ht hn P0_in
  rw [ex, q1] at hr
  cases hr
end Go.Proofs.YthjmakjhidjbaaaGreat
