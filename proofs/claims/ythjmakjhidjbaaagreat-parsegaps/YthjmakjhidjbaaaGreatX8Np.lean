/-
 Layer 8, the statements: trees that are the same but for their places count alike and are as deep; what Parse tells of a source whose tokens are read. No program is named but by its plain answer.
-/
import Derived.Test.YthjmakjhidjbaaaGreatX8First
import Derived.Test.YthjmakjhidjbaaaGreatLibAW
namespace Go.Proofs.YthjmakjhidjbaaaGreat
set_option linter.unusedVariables false
set_option linter.unusedSimpArgs false
set_option maxHeartbeats 1000000

theorem np_L (x : Tr) : x.np.L = x.L.map Tr.np := by cases x; rw [Tr.np_mk]; rfl
theorem np_cnt : ∀ (n : Nat) (x y : Tr), x.cnt ≤ n → x.np = y.np → x.cnt = y.cnt
 | 0, x, y, h, e => by have := cnt_pos x; omega
 | n + 1, x, y, h, e => by
  have hl : ∀ (L L' : List Tr), cntL L ≤ n → L.map Tr.np = L'.map Tr.np → cntL L = cntL L' := by
   intro L
   induction L with
   | nil => intro L' _ e; cases L' with
    | nil => rfl
    | cons b l => cases e
   | cons a l ih =>
    intro L' hc e
    cases L' with
    | nil => cases e
    | cons b l' =>
     simp only [List.map_cons, List.cons.injEq] at e
     simp only [cntL] at hc ⊢
     rw [np_cnt n a b (by omega) e.1, ih l' (by omega) e.2]
  have h1 := cnt_L x
  have h2 := cnt_L y
  have h3 := hl x.L y.L (by omega) (by rw [← np_L, ← np_L, e])
  omega
theorem np_cntL : ∀ (L L' : List Tr), L.map Tr.np = L'.map Tr.np → cntL L = cntL L'
 | [], [], _ => rfl
 | [], b :: l, e => by cases e
 | a :: l, [], e => by cases e
 | a :: l, b :: l', e => by
  simp only [List.map_cons, List.cons.injEq] at e
  simp only [cntL]
  rw [np_cnt _ a b (Nat.le_refl _) e.1, np_cntL l l' e.2]
theorem np_deep (f f' : Nat → Int) : ∀ (m : Nat) (L L' : List Tr), L.map Tr.np = L'.map Tr.np → deepL f m L = none → deepL f' m L' = none
 | m, [], [], _, _ => by rw [deepL]
 | m, [], b :: l, e, _ => by cases e
 | m, a :: l, [], e, _ => by cases e
 | 0, a :: l, b :: l', e, h => by rw [deepL, deepT] at h; cases h
 | m + 1, a :: l, b :: l', e, h => by
  simp only [List.map_cons, List.cons.injEq] at e
  rw [deepL, deepT] at h ⊢
  cases h1 : deepL f m a.L with
  | some p => rw [h1] at h; cases h
  | none =>
   rw [h1] at h
   rw [np_deep f f' m a.L b.L (by rw [← np_L, ← np_L, e.1]) h1]
   exact np_deep f f' (m + 1) l l' e.2 h
termination_by m L => (m, L.length)
/-- A source that is read as another one is, but for places, is told as that one is. -/
theorem parse_np {s s' : ByteArray} {L : List Tr} {tp : List (Tk × Nat)} {r : Tr} {e : Nat} (h : parseR s = .ok L) (hl : lexR s' = .ok tp) (hr : reads (srcT tp) .items 0 = .ok (r, e)) (hn : L.map Tr.np = r.L.map Tr.np) : parseR s' = .ok r.L := by
 unfold parseR at h ⊢
 rw [hl]
 simp only [hr]
 cases hl1 : lexR s with
 | error ek => rw [hl1] at h; cases h
 | ok tp1 =>
  rw [hl1] at h
  simp only at h
  split at h
  ·cases h
  ·split at h
   ·cases h
   ·rename_i x _ _ hc
    split at h
    ·cases h
    ·rename_i hd
     simp only [Except.ok.injEq] at h
     subst h
     rw [if_neg (by rw [← np_cntL _ _ hn]; exact hc), np_deep _ _ _ _ _ hn hd]
/-- What is told was read. -/
theorem parse_read {s : ByteArray} {L : List Tr} (h : parseR s = .ok L) : ∃ tp r e, lexR s = .ok tp ∧ reads (srcT tp) .items 0 = .ok (r, e) ∧ r.L = L ∧ 1 + cntL L ≤ 4096 := by
 unfold parseR at h
 cases hl1 : lexR s with
 | error ek => rw [hl1] at h; cases h
 | ok tp1 =>
  rw [hl1] at h
  simp only at h
  cases hr : reads (srcT tp1) .items 0 with
  | error m => rw [hr] at h; cases h
  | ok xj =>
   obtain ⟨x, j⟩ := xj
   rw [hr] at h
   simp only at h
   split at h
   ·cases h
   ·split at h
    ·cases h
    ·simp only [Except.ok.injEq] at h
     subst h
     exact ⟨tp1, x, j, rfl, hr, rfl, by omega⟩
theorem parse_wrong {s : ByteArray} {tp : List (Tk × Nat)} {m : Nat} (hl : lexR s = .ok tp) (hr : reads (srcT tp) .items 0 = .error m) : parseR s = .error (21, plM (toks s tp) m) := by
 unfold parseR
 rw [hl]
 simp only [hr]
theorem parse_big {s : ByteArray} (h : 4096 < s.size) : parseR s = .error (4, 0) := by
 unfold parseR lexR
 rw [if_pos h]
 simp
/-- The kinds of a source's tokens. -/
theorem src_toks {s : ByteArray} {tp : List (Tk × Nat)} (h : lexR s = .ok tp) : Toks (srcT tp) := by
 have hk : ∀ {l r : List UInt8} {t : Tk}, tokAt docW l = .ok (t, r) → t.kind ≠ 0 := by
  intro l r t h
  unfold tokAt at h
  split at h
  ·cases h
  ·split at h
   ·simp only [Except.ok.injEq, Prod.mk.injEq] at h
    obtain ⟨rfl, _⟩ := h
    simp only
    split
    ·decide
    ·split <;> decide
   ·split at h
    ·split at h
     ·cases h
     ·split at h
      ·cases h
      ·simp only [Except.ok.injEq, Prod.mk.injEq] at h
       obtain ⟨rfl, _⟩ := h
       show (1 : Int) ≠ 0
       decide
    ·split at h
     ·split at h
      ·simp only [Except.ok.injEq, Prod.mk.injEq] at h
       obtain ⟨rfl, _⟩ := h
       show (2 : Int) ≠ 0
       decide
      ·cases h
     ·split at h
      ·simp only [Except.ok.injEq, Prod.mk.injEq] at h
       obtain ⟨rfl, _⟩ := h
       show (5 : Int) ≠ 0
       decide
      ·cases h
 have hx : ∀ {l : List UInt8} {ts : List (Tk × Nat)}, Lexes docW l ts → ∀ p ∈ ts, p.1.kind ≠ 0 := by
  intro l ts h
  induction h with
  | nil => intro p hp; cases hp
  | blank hc h ih => exact ih
  | comment hc h ih => exact ih
  | tok hb hn ht h ih =>
   intro p hp
   rcases List.mem_cons.1 hp with rfl | hp
   ·exact hk ht
   ·exact ih p hp
 intro t ht
 unfold srcT at ht
 obtain ⟨p, hp, rfl⟩ := List.mem_map.1 ht
 exact hx (lexR_lexes h).2 p hp
/-- A source behind 'let _ =' and a blank. -/
theorem let_lexes {s own : ByteArray} {vs : List (Tk × Nat)} (ho : own.data.toList = letB ++ 32 :: s.data.toList) (hv : lexR own = .ok vs) : ∃ tp, Lexes docW s.data.toList tp ∧ srcT vs = u3 ++ srcT tp := by
 have h1 : Lexes docW letB [(⟨5, [108, 101, 116], 0⟩, 7), (⟨5, [95], 0⟩, 3), (⟨5, [61], 0⟩, 1)] := lexF_lexes 10 _ (by kernel_rfl)
 have h2 := (lexR_lexes hv).2
 rw [suf_zero, ho] at h2
 obtain ⟨us, hu, rfl⟩ := lexes_split docSigns (by decide) h1 h2
 exact ⟨us, hu, by simp [srcT, u3]⟩
theorem lexes_R {s : ByteArray} {ts : List (Tk × Nat)} (hs : s.size ≤ 4096) (h : Lexes docW s.data.toList ts) : lexR s = .ok ts := lexR_of hs (by rw [suf_zero]; exact h)
/-- A source that begins with a star begins with that sign. -/
theorem lexes_star {x : List UInt8} {ts : List (Tk × Nat)} (h : Lexes docW (42 :: x) ts) : isS [42] (tk (srcT ts) 0) = true := by
 generalize hl : 42 :: x = l at h
 cases h with
 | nil => cases hl
 | blank hc' h' =>
          cases hl; have : blankB 42 = false := by decide
          rw [this] at hc'; cases hc'
 | comment hc' h' => cases hl
 | @tok _ r t ts' hb' hn' ht' h' =>
  subst hl
  have e : tokAt docW (42 :: x) = .ok (⟨5, [42], 0⟩, (42 :: x).drop 1) := by
   unfold tokAt
   simp only
   rw [if_neg (by decide), if_neg (by decide), if_neg (by decide)]
   have hf : docW.signs.find? (fun s => s.isPrefixOf (42 :: x)) = some [42] := by
    show signsL.find? _ = _
    simp [signsL, List.isPrefixOf, List.find?]
   rw [hf]
   rfl
  rw [e] at ht'
  cases ht'
  rfl
end Go.Proofs.YthjmakjhidjbaaaGreat
