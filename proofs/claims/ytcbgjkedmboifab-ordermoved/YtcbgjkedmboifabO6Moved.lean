/-
  Layer 6, plain: where things lie changes nothing: if words are moved, one by one, and what they lead to with them, all compares and hashes as it did. No program is named.
-/
import Derived.Test.YtcbgjkedmboifabO6More
namespace Go.Proofs.Ytcbgjkedmboifab
set_option linter.unusedVariables false
set_option maxHeartbeats 1000000

/-- What a word is when its parts are moved. -/
def Nd.moved (f : Int → Int) : Nd → Nd
  | .blk t F => .blk t (F.map f)
  | n => n
theorem moved_wrong (f : Int → Int) (n : Nd) : (n.moved f).wrong = n.wrong := by cases n <;> rfl
theorem moved_key (f : Int → Int) (n : Nd) : (n.moved f).key = n.key := by cases n <;> simp [Nd.moved, Nd.key]
theorem moved_parts (f : Int → Int) (n : Nd) : (n.moved f).parts = n.parts.map f := by cases n <;> simp [Nd.moved, Nd.parts]
theorem moved_mixed (f : Int → Int) (mix : Int → Int → Int) (h : Int) (n : Nd) : (n.moved f).mixed mix h = n.mixed mix h := by cases n <;> simp [Nd.moved, Nd.mixed]
/-- Words that R holds are moved by f; what nothing is wrong with leads to the same, moved. -/
structure MovedBy (nd nd' : Int → Nd) (f : Int → Int) (R : Int → Prop) : Prop where
  nds : ∀ x, R x → (nd x).wrong = 0 → nd' (f x) = (nd x).moved f
  parts : ∀ x, R x → (nd x).wrong = 0 → ∀ y, y ∈ (nd x).parts → R y
  inj : ∀ x y, R x → R y → (nd x).wrong = 0 → (nd y).wrong = 0 → f x = f y → x = y
def both2 (f : Int → Int) (p : Int × Int) : Int × Int := (f p.1, f p.2)
theorem zip_both (f : Int → Int) : ∀ A B : List Int, (A.map f).zip (B.map f) = (A.zip B).map (both2 f)
  | [], _ => by simp
  | _ :: _, [] => by simp
  | a :: A, b :: B => by simp [zip_both f A B, both2]
variable {nd nd' : Int → Nd} {f : Int → Int} {R : Int → Prop}
theorem pair_moved (h : MovedBy nd nd' f R) {x y : Int} (hx : R x) (hy : R y) (he : (pairOut nd x y).1 = 0) : pairOut nd' (f x) (f y) = (0, (pairOut nd x y).2.1, (pairOut nd x y).2.2.map (both2 f)) := by
  obtain ⟨wx, wy⟩ := pair_ok he
  have nx := h.nds x hx wx
  have ny := h.nds y hy wy
  have A : pairOut nd x y = if x = y then (0, 0, []) else (0, sgnL (nd x).key (nd y).key, if sgnL (nd x).key (nd y).key = 0 then (nd x).parts.zip (nd y).parts else []) := by
    unfold pairOut
    rw [if_neg (by rw [wx, wy]; decide), if_neg (by rw [wx, wy]; decide)]
  have B : pairOut nd' (f x) (f y) = if f x = f y then (0, 0, []) else (0, sgnL (nd x).key (nd y).key, if sgnL (nd x).key (nd y).key = 0 then ((nd x).parts.map f).zip ((nd y).parts.map f) else []) := by
    unfold pairOut
    rw [nx, ny, moved_wrong, moved_wrong, moved_key, moved_key, moved_parts, moved_parts, if_neg (by rw [wx, wy]; decide), if_neg (by rw [wx, wy]; decide)]
  rw [A, B]
  by_cases e : x = y
  · rw [if_pos e, if_pos (by rw [e])]; rfl
  · rw [if_neg e, if_neg (fun c => e (h.inj x y hx hy wx wy c))]
    simp only
    by_cases e0 : sgnL (nd x).key (nd y).key = 0
    · rw [if_pos e0, if_pos e0, zip_both]
    · rw [if_neg e0, if_neg e0]; rfl
theorem goC_moved (h : MovedBy nd nd' f R) (room : Int) : ∀ (k : Nat) (ws : List (Int × Int)), (∀ p, p ∈ ws → R p.1 ∧ R p.2) → (goC nd room k ws).2.2 = 0 → goC nd' room k (ws.map (both2 f)) = goC nd room k ws
  | 0, [], _, _ => by simp [goC]
  | _ + 1, [], _, _ => by simp [goC]
  | 0, _ :: _, _, he => absurd he (by show ¬ (13 : Int) = 0; decide)
  | k + 1, (x, y) :: ws, hR, he => by
    obtain ⟨hx, hy⟩ := hR (x, y) List.mem_cons_self
    have hR2 : ∀ p, p ∈ ws → R p.1 ∧ R p.2 := fun p hp => hR p (List.mem_cons_of_mem _ hp)
    rw [List.map_cons]
    show goC nd' room (k + 1) ((f x, f y) :: ws.map (both2 f)) = _
    rw [goC] at he ⊢
    rw [goC]
    by_cases h1 : (pairOut nd x y).1 ≠ 0
    · rw [if_pos h1] at he; exact absurd he h1
    · have h0 : (pairOut nd x y).1 = 0 := Classical.byContradiction h1
      have hp := pair_moved h hx hy h0
      rw [if_neg h1] at he ⊢
      rw [hp, if_neg (fun c => c rfl)]
      simp only
      by_cases h2 : (pairOut nd x y).2.1 ≠ 0
      · rw [if_pos h2, if_pos h2]
      · rw [if_neg h2] at he ⊢
        rw [if_neg h2]
        rw [List.length_map, List.length_map, ← List.map_append]
        by_cases h3 : (pairOut nd x y).2.2 ≠ [] ∧ room < 2 * ((pairOut nd x y).2.2.length + ws.length : Nat)
        · rw [if_pos h3] at he; exact absurd he (by show ¬ (11 : Int) = 0; decide)
        · rw [if_neg h3] at he ⊢
          rw [if_neg (fun c => h3 ⟨fun e => c.1 (by rw [e]; rfl), c.2⟩)]
          have hR3 : ∀ p, p ∈ (pairOut nd x y).2.2 ++ ws → R p.1 ∧ R p.2 := by
            intro p hp2
            rcases List.mem_append.1 hp2 with hp2 | hp2
            · obtain ⟨wx, wy⟩ := pair_ok h0
              unfold pairOut at hp2
              rw [if_neg (by rw [wx, wy]; decide), if_neg (by rw [wx, wy]; decide)] at hp2
              split at hp2
              · cases hp2
              · simp only at hp2
                split at hp2
                · exact ⟨h.parts x hx wx _ (List.of_mem_zip hp2).1, h.parts y hy wy _ (List.of_mem_zip hp2).2⟩
                · cases hp2
            · exact hR2 p hp2
          rw [goC_moved h room k _ hR3 he]
theorem goH_moved (h : MovedBy nd nd' f R) (mix : Int → Int → Int) (room : Int) : ∀ (k : Nat) (q : List Int) (a : Int), (∀ x, x ∈ q → R x) → (goH nd mix room k q a).2 = 0 → goH nd' mix room k (q.map f) a = goH nd mix room k q a
  | 0, _, _, _, _ => rfl
  | _ + 1, [], _, _, _ => rfl
  | k + 1, x :: q, a, hR, he => by
    have hx := hR x List.mem_cons_self
    rw [List.map_cons]
    rw [goH] at he ⊢
    rw [goH]
    by_cases h1 : (nd x).wrong ≠ 0
    · rw [if_pos h1] at he; exact absurd he h1
    · have wx : (nd x).wrong = 0 := Classical.byContradiction h1
      have nx := h.nds x hx wx
      rw [if_neg h1] at he ⊢
      rw [nx, moved_wrong, moved_key, moved_parts, moved_mixed, if_neg h1, List.length_map, List.length_map, ← List.map_append]
      by_cases h3 : (nd x).key.head? = some 1 ∧ (nd x).key[2]? = some 0 ∧ room < (q.length + (nd x).parts.length : Nat)
      · rw [if_pos h3] at he; exact absurd he (by show ¬ (11 : Int) = 0; decide)
      · rw [if_neg h3] at he ⊢
        rw [if_neg h3]
        exact goH_moved h mix room k _ _ (fun y hy => by
          rcases List.mem_append.1 hy with hy | hy
          · exact hR y (List.mem_cons_of_mem _ hy)
          · exact h.parts x hx wx y hy) he
end Go.Proofs.Ytcbgjkedmboifab
