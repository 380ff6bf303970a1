/-
  Layer 6, plain: what doesn't differ has one hash; with more room or steps what was told is told; parts of two blocks decide in their order. No program is named.
-/
import Derived.Test.YtcbgjkedmboifabO6Order
namespace Go.Proofs.Ytcbgjkedmboifab
set_option linter.unusedVariables false
set_option maxHeartbeats 1000000

/-- What a word adds to a hash. -/
def Nd.mixed (mix : Int → Int → Int) (h : Int) : Nd → Int
  | .num z => mix h z
  | .txt l => (l.take 64).foldl mix (mix h 3)
  | .blk t F => mix h (5 * t + F.length)
  | _ => h
/-- The hash of a queue: so many words more are taken out of it. -/
def goH (nd : Int → Nd) (mix : Int → Int → Int) (room : Int) : Nat → List Int → Int → Int × Int
  | 0, _, h => (h, 0)
  | _ + 1, [], h => (h, 0)
  | k + 1, x :: q, h =>
    if (nd x).wrong ≠ 0 then (0, (nd x).wrong)
    else if (nd x).key.head? = some 1 ∧ (nd x).key[2]? = some 0 ∧ room < (q.length + (nd x).parts.length : Nat) then (0, 11)
    else goH nd mix room k (q ++ (nd x).parts) ((nd x).mixed mix h)
def Alike (nd : Int → Nd) (x y : Int) : Prop := ∃ m, Held nd m [(x, y)] 0
theorem alike_refl (nd : Int → Nd) (x : Int) : Alike nd x x := ⟨0, .skip .nil⟩
theorem held_split {nd : Int → Nd} : ∀ (m : Nat) (ps ws : List (Int × Int)), Held nd m (ps ++ ws) 0 → (∃ a, Held nd a ps 0) ∧ ∃ b, Held nd b ws 0 := by
  intro m
  induction m using Nat.strongRecOn with
  | _ m ih =>
    intro ps
    induction ps with
    | nil => intro ws h; exact ⟨⟨0, .nil⟩, m, h⟩
    | cons p ps ihp =>
      obtain ⟨x, y⟩ := p
      intro ws h
      rcases Held.inv h with ⟨rfl, g⟩ | ⟨_, _, _, c, e⟩ | ⟨a, b, c, d, j, rfl, g⟩
      · obtain ⟨⟨a, ha⟩, hb⟩ := ihp ws g
        exact ⟨⟨a, .skip ha⟩, hb⟩
      · exact absurd e.symm c
      · have g : Held nd j ((nd x).parts.zip (nd y).parts ++ (ps ++ ws)) 0 := g
        rw [← List.append_assoc] at g
        obtain ⟨⟨a', ha⟩, hb⟩ := ih j (Nat.lt_succ_self _) _ ws g
        exact ⟨⟨a' + 1, .push a b c d ha⟩, hb⟩
/-- Two rows, one by one alike. -/
def AllAlike (nd : Int → Nd) : List Int → List Int → Prop
  | [], [] => True
  | x :: l, y :: m => Alike nd x y ∧ AllAlike nd l m
  | _, _ => False
theorem allAlike_refl (nd : Int → Nd) : ∀ l, AllAlike nd l l
  | [] => trivial
  | x :: l => ⟨alike_refl nd x, allAlike_refl nd l⟩
theorem allAlike_append {nd : Int → Nd} : ∀ {a b c d : List Int}, AllAlike nd a b → AllAlike nd c d → AllAlike nd (a ++ c) (b ++ d)
  | [], [], _, _, _, h => h
  | x :: a, y :: b, _, _, h, h2 => ⟨h.1, allAlike_append h.2 h2⟩
  | [], _ :: _, _, _, h, _ => h.elim
  | _ :: _, [], _, _, h, _ => h.elim
theorem allAlike_len {nd : Int → Nd} : ∀ {a b : List Int}, AllAlike nd a b → a.length = b.length
  | [], [], _ => rfl
  | x :: a, y :: b, h => by rw [List.length_cons, List.length_cons, allAlike_len h.2]
  | [], _ :: _, h => h.elim
  | _ :: _, [], h => h.elim
theorem alike_zip {nd : Int → Nd} : ∀ (m : Nat) (A B : List Int), A.length = B.length → Held nd m (A.zip B) 0 → AllAlike nd A B
  | _, [], [], _, _ => trivial
  | m, x :: A, y :: B, h, g => by
    obtain ⟨⟨a, ha⟩, b, hb⟩ := held_split m [(x, y)] (A.zip B) g
    exact ⟨⟨a, ha⟩, alike_zip b A B (by simpa using h) hb⟩
  | _, [], _ :: _, h, _ => by cases h
  | _, _ :: _, [], h, _ => by cases h
/-- Who are alike are the same word, or of one kind with parts that are alike. -/
theorem alike_inv {nd : Int → Nd} {x y : Int} (h : Alike nd x y) : (nd x).wrong = (nd y).wrong ∧ (nd x).key = (nd y).key ∧ AllAlike nd (nd x).parts (nd y).parts := by
  obtain ⟨m, h⟩ := h
  rcases h.inv with ⟨rfl, _⟩ | ⟨_, _, _, c, e⟩ | ⟨a, b, c, d, j, rfl, g⟩
  · exact ⟨rfl, rfl, allAlike_refl _ _⟩
  · exact absurd e.symm c
  · rw [List.append_nil] at g
    exact ⟨by rw [b, c], sgnL_eq d, alike_zip j _ _ (key_parts (sgnL_eq d)) g⟩
theorem mixed_key {mix : Int → Int → Int} {h : Int} {a b : Nd} (e : a.key = b.key) (w : a.wrong = b.wrong) : a.mixed mix h = b.mixed mix h := by
  cases a <;> cases b <;> simp [Nd.key, Nd.wrong, Nd.mixed] at e w ⊢
  · rw [e]
  · rw [e]
  · rw [e.1, e.2]
/-- What doesn't differ has one hash. -/
theorem goH_alike (nd : Int → Nd) (mix : Int → Int → Int) (room : Int) : ∀ (k : Nat) (q q' : List Int) (h : Int), AllAlike nd q q' → goH nd mix room k q h = goH nd mix room k q' h
  | 0, _, _, _, _ => rfl
  | _ + 1, [], [], _, _ => rfl
  | k + 1, x :: q, y :: q', h, hq => by
    obtain ⟨e1, e2, e3⟩ := alike_inv hq.1
    unfold goH
    rw [e1, e2, mixed_key e2 e1, allAlike_len hq.2, allAlike_len e3, goH_alike nd mix room k _ _ _ (allAlike_append hq.2 e3)]
  | _ + 1, [], _ :: _, _, hq => hq.elim
  | _ + 1, _ :: _, [], _, hq => hq.elim
theorem cmpC_alike {nd : Int → Nd} {x y room steps : Int} (h0 : (cmpC nd x y room steps).2.2 = 0) (h1 : (cmpC nd x y room steps).1 = 0) : Alike nd x y := by
  by_cases h : room < 2
  · unfold cmpC at h0; rw [if_pos h] at h0; exact absurd h0 (by show ¬ (11 : Int) = 0; decide)
  · have f : cmpC nd x y room steps = goC nd room steps.toNat [(x, y)] := by unfold cmpC; rw [if_neg h]
    rw [f] at h0 h1
    obtain ⟨m, g⟩ := goC_held nd room _ _ h0
    rw [h1] at g
    exact ⟨m, g⟩
/-- More room, more steps. -/
theorem goC_steps (nd : Int → Nd) (room : Int) : ∀ (k : Nat) (ws : List (Int × Int)), 0 ≤ (goC nd room k ws).2.1 ∧ (goC nd room k ws).2.1 ≤ k ∧ ((goC nd room k ws).2.2 = 13 → (goC nd room k ws).2.1 = k ∧ (goC nd room k ws).1 = 0)
  | 0, [] => by unfold goC; exact ⟨Int.le_refl _, Int.le_refl _, fun h => by cases h⟩
  | k + 1, [] => by unfold goC; exact ⟨Int.le_refl _, by show (0 : Int) ≤ _; omega, fun h => by cases h⟩
  | 0, _ :: _ => by unfold goC; exact ⟨Int.le_refl _, Int.le_refl _, fun _ => ⟨rfl, rfl⟩⟩
  | k + 1, (x, y) :: ws => by
    have ih := goC_steps nd room k ((pairOut nd x y).2.2 ++ ws)
    have hp : (pairOut nd x y).1 = 0 ∨ (pairOut nd x y).1 = 6 ∨ (pairOut nd x y).1 = 12 := by
      unfold pairOut
      split
      · exact Or.inr (Or.inr rfl)
      · split
        · exact Or.inr (Or.inl rfl)
        · split <;> exact Or.inl rfl
    unfold goC
    split
    · show (0 : Int) ≤ 1 ∧ (1 : Int) ≤ ((k + 1 : Nat) : Int) ∧ ((pairOut nd x y).1 = 13 → (1 : Int) = ((k + 1 : Nat) : Int) ∧ (0 : Int) = 0)
      omega
    · split
      · exact ⟨by show (0 : Int) ≤ 1; decide, by show (1 : Int) ≤ _; omega, fun h => by cases h⟩
      · split
        · exact ⟨by show (0 : Int) ≤ 1; decide, by show (1 : Int) ≤ _; omega, fun h => by cases h⟩
        · obtain ⟨i1, i2, i3⟩ := ih
          refine ⟨?_, ?_, fun h => ?_⟩
          · show 0 ≤ (goC nd room k _).2.1 + 1; omega
          · show (goC nd room k _).2.1 + 1 ≤ ((k + 1 : Nat) : Int); omega
          · have := i3 h
            refine ⟨?_, this.2⟩
            show (goC nd room k _).2.1 + 1 = ((k + 1 : Nat) : Int); omega
theorem goC_more (nd : Int → Nd) {room room' : Int} (hr : room ≤ room') : ∀ (k k' : Nat) (ws : List (Int × Int)), k ≤ k' → ((goC nd room k ws).2.2 ≠ 11 → (goC nd room k ws).2.2 ≠ 13 → goC nd room' k' ws = goC nd room k ws) ∧ ((goC nd room k ws).2.2 = 13 → (goC nd room k ws).2.1 ≤ (goC nd room' k' ws).2.1)
  | 0, 0, [], _ => by unfold goC; exact ⟨fun _ _ => rfl, fun h => by cases h⟩
  | 0, k' + 1, [], _ => by unfold goC; exact ⟨fun _ _ => rfl, fun h => by cases h⟩
  | k + 1, 0, _, h => absurd h (by omega)
  | k + 1, k' + 1, [], _ => by unfold goC; exact ⟨fun _ _ => rfl, fun h => by cases h⟩
  | 0, k', p :: ws, _ => by
    have := (goC_steps nd room' k' (p :: ws)).1
    rw [show goC nd room 0 (p :: ws) = (0, 0, 13) from by unfold goC; rfl]
    exact ⟨fun _ h => absurd rfl h, fun _ => this⟩
  | k + 1, k' + 1, (x, y) :: ws, h => by
    obtain ⟨i1, i2⟩ := goC_more nd hr k k' ((pairOut nd x y).2.2 ++ ws) (by omega)
    have st := (goC_steps nd room' k' ((pairOut nd x y).2.2 ++ ws)).1
    unfold goC
    by_cases h1 : (pairOut nd x y).1 ≠ 0
    · rw [if_pos h1, if_pos h1]
      exact ⟨fun _ _ => rfl, fun _ => Int.le_refl _⟩
    · rw [if_neg h1, if_neg h1]
      by_cases h2 : (pairOut nd x y).2.1 ≠ 0
      · rw [if_pos h2, if_pos h2]
        exact ⟨fun _ _ => rfl, fun _ => Int.le_refl _⟩
      · rw [if_neg h2, if_neg h2]
        by_cases h3 : (pairOut nd x y).2.2 ≠ [] ∧ room < 2 * ((pairOut nd x y).2.2.length + ws.length : Nat)
        · rw [if_pos h3]
          exact ⟨fun c => absurd rfl c, fun c => by cases c⟩
        · rw [if_neg h3, if_neg (fun c => h3 ⟨c.1, by omega⟩)]
          refine ⟨fun c1 c2 => ?_, fun c => ?_⟩
          · rw [i1 c1 c2]
          · have := i2 c
            show (goC nd room k _).2.1 + 1 ≤ (goC nd room' k' _).2.1 + 1
            omega
/-- Where blocks have few parts there is always room enough. -/
theorem goC_wide (nd : Int → Nd) (B : Nat) (hB : ∀ x, (nd x).parts.length ≤ B) (room : Int) : ∀ (k : Nat) (ws : List (Int × Int)), (2 * (ws.length + B * k : Nat) : Int) ≤ room → (goC nd room k ws).2.2 ≠ 11
  | 0, [], _ => by unfold goC; decide
  | _ + 1, [], _ => by unfold goC; decide
  | 0, _ :: _, _ => by unfold goC; decide
  | k + 1, (x, y) :: ws, h => by
    have hp : (pairOut nd x y).1 = 0 ∨ (pairOut nd x y).1 = 6 ∨ (pairOut nd x y).1 = 12 := by
      unfold pairOut
      split
      · exact Or.inr (Or.inr rfl)
      · split
        · exact Or.inr (Or.inl rfl)
        · split <;> exact Or.inl rfl
    have hl : (pairOut nd x y).2.2.length ≤ B := by
      unfold pairOut
      split
      · exact Nat.zero_le _
      · split
        · exact Nat.zero_le _
        · split
          · exact Nat.zero_le _
          · show (if _ then _ else []).length ≤ B
            split
            · rw [List.length_zip]; have := hB x; omega
            · exact Nat.zero_le _
    rw [List.length_cons, Nat.mul_succ] at h
    have ih := goC_wide nd B hB room k ((pairOut nd x y).2.2 ++ ws) (by rw [List.length_append]; omega)
    unfold goC
    split
    · show (pairOut nd x y).1 ≠ 11; omega
    · split
      · show (0 : Int) ≠ 11; decide
      · rw [if_neg (fun c => by have := c.2; omega)]
        exact ih
/-- One row of pairs behind another one. -/
theorem goC_append (nd : Int → Nd) (B : Nat) (hB : ∀ x, (nd x).parts.length ≤ B) (room : Int) : ∀ (k : Nat) (ps ws : List (Int × Int)), (2 * (ps.length + ws.length + B * k : Nat) : Int) ≤ room →
    goC nd room k (ps ++ ws) = if (goC nd room k ps).2.2 ≠ 0 ∨ (goC nd room k ps).1 ≠ 0 then goC nd room k ps else ((goC nd room (k - (goC nd room k ps).2.1.toNat) ws).1, (goC nd room k ps).2.1 + (goC nd room (k - (goC nd room k ps).2.1.toNat) ws).2.1, (goC nd room (k - (goC nd room k ps).2.1.toNat) ws).2.2)
  | k, [], ws, _ => by
    have e : goC nd room k [] = (0, 0, 0) := by cases k <;> (unfold goC; rfl)
    rw [e, List.nil_append, if_neg (by decide)]
    simp
  | 0, p :: ps, ws, _ => by
    have e : ∀ l, goC nd room 0 (p :: l) = (0, 0, 13) := fun l => by unfold goC; rfl
    rw [List.cons_append, e, e, if_pos (Or.inl (by decide))]
  | k + 1, (x, y) :: ps, ws, h => by
    have hl : (pairOut nd x y).2.2.length ≤ B := by
      unfold pairOut
      split
      · exact Nat.zero_le _
      · split
        · exact Nat.zero_le _
        · split
          · exact Nat.zero_le _
          · show (if _ then _ else []).length ≤ B
            split
            · rw [List.length_zip]; have := hB x; omega
            · exact Nat.zero_le _
    rw [List.length_cons, Nat.mul_succ] at h
    have ih := goC_append nd B hB room k ((pairOut nd x y).2.2 ++ ps) ws (by rw [List.length_append]; omega)
    have st := (goC_steps nd room k ((pairOut nd x y).2.2 ++ ps)).1
    rw [List.append_assoc] at ih
    show goC nd room (k + 1) ((x, y) :: (ps ++ ws)) = _
    by_cases h1 : (pairOut nd x y).1 ≠ 0
    · have e : ∀ l, goC nd room (k + 1) ((x, y) :: l) = (0, 1, (pairOut nd x y).1) := fun l => by rw [goC, if_pos h1]
      rw [e, e, if_pos (Or.inl h1)]
    · by_cases h2 : (pairOut nd x y).2.1 ≠ 0
      · have e : ∀ l, goC nd room (k + 1) ((x, y) :: l) = ((pairOut nd x y).2.1, 1, 0) := fun l => by rw [goC, if_neg h1, if_pos h2]
        rw [e, e, if_pos (Or.inr h2)]
      · have e : ∀ l : List (Int × Int), l.length ≤ ps.length + ws.length → goC nd room (k + 1) ((x, y) :: l) = ((goC nd room k ((pairOut nd x y).2.2 ++ l)).1, (goC nd room k ((pairOut nd x y).2.2 ++ l)).2.1 + 1, (goC nd room k ((pairOut nd x y).2.2 ++ l)).2.2) := by
          intro l hl2
          rw [goC, if_neg h1, if_neg h2, if_neg (fun c => by have := c.2; omega)]
        rw [e (ps ++ ws) (by rw [List.length_append]; omega), e ps (by omega), ih]
        by_cases c : (goC nd room k ((pairOut nd x y).2.2 ++ ps)).2.2 ≠ 0 ∨ (goC nd room k ((pairOut nd x y).2.2 ++ ps)).1 ≠ 0
        · rw [if_pos c, if_pos c]
        · rw [if_neg c, if_neg c]
          simp only
          have ek : k + 1 - ((goC nd room k ((pairOut nd x y).2.2 ++ ps)).2.1 + 1).toNat = k - (goC nd room k ((pairOut nd x y).2.2 ++ ps)).2.1.toNat := by omega
          rw [ek]
          simp only [Prod.mk.injEq, true_and, and_true]
          omega
/-- Part by part, till one decides: who is less, what is wrong. -/
def partsC (nd : Int → Nd) (room : Int) (n : Nat) : List (Int × Int) → Int × Int
  | [] => (0, 0)
  | p :: ps => if (goC nd room n [p]).1 = 0 ∧ (goC nd room n [p]).2.2 = 0 then partsC nd room n ps else ((goC nd room n [p]).1, (goC nd room n [p]).2.2)
theorem parts_row (nd : Int → Nd) (B : Nat) (hB : ∀ x, (nd x).parts.length ≤ B) (room : Int) (n : Nat) : ∀ (ps : List (Int × Int)) (k : Nat), k ≤ n → (2 * (ps.length + B * n : Nat) : Int) ≤ room → (goC nd room k ps).2.2 ≠ 13 → ((goC nd room k ps).1, (goC nd room k ps).2.2) = partsC nd room n ps
  | [], k, _, _, _ => by
    have e : goC nd room k [] = (0, 0, 0) := by cases k <;> (unfold goC; rfl)
    rw [e]; rfl
  | p :: ps, k, hk, hr, h => by
    rw [List.length_cons] at hr
    have hm := Nat.mul_le_mul_left B hk
    have ea := goC_append nd B hB room k [p] ps (by rw [List.length_singleton]; omega)
    rw [List.singleton_append] at ea
    have h11 := goC_wide nd B hB room k [p] (by rw [List.length_singleton]; omega)
    rw [ea] at h ⊢
    by_cases c : (goC nd room k [p]).2.2 ≠ 0 ∨ (goC nd room k [p]).1 ≠ 0
    · rw [if_pos c] at h ⊢
      have same := (goC_more nd (Int.le_refl room) k n [p] hk).1 h11 h
      unfold partsC
      rw [same, if_neg (fun d => c.elim (fun c => c d.2) (fun c => c d.1))]
    · rw [if_neg c] at h ⊢
      have h0 : (goC nd room k [p]).2.2 = 0 := Classical.byContradiction (fun d => c (Or.inl d))
      have h1 : (goC nd room k [p]).1 = 0 := Classical.byContradiction (fun d => c (Or.inr d))
      have same := (goC_more nd (Int.le_refl room) k n [p] hk).1 h11 (by rw [h0]; decide)
      unfold partsC
      rw [same, if_pos ⟨h1, h0⟩]
      exact parts_row nd B hB room n ps _ (by omega) (by omega) h
end Go.Proofs.Ytcbgjkedmboifab
