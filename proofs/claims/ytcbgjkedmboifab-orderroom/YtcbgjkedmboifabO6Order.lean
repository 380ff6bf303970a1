/-
  Layer 6: an order of values, plain: what a word is (a number, a text, a block, nothing, a function), lists of pairs that are held against each other, one by one; whoever is less, turned, from less to less; no program is named.
-/
namespace Go.Proofs.Ytcbgjkedmboifab
set_option linter.unusedVariables false
set_option maxHeartbeats 1000000

/-- What a word leads to. -/
inductive Nd where
  | num (z : Int)
  | txt (l : List Int)
  | blk (t : Int) (F : List Int)
  | bad
  | fn
/-- -1, 0 or 1: of two numbers. -/
def sgn (a b : Int) : Int := if a < b then -1 else if b < a then 1 else 0
/-- Of two rows of numbers: the first that differ decide; a beginning is less. -/
def sgnL : List Int → List Int → Int
  | [], [] => 0
  | [], _ :: _ => -1
  | _ :: _, [] => 1
  | a :: l, b :: m => if a < b then -1 else if b < a then 1 else sgnL l m
theorem sgnL_turn : ∀ l m, sgnL l m = - sgnL m l
  | [], [] => rfl
  | [], _ :: _ => rfl
  | _ :: _, [] => rfl
  | a :: l, b :: m => by
    unfold sgnL
    have := sgnL_turn l m
    by_cases h1 : a < b
    · rw [if_pos h1, if_neg (by omega), if_pos h1]
    · by_cases h2 : b < a
      · rw [if_neg h1, if_pos h2, if_pos h2]; rfl
      · rw [if_neg h1, if_neg h2, if_neg h2, if_neg h1]; exact this
theorem sgnL_self : ∀ l, sgnL l l = 0
  | [] => rfl
  | a :: l => by unfold sgnL; rw [if_neg (by omega), if_neg (by omega)]; exact sgnL_self l
theorem sgnL_three : ∀ l m, sgnL l m = -1 ∨ sgnL l m = 0 ∨ sgnL l m = 1
  | [], [] => Or.inr (Or.inl rfl)
  | [], _ :: _ => Or.inl rfl
  | _ :: _, [] => Or.inr (Or.inr rfl)
  | a :: l, b :: m => by
    unfold sgnL
    split
    · exact Or.inl rfl
    · split
      · exact Or.inr (Or.inr rfl)
      · exact sgnL_three l m
theorem sgnL_eq : ∀ {l m}, sgnL l m = 0 → l = m
  | [], [], _ => rfl
  | [], _ :: _, h => by cases h
  | _ :: _, [], h => by cases h
  | a :: l, b :: m, h => by
    unfold sgnL at h
    split at h
    · cases h
    · split at h
      · cases h
      · rw [sgnL_eq h, show a = b from by omega]
theorem sgnL_row : ∀ {l m n}, sgnL l m = -1 → sgnL m n = -1 → sgnL l n = -1
  | [], [], _, h, _ => by cases h
  | [], _ :: _, [], _, h => by cases h
  | [], _ :: _, _ :: _, _, _ => rfl
  | _ :: _, [], _, h, _ => by cases h
  | _ :: _, _ :: _, [], _, h => by cases h
  | a :: l, b :: m, c :: n, h1, h2 => by
    unfold sgnL at h1 h2 ⊢
    by_cases e1 : a < b
    · by_cases e2 : b < c
      · rw [if_pos (by omega)]
      · rw [if_neg e2] at h2
        by_cases e3 : c < b
        · rw [if_pos e3] at h2; cases h2
        · rw [if_pos (by omega)]
    · rw [if_neg e1] at h1
      by_cases e2 : b < a
      · rw [if_pos e2] at h1; cases h1
      · rw [if_neg e2] at h1
        by_cases e3 : b < c
        · rw [if_pos (by omega)]
        · rw [if_neg e3] at h2
          by_cases e4 : c < b
          · rw [if_pos e4] at h2; cases h2
          · rw [if_neg e4] at h2
            rw [if_neg (by omega), if_neg (by omega)]
            exact sgnL_row h1 h2
/-- What is held against each other first: a number's, or a block's tag, and its text or size. -/
def Nd.key : Nd → List Int
  | .num z => [0, z]
  | .txt l => 1 :: 202 :: 1 :: l
  | .blk t F => [1, t, 0, (F.length : Int)]
  | .bad => []
  | .fn => []
/-- The parts of a block. -/
def Nd.parts : Nd → List Int
  | .blk _ F => F
  | _ => []
/-- What is wrong with one. -/
def Nd.wrong : Nd → Int
  | .bad => 6
  | .fn => 12
  | _ => 0
/-- What comes of a pair: what is wrong, who is less, the pairs to be held next. -/
def pairOut (nd : Int → Nd) (x y : Int) : Int × Int × List (Int × Int) :=
  if (nd x).wrong = 12 ∨ (nd y).wrong = 12 then (12, 0, [])
  else if (nd x).wrong ≠ 0 ∨ (nd y).wrong ≠ 0 then (6, 0, [])
  else if x = y then (0, 0, [])
  else (0, sgnL (nd x).key (nd y).key, if sgnL (nd x).key (nd y).key = 0 then (nd x).parts.zip (nd y).parts else [])
/-- All pairs, the first one on top: who is less, how many steps were taken, what is wrong. -/
def goC (nd : Int → Nd) (room : Int) : Nat → List (Int × Int) → Int × Int × Int
  | _, [] => (0, 0, 0)
  | 0, _ :: _ => (0, 0, 13)
  | k + 1, (x, y) :: ws =>
    if (pairOut nd x y).1 ≠ 0 then (0, 1, (pairOut nd x y).1)
    else if (pairOut nd x y).2.1 ≠ 0 then ((pairOut nd x y).2.1, 1, 0)
    else if (pairOut nd x y).2.2 ≠ [] ∧ room < 2 * ((pairOut nd x y).2.2.length + ws.length : Nat) then (0, 1, 11)
    else ((goC nd room k ((pairOut nd x y).2.2 ++ ws)).1, (goC nd room k ((pairOut nd x y).2.2 ++ ws)).2.1 + 1, (goC nd room k ((pairOut nd x y).2.2 ++ ws)).2.2)
/-- What Compare tells. -/
def cmpC (nd : Int → Nd) (x y room steps : Int) : Int × Int × Int := if room < 2 then (0, 0, 11) else goC nd room steps.toNat [(x, y)]
def swapP : Int × Int → Int × Int := fun p => (p.2, p.1)
theorem pairOut_turn (nd : Int → Nd) (x y : Int) : pairOut nd y x = ((pairOut nd x y).1, - (pairOut nd x y).2.1, (pairOut nd x y).2.2.map swapP) := by
  unfold pairOut
  by_cases h1 : (nd x).wrong = 12 ∨ (nd y).wrong = 12
  · rw [if_pos h1, if_pos h1.symm]; rfl
  · rw [if_neg h1, if_neg (fun c => h1 c.symm)]
    by_cases h2 : (nd x).wrong ≠ 0 ∨ (nd y).wrong ≠ 0
    · rw [if_pos h2, if_pos h2.symm]; rfl
    · rw [if_neg h2, if_neg (fun c => h2 c.symm)]
      by_cases h3 : x = y
      · rw [if_pos h3, if_pos h3.symm]; rfl
      · rw [if_neg h3, if_neg (fun c => h3 c.symm)]
        have ht := sgnL_turn (nd y).key (nd x).key
        simp only
        rw [ht]
        by_cases h4 : sgnL (nd x).key (nd y).key = 0
        · rw [if_pos h4, if_pos (by omega)]
          have hz : ∀ (a b : List Int), b.zip a = (a.zip b).map swapP := by
            intro a
            induction a with
            | nil => intro b; simp
            | cons p a ih => intro b; cases b with
              | nil => simp
              | cons q b => simp [ih, swapP]
          rw [hz]
        · rw [if_neg h4, if_neg (by omega)]; rfl
theorem goC_turn (nd : Int → Nd) (room : Int) : ∀ (k : Nat) (ws : List (Int × Int)), goC nd room k (ws.map swapP) = (- (goC nd room k ws).1, (goC nd room k ws).2.1, (goC nd room k ws).2.2)
  | 0, [] => rfl
  | 0, _ :: _ => rfl
  | _ + 1, [] => rfl
  | k + 1, (x, y) :: ws => by
    show goC nd room (k + 1) ((y, x) :: ws.map swapP) = _
    unfold goC
    rw [pairOut_turn nd x y]
    simp only
    by_cases h1 : (pairOut nd x y).1 ≠ 0
    · rw [if_pos h1, if_pos h1]; rfl
    · rw [if_neg h1, if_neg h1]
      by_cases h2 : (pairOut nd x y).2.1 ≠ 0
      · rw [if_pos h2, if_pos (by omega)]
      · rw [if_neg h2, if_neg (by omega)]
        have hl : ((pairOut nd x y).2.2.map swapP ≠ [] ∧ room < 2 * (((pairOut nd x y).2.2.map swapP).length + (ws.map swapP).length : Nat)) ↔ ((pairOut nd x y).2.2 ≠ [] ∧ room < 2 * ((pairOut nd x y).2.2.length + ws.length : Nat)) := by
          rw [List.length_map, List.length_map]; simp
        by_cases h3 : (pairOut nd x y).2.2 ≠ [] ∧ room < 2 * ((pairOut nd x y).2.2.length + ws.length : Nat)
        · rw [if_pos h3, if_pos (hl.2 h3)]; rfl
        · rw [if_neg h3, if_neg (fun c => h3 (hl.1 c)), ← List.map_append, goC_turn nd room k]
/-- Whoever is less, the other one is greater. -/
theorem cmpC_turn (nd : Int → Nd) (x y room steps : Int) : cmpC nd y x room steps = (- (cmpC nd x y room steps).1, (cmpC nd x y room steps).2.1, (cmpC nd x y room steps).2.2) := by
  unfold cmpC
  by_cases h : room < 2
  · rw [if_pos h, if_pos h]; rfl
  · rw [if_neg h, if_neg h]; exact goC_turn nd room steps.toNat [(x, y)]
/-- One is held against itself: nothing is wrong but with itself. -/
theorem cmpC_self (nd : Int → Nd) (x room steps : Int) (hr : ¬ room < 2) (hs : 0 < steps) : cmpC nd x x room steps = (0, 1, (nd x).wrong) := by
  unfold cmpC
  rw [if_neg hr]
  obtain ⟨k, hk⟩ : ∃ k, steps.toNat = k + 1 := ⟨steps.toNat - 1, by omega⟩
  rw [hk]
  unfold goC pairOut
  cases h : nd x <;> simp [Nd.wrong, goC]
/-- What is wrong with neither is wrong with no pair; else there is an error. -/
theorem pair_ok {nd : Int → Nd} {x y : Int} (h : (pairOut nd x y).1 = 0) : (nd x).wrong = 0 ∧ (nd y).wrong = 0 := by
  unfold pairOut at h
  by_cases h1 : (nd x).wrong = 12 ∨ (nd y).wrong = 12
  · rw [if_pos h1] at h; exact absurd h (by decide)
  · rw [if_neg h1] at h
    by_cases h2 : (nd x).wrong ≠ 0 ∨ (nd y).wrong ≠ 0
    · rw [if_pos h2] at h; exact absurd h (by decide)
    · exact ⟨Classical.byContradiction (fun c => h2 (Or.inl c)), Classical.byContradiction (fun c => h2 (Or.inr c))⟩
/-- Pairs that are held to an end: how many steps that took which were no pair of one with itself. -/
inductive Held (nd : Int → Nd) : Nat → List (Int × Int) → Int → Prop where
  | nil : Held nd 0 [] 0
  | skip {k : Nat} {x : Int} {ws : List (Int × Int)} {n : Int} : Held nd k ws n → Held nd k ((x, x) :: ws) n
  | dec {x y : Int} (ws : List (Int × Int)) : x ≠ y → (nd x).wrong = 0 → (nd y).wrong = 0 → sgnL (nd x).key (nd y).key ≠ 0 → Held nd 1 ((x, y) :: ws) (sgnL (nd x).key (nd y).key)
  | push {k : Nat} {x y : Int} {ws : List (Int × Int)} {n : Int} : x ≠ y → (nd x).wrong = 0 → (nd y).wrong = 0 → sgnL (nd x).key (nd y).key = 0 → Held nd k ((nd x).parts.zip (nd y).parts ++ ws) n → Held nd (k + 1) ((x, y) :: ws) n
/-- What is told without an error was held to its end. -/
theorem goC_held (nd : Int → Nd) (room : Int) : ∀ (k : Nat) (ws : List (Int × Int)), (goC nd room k ws).2.2 = 0 → ∃ m, Held nd m ws (goC nd room k ws).1
  | 0, [], _ => ⟨0, .nil⟩
  | _ + 1, [], _ => ⟨0, .nil⟩
  | 0, _ :: _, h => absurd h (by show ¬ (13 : Int) = 0; decide)
  | k + 1, (x, y) :: ws, h => by
    unfold goC at h ⊢
    by_cases h1 : (pairOut nd x y).1 ≠ 0
    · rw [if_pos h1] at h; exact absurd h h1
    · have hp := pair_ok (Classical.byContradiction h1)
      rw [if_neg h1] at h ⊢
      have hne : x ≠ y → pairOut nd x y = (0, sgnL (nd x).key (nd y).key, if sgnL (nd x).key (nd y).key = 0 then (nd x).parts.zip (nd y).parts else []) := by
        intro e
        unfold pairOut
        rw [if_neg (by rw [hp.1, hp.2]; decide), if_neg (by rw [hp.1, hp.2]; decide), if_neg e]
      have hsame : x = y → pairOut nd x y = (0, 0, []) := by
        intro e
        unfold pairOut
        rw [if_neg (by rw [hp.1, hp.2]; decide), if_neg (by rw [hp.1, hp.2]; decide), if_pos e]
      by_cases h2 : (pairOut nd x y).2.1 ≠ 0
      · rw [if_pos h2]
        have e : x ≠ y := fun e => by rw [hsame e] at h2; exact h2 rfl
        rw [hne e] at h2 ⊢
        exact ⟨1, .dec ws e hp.1 hp.2 h2⟩
      · rw [if_neg h2] at h ⊢
        by_cases h3 : (pairOut nd x y).2.2 ≠ [] ∧ room < 2 * ((pairOut nd x y).2.2.length + ws.length : Nat)
        · rw [if_pos h3] at h; exact absurd h (by show ¬ (11 : Int) = 0; decide)
        · rw [if_neg h3] at h ⊢
          obtain ⟨m, hm⟩ := goC_held nd room k _ h
          by_cases e : x = y
          · rw [hsame e] at hm ⊢
            subst e
            exact ⟨m, .skip hm⟩
          · rw [hne e] at h2 hm ⊢
            have e0 : sgnL (nd x).key (nd y).key = 0 := Classical.byContradiction h2
            simp only [if_pos e0] at hm ⊢
            exact ⟨m + 1, .push e hp.1 hp.2 e0 hm⟩
/-- What was held of one and another, in one form: less or greater at once, or as their parts are. -/
theorem Held.inv {nd : Int → Nd} {k : Nat} {x y : Int} {ws : List (Int × Int)} {n : Int} (h : Held nd k ((x, y) :: ws) n) :
    (x = y ∧ Held nd k ws n) ∨ (x ≠ y ∧ (nd x).wrong = 0 ∧ (nd y).wrong = 0 ∧ sgnL (nd x).key (nd y).key ≠ 0 ∧ n = sgnL (nd x).key (nd y).key) ∨ (x ≠ y ∧ (nd x).wrong = 0 ∧ (nd y).wrong = 0 ∧ sgnL (nd x).key (nd y).key = 0 ∧ ∃ j, k = j + 1 ∧ Held nd j ((nd x).parts.zip (nd y).parts ++ ws) n) := by
  cases h with
  | skip h => exact Or.inl ⟨rfl, h⟩
  | dec _ a b c d => exact Or.inr (Or.inl ⟨a, b, c, d, rfl⟩)
  | push a b c d e => exact Or.inr (Or.inr ⟨a, b, c, d, _, rfl, e⟩)
/-- Pairs of one with itself may stand ahead. -/
theorem Held.selves {nd : Int → Nd} {k : Nat} {ws : List (Int × Int)} {n : Int} (h : Held nd k ws n) : ∀ F : List Int, Held nd k (F.zip F ++ ws) n
  | [] => h
  | x :: F => .skip (h.selves F)
/-- As the parts are, where the first ones are alike: no more steps than it took. -/
theorem Held.open {nd : Int → Nd} {k : Nat} {x y : Int} {ws : List (Int × Int)} {n : Int} (h : Held nd k ((x, y) :: ws) n) (e : sgnL (nd x).key (nd y).key = 0) :
    ∃ j, Held nd j ((nd x).parts.zip (nd y).parts ++ ws) n ∧ j ≤ k ∧ (x ≠ y → j < k) := by
  rcases h.inv with ⟨rfl, g⟩ | ⟨_, _, _, c, _⟩ | ⟨a, _, _, _, j, rfl, g⟩
  · exact ⟨k, g.selves _, Nat.le_refl _, fun c => absurd rfl c⟩
  · exact absurd e c
  · exact ⟨j, g, Nat.le_succ _, fun _ => Nat.lt_succ_self _⟩
/-- Rows of three. -/
def p12 (t : Int × Int × Int) : Int × Int := (t.1, t.2.1)
def p23 (t : Int × Int × Int) : Int × Int := (t.2.1, t.2.2)
def p13 (t : Int × Int × Int) : Int × Int := (t.1, t.2.2)
theorem zip3 : ∀ (A B C : List Int), A.length = B.length → B.length = C.length → ∃ T : List (Int × Int × Int), T.map p12 = A.zip B ∧ T.map p23 = B.zip C ∧ T.map p13 = A.zip C
  | [], [], [], _, _ => ⟨[], rfl, rfl, rfl⟩
  | a :: A, b :: B, c :: C, h1, h2 => by
    obtain ⟨T, e1, e2, e3⟩ := zip3 A B C (by simpa using h1) (by simpa using h2)
    exact ⟨(a, b, c) :: T, by rw [List.map_cons, e1]; rfl, by rw [List.map_cons, e2]; rfl, by rw [List.map_cons, e3]; rfl⟩
  | [], _ :: _, _, h, _ => by cases h
  | _ :: _, [], _, h, _ => by cases h
  | [], [], _ :: _, _, h => by cases h
  | _ :: _, _ :: _, [], _, h => by cases h
/-- Two with the same key have as many parts. -/
theorem key_parts {a b : Nd} (h : a.key = b.key) : a.parts.length = b.parts.length := by
  cases a <;> cases b <;> simp [Nd.key, Nd.parts] at h ⊢
  omega
/-- From less to less one comes to less. -/
def RowOk (a b c : Int) : Prop := (a ≤ 0 → b ≤ 0 → c ≤ 0 ∧ (c = 0 ↔ a = 0 ∧ b = 0)) ∧ (0 ≤ a → 0 ≤ b → 0 ≤ c)
theorem held_row {nd : Int → Nd} : ∀ (m : Nat) (T : List (Int × Int × Int)) (k1 k2 k3 : Nat) (a b c : Int), k1 + k2 + k3 ≤ m → Held nd k1 (T.map p12) a → Held nd k2 (T.map p23) b → Held nd k3 (T.map p13) c → RowOk a b c := by
  intro m
  induction m using Nat.strongRecOn with
  | _ m ih =>
    intro T
    induction T with
    | nil =>
      intro k1 k2 k3 a b c _ h1 h2 h3
      cases h1; cases h2; cases h3
      exact ⟨fun _ _ => ⟨Int.le_refl _, ⟨fun _ => ⟨rfl, rfl⟩, fun _ => rfl⟩⟩, fun _ _ => Int.le_refl _⟩
    | cons t T iht =>
      obtain ⟨x, y, z⟩ := t
      intro k1 k2 k3 a b c hm h1 h2 h3
      simp only [List.map_cons, p12, p23, p13] at h1 h2 h3
      by_cases hxy : x = y ∧ y = z
      · obtain ⟨rfl, rfl⟩ := hxy
        have f : ∀ {k n ws}, Held nd k ((x, x) :: ws) n → Held nd k ws n := by
          intro k n ws h
          rcases h.inv with ⟨_, h⟩ | ⟨c, _⟩ | ⟨c, _⟩
          · exact h
          · exact absurd rfl c
          · exact absurd rfl c
        exact iht k1 k2 k3 a b c hm (f h1) (f h2) (f h3)
      · have t12 := sgnL_three (nd x).key (nd y).key
        have t23 := sgnL_three (nd y).key (nd z).key
        have val : ∀ {k n ws} {u v : Int}, Held nd k ((u, v) :: ws) n → sgnL (nd u).key (nd v).key ≠ 0 → n = sgnL (nd u).key (nd v).key := by
          intro k n ws u v h e
          rcases h.inv with ⟨rfl, _⟩ | ⟨_, _, _, _, h⟩ | ⟨_, _, _, c, _⟩
          · exact absurd (sgnL_self _) e
          · exact h
          · exact absurd c e
        by_cases e1 : sgnL (nd x).key (nd y).key = 0
        · have k12 := sgnL_eq e1
          by_cases e2 : sgnL (nd y).key (nd z).key = 0
          · have k23 := sgnL_eq e2
            have e3 : sgnL (nd x).key (nd z).key = 0 := by rw [k12, k23]; exact sgnL_self _
            obtain ⟨j1, g1, l1, s1⟩ := h1.open e1
            obtain ⟨j2, g2, l2, s2⟩ := h2.open e2
            obtain ⟨j3, g3, l3, s3⟩ := h3.open e3
            obtain ⟨T', q1, q2, q3⟩ := zip3 (nd x).parts (nd y).parts (nd z).parts (key_parts k12) (key_parts k23)
            rw [← q1, ← List.map_append] at g1
            rw [← q2, ← List.map_append] at g2
            rw [← q3, ← List.map_append] at g3
            have hlt : j1 + j2 + j3 < m := by
              by_cases c1 : x = y
              · have c2 : y ≠ z := fun c2 => hxy ⟨c1, c2⟩
                have := s2 c2
                omega
              · have := s1 c1
                omega
            exact ih _ hlt (T' ++ T) j1 j2 j3 a b c (Nat.le_refl _) g1 g2 g3
          · have hb := val h2 e2
            have e3 : sgnL (nd x).key (nd z).key ≠ 0 := by rw [k12]; exact e2
            have hc := val h3 e3
            rw [k12] at hc
            unfold RowOk
            omega
        · have ha := val h1 e1
          by_cases e2 : sgnL (nd y).key (nd z).key = 0
          · have k23 := sgnL_eq e2
            have hc := val h3 (by rw [← k23]; exact e1)
            rw [← k23] at hc
            unfold RowOk
            omega
          · have hb := val h2 e2
            by_cases s : sgnL (nd x).key (nd y).key = -1 ∧ sgnL (nd y).key (nd z).key = -1
            · have h13 := sgnL_row s.1 s.2
              have hc := val h3 (by rw [h13]; decide)
              unfold RowOk
              omega
            · by_cases s2 : sgnL (nd x).key (nd y).key = 1 ∧ sgnL (nd y).key (nd z).key = 1
              · have h31 := sgnL_row (l := (nd z).key) (m := (nd y).key) (n := (nd x).key) (by rw [sgnL_turn]; omega) (by rw [sgnL_turn]; omega)
                have h13 : sgnL (nd x).key (nd z).key = 1 := by rw [sgnL_turn]; omega
                have hc := val h3 (by rw [h13]; decide)
                unfold RowOk
                omega
              · unfold RowOk
                omega
theorem cmpC_row {nd : Int → Nd} {x y z room steps : Int} (h1 : (cmpC nd x y room steps).2.2 = 0) (h2 : (cmpC nd y z room steps).2.2 = 0) (h3 : (cmpC nd x z room steps).2.2 = 0) : RowOk (cmpC nd x y room steps).1 (cmpC nd y z room steps).1 (cmpC nd x z room steps).1 := by
  by_cases h : room < 2
  · unfold cmpC at h1; rw [if_pos h] at h1; exact absurd h1 (by show ¬ (11 : Int) = 0; decide)
  · have f : ∀ x y, cmpC nd x y room steps = goC nd room steps.toNat [(x, y)] := fun x y => by unfold cmpC; rw [if_neg h]
    rw [f] at h1 h2 h3
    rw [f, f, f]
    obtain ⟨k1, g1⟩ := goC_held nd room _ _ h1
    obtain ⟨k2, g2⟩ := goC_held nd room _ _ h2
    obtain ⟨k3, g3⟩ := goC_held nd room _ _ h3
    exact held_row (nd := nd) _ [(x, y, z)] k1 k2 k3 _ _ _ (Nat.le_refl _) g1 g2 g3
end Go.Proofs.Ytcbgjkedmboifab
