/-
 Layer 10, plain: types made one: pair by pair from the left; what comes of it is the same, and most general. No program is named.
-/
import Derived.Test.YtnebhiaeechpaaaDoorX10Ty
namespace Go.Proofs.YtnebhiaeechpaaaDoor
set_option linter.unusedVariables false
set_option linter.unusedSimpArgs false

/-- Pairs made one, from the left: what is known then, or what is wrong first (1: a variable stands within the other one; 2: unlike). -/
inductive Un : (Nat → Ty) → List (Ty × Ty) → Except Nat (Nat → Ty) → Prop
 | done {r : Nat → Ty} : Un r [] (.ok r)
 | same {r : Nat → Ty} {a b : Ty} {ps : List (Ty × Ty)} {e : Except Nat (Nat → Ty)} {n : Nat} (ha : a.ap r = .v n) (hb : b.ap r = .v n) (h : Un r ps e) : Un r ((a, b) :: ps) e
 | nameL {r : Nat → Ty} {a b : Ty} {ps : List (Ty × Ty)} {e : Except Nat (Nat → Ty)} {n : Nat} (ha : a.ap r = .v n) (ho : ¬ (b.ap r).occ n) (h : Un (nameV r n (b.ap r)) ps e) : Un r ((a, b) :: ps) e
 | occL {r : Nat → Ty} {a b : Ty} {ps : List (Ty × Ty)} {n : Nat} {s : List UInt8} {l : List Ty} (ha : a.ap r = .v n) (hb : b.ap r = .c s l) (ho : occL n l) : Un r ((a, b) :: ps) (.error 1)
 | nameR {r : Nat → Ty} {a b : Ty} {ps : List (Ty × Ty)} {e : Except Nat (Nat → Ty)} {n : Nat} {s : List UInt8} {l : List Ty} (ha : a.ap r = .c s l) (hb : b.ap r = .v n) (ho : ¬ occL n l) (h : Un (nameV r n (a.ap r)) ps e) : Un r ((a, b) :: ps) e
 | occR {r : Nat → Ty} {a b : Ty} {ps : List (Ty × Ty)} {n : Nat} {s : List UInt8} {l : List Ty} (ha : a.ap r = .c s l) (hb : b.ap r = .v n) (ho : occL n l) : Un r ((a, b) :: ps) (.error 1)
 | unlike {r : Nat → Ty} {a b : Ty} {ps : List (Ty × Ty)} {s s' : List UInt8} {l l' : List Ty} (ha : a.ap r = .c s l) (hb : b.ap r = .c s' l') (ho : s ≠ s' ∨ l.length ≠ l'.length) : Un r ((a, b) :: ps) (.error 2)
 | parts {r : Nat → Ty} {a b : Ty} {ps : List (Ty × Ty)} {e : Except Nat (Nat → Ty)} {s : List UInt8} {l l' : List Ty} (ha : a.ap r = .c s l) (hb : b.ap r = .c s l') (hl : l.length = l'.length) (h : Un r (l.zip l' ++ ps) e) : Un r ((a, b) :: ps) e
/-- They are one under it. -/
def Made (q : Nat → Ty) (ps : List (Ty × Ty)) : Prop := ∀ p, p ∈ ps → p.1.ap q = p.2.ap q
theorem zip_made {q : Nat → Ty} : ∀ {l l' : List Ty}, l.length = l'.length → (Made q (l.zip l') ↔ apL q l = apL q l')
 | [], [], _ => ⟨fun _ => rfl, fun _ p hp => by cases hp⟩
 | [], y :: l', h => by cases h
 | x :: l, [], h => by cases h
 | x :: l, y :: l', h => by
  have ih := zip_made (q := q) (l := l) (l' := l') (by simpa using h)
  rw [apL, apL]
  constructor
  ·intro hm
   rw [ih.1 (fun p hp => hm p (List.mem_cons_of_mem _ hp)), hm (x, y) List.mem_cons_self]
  ·intro he p hp
   have e := List.cons.inj he
   rcases List.mem_cons.1 hp with rfl | hp
   ·exact e.1
   ·exact ih.2 e.2 p hp
/-- q knows what r knows. -/
def Knows (r q : Nat → Ty) : Prop := ∀ n, (r n).ap q = q n
theorem Knows.ap {r q : Nat → Ty} (h : Knows r q) (t : Ty) : (t.ap r).ap q = t.ap q := by
 rw [Ty.ap_ap]
 exact t.ap_congr (fun n _ => h n)
theorem Knows.trans {r q u : Nat → Ty} (h : Knows r q) (k : Knows q u) : Knows r u := fun n => by
 have h1 := k.ap (r n)
 rw [h n, k n] at h1
 exact h1.symm
theorem knows_name {r : Nat → Ty} (h : Idem r) (n : Nat) (x : Ty) : Knows r (nameV r n x) := fun k => by
 rw [nameV_ap, h k]
 rfl
theorem knows_named {r q : Nat → Ty} {n : Nat} {x : Ty} (h : Knows r q) (hx : x.ap q = q n) : Knows (nameV r n x) q := fun k => by
 show ((r k).ap (oneT n x)).ap q = q k
 rw [Ty.ap_ap]
 refine Eq.trans ((r k).ap_congr (q := q) (fun m _ => ?_)) (h k)
 by_cases e : m = n
 ·subst e; rw [oneT_same]; exact hx
 ·rw [oneT_other _ e, Ty.ap]
/-- Behind it all are one, all that was known is known, and it is told as far as it is known. -/
theorem un_ok {r : Nat → Ty} {ps : List (Ty × Ty)} {e : Except Nat (Nat → Ty)} (h : Un r ps e) : ∀ {q : Nat → Ty}, e = .ok q → Idem r → Idem q ∧ Knows r q ∧ Made q ps := by
 induction h with
 | done => intro q e h; cases e; exact ⟨h, h, fun p hp => by cases hp⟩
 | @same r a b ps e n ha hb h ih =>
  intro q he hi
  obtain ⟨h1, h2, h3⟩ := ih he hi
  refine ⟨h1, h2, fun p hp => ?_⟩
  rcases List.mem_cons.1 hp with rfl | hp
  ·show a.ap q = b.ap q
   rw [← h2.ap a, ← h2.ap b, ha, hb]
  ·exact h3 p hp
 | @nameL r a b ps e n ha ho h ih =>
  intro q he hi
  have hf : r n = .v n := hi.free (t := a) (by rw [ha]; rfl)
  obtain ⟨h1, h2, h3⟩ := ih he (idem_name hi hf ho)
  have hk := (knows_name hi n (b.ap r)).trans h2
  refine ⟨h1, hk, fun p hp => ?_⟩
  rcases List.mem_cons.1 hp with rfl | hp
  ·show a.ap q = b.ap q
   have e1 := h2 n
   rw [show nameV r n (b.ap r) n = b.ap r by show (r n).ap _ = _; rw [hf, Ty.ap, oneT_same]] at e1
   rw [← hk.ap a, ha, Ty.ap, ← e1, hk.ap b]
  ·exact h3 p hp
 | occL ha hb ho => intro q he; cases he
 | @nameR r a b ps e n s l ha hb ho h ih =>
  intro q he hi
  have hf : r n = .v n := hi.free (t := b) (by rw [hb]; rfl)
  obtain ⟨h1, h2, h3⟩ := ih he (idem_name hi hf (by rw [ha]; exact ho))
  have hk := (knows_name hi n (a.ap r)).trans h2
  refine ⟨h1, hk, fun p hp => ?_⟩
  rcases List.mem_cons.1 hp with rfl | hp
  ·show a.ap q = b.ap q
   have e1 := h2 n
   rw [show nameV r n (a.ap r) n = a.ap r by show (r n).ap _ = _; rw [hf, Ty.ap, oneT_same]] at e1
   rw [← hk.ap b, hb, Ty.ap, ← e1, hk.ap a]
  ·exact h3 p hp
 | occR ha hb ho => intro q he; cases he
 | unlike ha hb ho => intro q he; cases he
 | @parts r a b ps e s l l' ha hb hl h ih =>
  intro q he hi
  obtain ⟨h1, h2, h3⟩ := ih he hi
  refine ⟨h1, h2, fun p hp => ?_⟩
  rcases List.mem_cons.1 hp with rfl | hp
  ·show a.ap q = b.ap q
   rw [← h2.ap a, ← h2.ap b, ha, hb, Ty.ap, Ty.ap, (zip_made hl).1 (fun p hp => h3 p (List.mem_append_left _ hp))]
  ·exact h3 p (List.mem_append_right _ hp)
/-- Most general: whatever makes them one knows all that comes of it; and it comes. -/
theorem un_general {r : Nat → Ty} {ps : List (Ty × Ty)} {e : Except Nat (Nat → Ty)} (h : Un r ps e) : ∀ {q : Nat → Ty}, Knows r q → Made q ps → ∃ u, e = .ok u ∧ Knows u q := by
 induction h with
 | done => intro q hk hm; exact ⟨_, rfl, hk⟩
 | same ha hb h ih => intro q hk hm; exact ih hk (fun p hp => hm p (List.mem_cons_of_mem _ hp))
 | @nameL r a b ps e n ha ho h ih =>
  intro q hk hm
  refine ih (knows_named hk ?_) (fun p hp => hm p (List.mem_cons_of_mem _ hp))
  have h1 : a.ap q = b.ap q := hm (a, b) List.mem_cons_self
  rw [hk.ap b, ← h1, ← hk.ap a, ha, Ty.ap]
 | @occL r a b ps n s l ha hb ho =>
  intro q hk hm
  have h1 : a.ap q = b.ap q := hm (a, b) List.mem_cons_self
  rw [← hk.ap a, ← hk.ap b, ha, hb] at h1
  exact absurd (by rw [Ty.ap] at h1; exact h1) (occurs_ne (θ := q) (s := s) ho)
 | @nameR r a b ps e n s l ha hb ho h ih =>
  intro q hk hm
  refine ih (knows_named hk ?_) (fun p hp => hm p (List.mem_cons_of_mem _ hp))
  have h1 : a.ap q = b.ap q := hm (a, b) List.mem_cons_self
  rw [hk.ap a, h1, ← hk.ap b, hb, Ty.ap]
 | @occR r a b ps n s l ha hb ho =>
  intro q hk hm
  have h1 : a.ap q = b.ap q := hm (a, b) List.mem_cons_self
  rw [← hk.ap a, ← hk.ap b, ha, hb] at h1
  have h2 : q n = (Ty.c s l).ap q := by rw [h1, Ty.ap]
  exact absurd h2 (occurs_ne ho)
 | @unlike r a b ps s s' l l' ha hb ho =>
  intro q hk hm
  have h1 : a.ap q = b.ap q := hm (a, b) List.mem_cons_self
  rw [← hk.ap a, ← hk.ap b, ha, hb, Ty.ap, Ty.ap] at h1
  have h2 := Ty.c.inj h1
  rcases ho with ho | ho
  ·exact absurd h2.1 ho
  ·have h3 := congrArg List.length h2.2
   rw [apL_len, apL_len] at h3
   exact absurd h3 ho
 | @parts r a b ps e s l l' ha hb hl h ih =>
  intro q hk hm
  refine ih hk (fun p hp => ?_)
  rcases List.mem_append.1 hp with hp | hp
  ·have h1 : a.ap q = b.ap q := hm (a, b) List.mem_cons_self
   rw [← hk.ap a, ← hk.ap b, ha, hb, Ty.ap, Ty.ap] at h1
   exact (zip_made hl).2 (Ty.c.inj h1).2 p hp
  ·exact hm p (List.mem_cons_of_mem _ hp)
/-- It comes to one thing. -/
theorem un_one {r : Nat → Ty} {ps : List (Ty × Ty)} {e : Except Nat (Nat → Ty)} (h : Un r ps e) : ∀ {e' : Except Nat (Nat → Ty)}, Un r ps e' → e = e' := by
 induction h with
 | done => intro e' h'; cases h'; rfl
 | same ha hb h ih =>
  intro e' h'
  cases h' with
  | same ha' hb' h' => exact ih h'
  | nameL ha' ho' h' => rw [ha] at ha'; cases ha'; rw [hb] at ho'; exact absurd rfl ho'
  | occL ha' hb' ho' => rw [hb] at hb'; cases hb'
  | nameR ha' hb' ho' h' => rw [ha] at ha'; cases ha'
  | occR ha' hb' ho' => rw [ha] at ha'; cases ha'
  | unlike ha' hb' ho' => rw [ha] at ha'; cases ha'
  | parts ha' hb' hl' h' => rw [ha] at ha'; cases ha'
 | nameL ha ho h ih =>
  intro e' h'
  cases h' with
  | same ha' hb' h' => rw [ha] at ha'; cases ha'; rw [hb'] at ho; exact absurd rfl ho
  | nameL ha' ho' h' => rw [ha] at ha'; cases ha'; exact ih h'
  | occL ha' hb' ho' => rw [ha] at ha'; cases ha'; rw [hb'] at ho; exact absurd ho' ho
  | nameR ha' hb' ho' h' => rw [ha] at ha'; cases ha'
  | occR ha' hb' ho' => rw [ha] at ha'; cases ha'
  | unlike ha' hb' ho' => rw [ha] at ha'; cases ha'
  | parts ha' hb' hl' h' => rw [ha] at ha'; cases ha'
 | occL ha hb ho =>
  intro e' h'
  cases h' with
  | same ha' hb' h' => rw [hb] at hb'; cases hb'
  | nameL ha' ho' h' => rw [ha] at ha'; cases ha'; rw [hb] at ho'; exact absurd ho ho'
  | occL ha' hb' ho' => rfl
  | nameR ha' hb' ho' h' => rw [ha] at ha'; cases ha'
  | occR ha' hb' ho' => rfl
  | unlike ha' hb' ho' => rw [ha] at ha'; cases ha'
  | parts ha' hb' hl' h' => rw [ha] at ha'; cases ha'
 | nameR ha hb ho h ih =>
  intro e' h'
  cases h' with
  | same ha' hb' h' => rw [ha] at ha'; cases ha'
  | nameL ha' ho' h' => rw [ha] at ha'; cases ha'
  | occL ha' hb' ho' => rw [ha] at ha'; cases ha'
  | nameR ha' hb' ho' h' => rw [hb] at hb'; cases hb'; exact ih h'
  | occR ha' hb' ho' => rw [hb] at hb'; cases hb'; rw [ha] at ha'; cases ha'; exact absurd ho' ho
  | unlike ha' hb' ho' => rw [hb] at hb'; cases hb'
  | parts ha' hb' hl' h' => rw [hb] at hb'; cases hb'
 | occR ha hb ho =>
  intro e' h'
  cases h' with
  | same ha' hb' h' => rw [ha] at ha'; cases ha'
  | nameL ha' ho' h' => rw [ha] at ha'; cases ha'
  | occL ha' hb' ho' => rfl
  | nameR ha' hb' ho' h' => rw [hb] at hb'; cases hb'; rw [ha] at ha'; cases ha'; exact absurd ho ho'
  | occR ha' hb' ho' => rfl
  | unlike ha' hb' ho' => rw [hb] at hb'; cases hb'
  | parts ha' hb' hl' h' => rw [hb] at hb'; cases hb'
 | unlike ha hb ho =>
  intro e' h'
  cases h' with
  | same ha' hb' h' => rw [ha] at ha'; cases ha'
  | nameL ha' ho' h' => rw [ha] at ha'; cases ha'
  | occL ha' hb' ho' => rw [ha] at ha'; cases ha'
  | nameR ha' hb' ho' h' => rw [hb] at hb'; cases hb'
  | occR ha' hb' ho' => rw [hb] at hb'; cases hb'
  | unlike ha' hb' ho' => rfl
  | parts ha' hb' hl' h' =>
   rw [ha] at ha'; cases ha'; rw [hb] at hb'; cases hb'
   rcases ho with ho | ho
   ·exact absurd rfl ho
   ·exact absurd hl' ho
 | parts ha hb hl h ih =>
  intro e' h'
  cases h' with
  | same ha' hb' h' => rw [ha] at ha'; cases ha'
  | nameL ha' ho' h' => rw [ha] at ha'; cases ha'
  | occL ha' hb' ho' => rw [ha] at ha'; cases ha'
  | nameR ha' hb' ho' h' => rw [hb] at hb'; cases hb'
  | occR ha' hb' ho' => rw [hb] at hb'; cases hb'
  | unlike ha' hb' ho' =>
   rw [ha] at ha'; cases ha'; rw [hb] at hb'; cases hb'
   rcases ho' with ho | ho
   ·exact absurd rfl ho
   ·exact absurd hl ho
  | parts ha' hb' hl' h' => rw [ha] at ha'; cases ha'; rw [hb] at hb'; cases hb'; exact ih h'
end Go.Proofs.YtnebhiaeechpaaaDoor
