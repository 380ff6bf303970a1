/-
 Layer 10, plain: other numbers for the variables change nothing but the numbers; pairs one behind the other; what is known of a pair is all that counts. No program is named.
-/
import Derived.Test.YtnebhiaeechpaaaDoorX10Can
namespace Go.Proofs.YtnebhiaeechpaaaDoor
set_option linter.unusedVariables false
set_option linter.unusedSimpArgs false

/-- Variables called otherwise. -/
def Ty.ren (π : Nat → Nat) (t : Ty) : Ty := t.ap (fun n => .v (π n))
def renP (π : Nat → Nat) (ps : List (Ty × Ty)) : List (Ty × Ty) := ps.map (fun p => (p.1.ren π, p.2.ren π))
/-- Two that know the same, under other numbers. -/
def Like (π : Nat → Nat) (r r' : Nat → Ty) : Prop := ∀ n, r' (π n) = (r n).ren π
theorem Like.ap {π : Nat → Nat} {r r' : Nat → Ty} (h : Like π r r') (t : Ty) : (t.ren π).ap r' = (t.ap r).ren π := by
 unfold Ty.ren
 rw [Ty.ap_ap, Ty.ap_ap]
 refine t.ap_congr (fun n _ => ?_)
 rw [Ty.ap]
 exact h n
theorem ren_occ {π : Nat → Nat} (hπ : ∀ a b, π a = π b → a = b) {n : Nat} {t : Ty} : (t.ren π).occ (π n) ↔ t.occ n := by
 unfold Ty.ren
 rw [Ty.occ_ap]
 constructor
 ·rintro ⟨m, h1, h2⟩
  rw [Ty.occ] at h2
  exact hπ m n h2 ▸ h1
 ·intro h
  exact ⟨n, h, rfl⟩
theorem ren_v (π : Nat → Nat) (n : Nat) : (Ty.v n).ren π = .v (π n) := by unfold Ty.ren; rw [Ty.ap]
theorem ren_c (π : Nat → Nat) (s : List UInt8) (l : List Ty) : (Ty.c s l).ren π = .c s (l.map (Ty.ren π)) := by
 unfold Ty.ren
 rw [Ty.ap, apL_map]
 try rfl
theorem like_name {π : Nat → Nat} (hπ : ∀ a b, π a = π b → a = b) {r r' : Nat → Ty} (h : Like π r r') (n : Nat) (x : Ty) : Like π (nameV r n x) (nameV r' (π n) (x.ren π)) := by
 intro k
 show (r' (π k)).ap (oneT (π n) (x.ren π)) = ((r k).ap (oneT n x)).ren π
 rw [h k]
 unfold Ty.ren
 rw [Ty.ap_ap, Ty.ap_ap]
 refine (r k).ap_congr (fun m _ => ?_)
 rw [Ty.ap]
 by_cases e : m = n
 ·subst e; rw [oneT_same, oneT_same]
 ·rw [oneT_other _ e, oneT_other _ (fun c => e (hπ m n c)), Ty.ap]
theorem occL_ren {π : Nat → Nat} (hπ : ∀ a b, π a = π b → a = b) {n : Nat} {s : List UInt8} {l : List Ty} : occL (π n) (l.map (Ty.ren π)) ↔ occL n l := by
 have := ren_occ hπ (n := n) (t := .c s l)
 rw [ren_c] at this
 exact this
theorem zip_ren (π : Nat → Nat) : ∀ (l l' : List Ty), (l.map (Ty.ren π)).zip (l'.map (Ty.ren π)) = renP π (l.zip l')
 | [], _ => by simp [renP]
 | _ :: _, [] => by simp [renP]
 | x :: l, y :: l' => by
  have ih := zip_ren π l l'
  unfold renP at ih ⊢
  simp only [List.map_cons, List.zip_cons_cons, List.map]
  rw [ih]
/-- Other numbers for the variables change nothing but the numbers. -/
theorem un_ren {π : Nat → Nat} (hπ : ∀ a b, π a = π b → a = b) {r : Nat → Ty} {ps : List (Ty × Ty)} {e : Except Nat (Nat → Ty)} (h : Un r ps e) : ∀ {r' : Nat → Ty}, Like π r r' → ∃ e', Un r' (renP π ps) e' ∧ (∀ k, e = .error k → e' = .error k) ∧ (∀ q, e = .ok q → ∃ q', e' = .ok q' ∧ Like π q q') := by
 induction h with
 | @done r => intro r' hl; exact ⟨_, .done, (fun k e => by cases e), (fun q e => by cases e; exact ⟨r', rfl, hl⟩)⟩
 | @same r a b ps e n ha hb h ih =>
  intro r' hl
  obtain ⟨e', h1, h2⟩ := ih hl
  exact ⟨e', .same (n := π n) (by rw [hl.ap, ha, ren_v]) (by rw [hl.ap, hb, ren_v]) h1, h2⟩
 | @nameL r a b ps e n ha ho h ih =>
  intro r' hl
  obtain ⟨e', h1, h2⟩ := ih (like_name hπ hl n (b.ap r))
  refine ⟨e', .nameL (n := π n) (by rw [hl.ap, ha, ren_v]) ?_ ?_, h2⟩
  ·rw [hl.ap, ren_occ hπ]; exact ho
  ·rw [hl.ap]; exact h1
 | @occL r a b ps n s l ha hb ho =>
  intro r' hl
  exact ⟨.error 1, .occL (n := π n) (by rw [hl.ap, ha, ren_v]) (by rw [hl.ap, hb, ren_c]) ((occL_ren hπ (s := s)).2 ho), (fun k e => e), (fun q e => by cases e)⟩
 | @nameR r a b ps e n s l ha hb ho h ih =>
  intro r' hl
  obtain ⟨e', h1, h2⟩ := ih (like_name hπ hl n (a.ap r))
  refine ⟨e', .nameR (n := π n) (by rw [hl.ap, ha, ren_c]) (by rw [hl.ap, hb, ren_v]) (fun c => ho ((occL_ren hπ (s := s)).1 c)) ?_, h2⟩
  rw [hl.ap]; exact h1
 | @occR r a b ps n s l ha hb ho =>
  intro r' hl
  exact ⟨.error 1, .occR (n := π n) (by rw [hl.ap, ha, ren_c]) (by rw [hl.ap, hb, ren_v]) ((occL_ren hπ (s := s)).2 ho), (fun k e => e), (fun q e => by cases e)⟩
 | @unlike r a b ps s s' l l' ha hb ho =>
  intro r' hl
  exact ⟨.error 2, .unlike (by rw [hl.ap, ha, ren_c]) (by rw [hl.ap, hb, ren_c]) (by rw [List.length_map, List.length_map]; exact ho), (fun k e => e), (fun q e => by cases e)⟩
 | @parts r a b ps e s l l' ha hb hlen h ih =>
  intro r' hl
  obtain ⟨e', h1, h2⟩ := ih hl
  refine ⟨e', .parts (by rw [hl.ap, ha, ren_c]) (by rw [hl.ap, hb, ren_c]) (by rw [List.length_map, List.length_map]; exact hlen) ?_, h2⟩
  rw [zip_ren]
  have : renP π (l.zip l' ++ ps) = renP π (l.zip l') ++ renP π ps := List.map_append
  rw [this] at h1
  exact h1
/-- Some pairs, and then others. -/
theorem un_join {r q : Nat → Ty} {ps qs : List (Ty × Ty)} {e d : Except Nat (Nat → Ty)} (h : Un r ps e) : e = .ok q → Un q qs d → Un r (ps ++ qs) d := by
 induction h with
 | done => intro e k; cases e; exact k
 | same ha hb h ih => intro e k; exact .same ha hb (ih e k)
 | nameL ha ho h ih => intro e k; exact .nameL ha ho (ih e k)
 | occL ha hb ho => intro e k; cases e
 | nameR ha hb ho h ih => intro e k; exact .nameR ha hb ho (ih e k)
 | occR ha hb ho => intro e k; cases e
 | unlike ha hb ho => intro e k; cases e
 | parts ha hb hl h ih => intro e k; exact .parts ha hb hl (by have h9 := ih e k; rw [List.append_assoc] at h9; exact h9)
theorem un_stop {r : Nat → Ty} {ps : List (Ty × Ty)} {e : Except Nat (Nat → Ty)} {j : Nat} (h : Un r ps e) (qs : List (Ty × Ty)) : e = .error j → Un r (ps ++ qs) (.error j) := by
 induction h with
 | done => intro e; cases e
 | same ha hb h ih => intro e; exact .same ha hb (ih e)
 | nameL ha ho h ih => intro e; exact .nameL ha ho (ih e)
 | occL ha hb ho => intro e; cases e; exact .occL ha hb ho
 | nameR ha hb ho h ih => intro e; exact .nameR ha hb ho (ih e)
 | occR ha hb ho => intro e; cases e; exact .occR ha hb ho
 | unlike ha hb ho => intro e; cases e; exact .unlike ha hb ho
 | parts ha hb hl h ih => intro e; exact .parts ha hb hl (by have h9 := ih e; rw [List.append_assoc] at h9; exact h9)
/-- Pairs of which the same is known. -/
def Alike (r : Nat → Ty) (ps ps' : List (Ty × Ty)) : Prop := ps.map (fun p => (p.1.ap r, p.2.ap r)) = ps'.map (fun p => (p.1.ap r, p.2.ap r))
theorem Alike.knows {r q : Nat → Ty} {ps ps' : List (Ty × Ty)} (h : Alike r ps ps') (k : Knows r q) : Alike q ps ps' := by
 have e : ∀ l : List (Ty × Ty), l.map (fun p => (p.1.ap q, p.2.ap q)) = (l.map (fun p => (p.1.ap r, p.2.ap r))).map (fun p => (p.1.ap q, p.2.ap q)) := fun l => by
  rw [List.map_map]
  refine List.map_congr_left (fun p _ => ?_)
  simp only [Function.comp]
  rw [k.ap, k.ap]
 unfold Alike
 rw [e ps, e ps', h]
theorem un_alike {r : Nat → Ty} {ps : List (Ty × Ty)} {e : Except Nat (Nat → Ty)} (h : Un r ps e) : Idem r → ∀ {ps' : List (Ty × Ty)}, Alike r ps ps' → Un r ps' e := by
 have cut : ∀ {r : Nat → Ty} {a b : Ty} {ps ps' : List (Ty × Ty)}, Alike r ((a, b) :: ps) ps' → ∃ a' b' qs, ps' = (a', b') :: qs ∧ a.ap r = a'.ap r ∧ b.ap r = b'.ap r ∧ Alike r ps qs := by
  intro r a b ps ps' h
  cases ps' with
  | nil => cases h
  | cons p qs =>
   obtain ⟨a', b'⟩ := p
   unfold Alike at h
   simp only [List.map_cons, List.cons.injEq, Prod.mk.injEq] at h
   exact ⟨a', b', qs, rfl, h.1.1, h.1.2, h.2⟩
 induction h with
 | done =>
  intro hi ps' ha
  cases ps' with
  | nil => exact .done
  | cons p qs => cases ha
 | same ha hb h ih =>
  intro hi ps' hal
  obtain ⟨a', b', qs, rfl, e1, e2, h3⟩ := cut hal
  exact .same (by rw [← e1]; exact ha) (by rw [← e2]; exact hb) (ih hi h3)
 | @nameL r a b ps e n ha ho h ih =>
  intro hi ps' hal
  obtain ⟨a', b', qs, rfl, e1, e2, h3⟩ := cut hal
  have hf : r n = .v n := hi.free (t := a) (by rw [ha]; rfl)
  refine .nameL (by rw [← e1]; exact ha) (by rw [← e2]; exact ho) ?_
  rw [← e2]
  exact ih (idem_name hi hf ho) (h3.knows (knows_name hi n _))
 | occL ha hb ho =>
  intro hi ps' hal
  obtain ⟨a', b', qs, rfl, e1, e2, h3⟩ := cut hal
  exact .occL (by rw [← e1]; exact ha) (by rw [← e2]; exact hb) ho
 | @nameR r a b ps e n s l ha hb ho h ih =>
  intro hi ps' hal
  obtain ⟨a', b', qs, rfl, e1, e2, h3⟩ := cut hal
  have hf : r n = .v n := hi.free (t := b) (by rw [hb]; rfl)
  refine .nameR (by rw [← e1]; exact ha) (by rw [← e2]; exact hb) ho ?_
  rw [← e1]
  exact ih (idem_name hi hf (by rw [ha]; exact ho)) (h3.knows (knows_name hi n _))
 | occR ha hb ho =>
  intro hi ps' hal
  obtain ⟨a', b', qs, rfl, e1, e2, h3⟩ := cut hal
  exact .occR (by rw [← e1]; exact ha) (by rw [← e2]; exact hb) ho
 | unlike ha hb ho =>
  intro hi ps' hal
  obtain ⟨a', b', qs, rfl, e1, e2, h3⟩ := cut hal
  exact .unlike (by rw [← e1]; exact ha) (by rw [← e2]; exact hb) ho
 | parts ha hb hl h ih =>
  intro hi ps' hal
  obtain ⟨a', b', qs, rfl, e1, e2, h3⟩ := cut hal
  refine .parts (by rw [← e1]; exact ha) (by rw [← e2]; exact hb) hl (ih hi ?_)
  unfold Alike at h3 ⊢
  rw [List.map_append, List.map_append, h3]
end Go.Proofs.YtnebhiaeechpaaaDoor
