/-
 Layer 10: TypesParts, walked. No condition but that the argument is read.
-/
import Derived.Test.YtcfgfclapljilaaDoorL10Tbs
import Derived.Test.YtcfgfclapljilaaDoorL10Pairs
import Derived.Test.YtcfgfclapljilaaDoorX10Good
import Derived.Test.YtcfgfclapljilaaDoorT10Till
import Derived.Deep.CutRange
namespace Go.Proofs.YtcfgfclapljilaaDoor
open Go.ChangeShapes Go.WideShapes Go.ChangeAt Go.RowKit Go.Deep
set_option linter.unusedVariables false
set_option linter.unusedSimpArgs false
set_option maxHeartbeats 8000000
set_option maxRecDepth 100000
/-- A pair in memory. -/
def PAt (w : World) (pl : Option Addr) (j : Nat) (x y : Rw) : Prop := ∃ (a : Addr) (al1 al2 : Option Addr) (c1 c2 : Nat), pl = some a ∧ (a.add (j * 6)).block < w.heap.size ∧ w.cell? (a.add (j * 6)) = some (.int .i64 x.V) ∧ w.cell? ⟨(a.add (j * 6)).block, (a.add (j * 6)).off + 1, none⟩ = some (.string ⟨x.S.toArray⟩) ∧ w.cell? ⟨(a.add (j * 6)).block, (a.add (j * 6)).off + 2, none⟩ = some (.slice al1 x.L.length c1) ∧ w.cell? ⟨(a.add (j * 6)).block, (a.add (j * 6)).off + 3, none⟩ = some (.int .i64 y.V) ∧ w.cell? ⟨(a.add (j * 6)).block, (a.add (j * 6)).off + 4, none⟩ = some (.string ⟨y.S.toArray⟩) ∧ w.cell? ⟨(a.add (j * 6)).block, (a.add (j * 6)).off + 5, none⟩ = some (.slice al2 y.L.length c2) ∧ RT (fun g => g < w.heap.size) w x.L al1 ∧ RT (fun g => g < w.heap.size) w y.L al2 ∧ Bd x ∧ Bd y ∧ x.may = true ∧ y.may = true ∧ x.sz ≤ 201 ∧ y.sz ≤ 201
/-- A row of nodes whose parts lie in old blocks. -/
def RowA (w wr : World) (v : Value) (D : List TD) : Prop := wr.ownsRow 0 24 3 v D.length (flat3 D) ∧ (∀ d ∈ D, RT (fun g => g < w.heap.size) wr d.t.L d.ao) ∧ ∀ d ∈ D, -9223372036854775808 ≤ d.t.V ∧ d.t.V ≤ 9223372036854775807 ∧ d.t.S.length ≤ maxLen
section
variable {w wr wr' : World} {v : Value} {D : List TD}
theorem RowA.keep (h : RowA w wr v D) (k : ∀ g, v.ownBlock = some g → wr'.heap[g]? = wr.heap[g]?) (k2 : ∀ g, g < w.heap.size → wr'.heap[g]? = wr.heap[g]?) : RowA w wr' v D := by
 refine ⟨⟨h.1.1, ?_⟩, fun d hd => (h.2.1 d hd).keep (fun g hg hl => k2 g hg), h.2.2⟩
 rcases h.1.2 with c | ⟨g, cap, cur, e, hb, hg, rest⟩
 ·exact Or.inl c
 ·exact Or.inr ⟨g, cap, cur, e, hb, (k g (by rw [e]; rfl)).trans hg, rest⟩
theorem RowA.below (h : RowA w wr v D) (k : Below wr.heap.size wr wr') (hw : w.heap.size ≤ wr.heap.size) : RowA w wr' v D := h.keep (fun g hg => k.block g (h.1.lt g hg).2) (fun g hg => k.block g (by omega))
theorem RowA.tw (h : RowA w wr v D) (ho : ∀ g, v.ownBlock = some g → w.heap.size ≤ g) : TW10 wr 0 v D := ⟨h.1, fun d hd => (h.2.1 d hd).mono (fun g hg _ => ⟨Nat.zero_le _, fun e => by have := ho g e; omega⟩), h.2.2⟩
theorem RowA.slice (h : RowA w wr v D) : ∃ ao c, v = .slice ao D.length c := by
 rcases h.1.2 with ⟨rfl, e⟩ | ⟨g, cap, cur, rfl, _⟩
 ·rw [e]; exact ⟨none, 0, rfl⟩
 ·exact ⟨_, cap, rfl⟩
end
theorem snoc_get {α : Type} {l : List α} {x z : α} {j : Nat} (h : (l ++ [x])[j]? = some z) : (j < l.length ∧ l[j]? = some z) ∨ (j = l.length ∧ z = x) := by
 rcases Nat.lt_or_ge j l.length with c | c
 ·rw [List.getElem?_append_left c] at h
  exact Or.inl ⟨c, h⟩
 ·rw [List.getElem?_append_right c] at h
  obtain ⟨h1, h2⟩ := List.getElem?_eq_some_iff.1 h
  simp only [List.length_cons, List.length_nil] at h1
  have e : j - l.length = 0 := by omega
  simp only [e, List.getElem_cons_zero] at h2
  exact Or.inr ⟨by omega, h2.symm⟩
theorem pairs_cap {H : Type} {enc : TypeId × Value → H} {w : World} {base : Nat} {spare : Nat → Bool} {held : Bool} {fuel : Nat} {al : Option Addr} {len cap : Nat} {x : DataW H × List MemPlace} (h : DataW.trod enc Tryd.prog w base spare held fuel 34 [.slice al len cap] = some x) : len ≤ cap := by
 rcases open_slice Tryd.underlying34 h with ⟨hcs, _⟩ | ⟨a, l, c, m, n, D, Pl, hcs, _, hl, hm, hmm, _, hx⟩
 ·simp only [List.cons.injEq, Value.slice.injEq, and_true] at hcs
  omega
 ·simp only [List.cons.injEq, Value.slice.injEq, and_true] at hcs
  omega
def tInt : Rw := .mk 0 sInt []
def dInt : TD := ⟨tInt, none, 0⟩
theorem row_one (w w0 : World) : RowA w (w0.alloc (.cells #[.int .i64 0, .string ⟨#[105, 110, 116]⟩, .slice none 0 0] 24)) (.slice (some ⟨w0.heap.size, 0, none⟩) 1 1) [dInt] := by
 refine ⟨⟨rfl, Or.inr ⟨w0.heap.size, 1, _, rfl, Nat.zero_le _, blk_alloc_new _ _, Nat.le_refl _, by unfold maxLen; omega, rfl, rfl⟩⟩, fun d hd => ?_, fun d hd => ?_⟩
 ·rw [List.mem_singleton.1 hd]; exact rt_nil
 ·rw [List.mem_singleton.1 hd]; exact bd_c (x := tInt) (by decide) (by decide) (by decide)
/-- A pair of parts more is made one. -/
theorem un_part {As Bs : List Ty} {j : Nat} {a b : Ty} {ρ : Nat → Ty} {e : Except Nat (Nat → Ty)} (h : Un Ty.v ((As.zip Bs).take j) (.ok ρ)) (ha : As[j]? = some a) (hb : Bs[j]? = some b) (hu : Un ρ [(a, b)] e) : Un Ty.v ((As.zip Bs).take (j + 1)) e := by
 have hz : (As.zip Bs)[j]? = some (a, b) := by rw [List.getElem?_zip_eq_some]; exact ⟨ha, hb⟩
 obtain ⟨q1, q2⟩ := List.getElem?_eq_some_iff.1 hz
 rw [List.take_succ_eq_append_getElem q1, q2]
 exact un_join h rfl hu
theorem un_part_stop {As Bs : List Ty} {j c : Nat} {a b : Ty} {ρ : Nat → Ty} (h : Un Ty.v ((As.zip Bs).take j) (.ok ρ)) (ha : As[j]? = some a) (hb : Bs[j]? = some b) (hu : Un ρ [(a, b)] (.error c)) : Un Ty.v (As.zip Bs) (.error c) := by
 have h1 := un_stop (un_part h ha hb hu) ((As.zip Bs).drop (j + 1)) rfl
 rw [List.take_append_drop] at h1
 exact h1
def star (Xs : List Rw) : Rw := .mk 0 [42] (tInt :: Xs)
theorem star_ty (Xs : List Rw) : (star Xs).ty = .c [42] (.c sInt [] :: tyL Xs) := by
 unfold star tInt
 rw [Rw.ty, if_neg (by omega), tyL, Rw.ty, if_neg (by omega), tyL]
theorem star_may {Xs : List Rw} (h : ∀ (j : Nat) (x : Rw), Xs[j]? = some x → x.may = true) : (star Xs).may = true := by
 have h1 : mayL Xs = true := mayL_all h
 unfold star
 rw [Rw.may, mayL, h1]
 rfl
theorem star_sz {Xs : List Rw} (h : ∀ (j : Nat) (x : Rw), Xs[j]? = some x → x.sz ≤ 201) (hl : Xs.length ≤ 6) : (star Xs).sz ≤ 1208 := by
 have key : ∀ (l : List Rw), (∀ (j : Nat) (x : Rw), l[j]? = some x → x.sz ≤ 201) → szRL l ≤ 201 * l.length := fun l => by
  induction l with
  | nil => intro _; rw [szRL]; omega
  | cons y l ih =>
   intro h
   have h1 := h 0 y rfl
   have h2 := ih (fun j x hx => h (j + 1) x (by simpa using hx))
   rw [szRL, List.length_cons]
   omega
 have h1 := key Xs h
 unfold star
 rw [Rw.sz, szRL]
 have h2 : tInt.sz = 1 := by unfold tInt; rw [Rw.sz, szRL]
 rw [h2]
 have h3 : 201 * Xs.length ≤ 1206 := by omega
 omega
theorem star_vi {Xs : List Rw} {j : Nat} {x : Rw} (h : Xs[j]? = some x) : ∀ v, v ∈ x.vi → v ∈ (star Xs).vi := fun v hv => by
 unfold star
 rw [Rw.vi, if_pos rfl]
 exact mem_viL1.2 ⟨j + 1, x, by simpa using h, hv⟩
theorem star_bd (Xs : List Rw) : Bd (star Xs) := bd_c (by show (0 : Int) ≤ 0; omega) (by show (0 : Int) ≤ 100; omega) (by show 1 ≤ 100; omega)
/-- How it stands while pairs are made one, one behind the other. -/
def InQ (A : Nat → Prop) (tb q r : Nat) (Xs Ys : List Rw) (V : List Int) (pm : Nat) (w8 : World) (fv iv : Value) (wr : World) : Prop := ∃ (j m : Nat) (ev : Int), j ≤ pm ∧ iv = .int .i64 (j : Int) ∧ fv = .int .i64 ev ∧ m ≤ 5000 + 500 * j ∧ Only (Own3 tb q r) w8 wr ∧ ((ev = 0 ∧ ∃ ρ, Un Ty.v (((tyL Xs).zip (tyL Ys)).take j) (.ok ρ) ∧ TBs A wr tb q r m V ρ) ∨ (ev ≠ 0 ∧ (ev = 3 ∨ ∃ c, Un Ty.v ((tyL Xs).zip (tyL Ys)) (.error c) ∧ ev = if c = 1 then 26 else 25)))
theorem more1 {X Y : List Int} {v : Int} : v ∈ (X ++ Y) ++ X ↔ v ∈ X ++ Y := by
 constructor
 ·intro h
  rcases List.mem_append.1 h with h | h
  ·exact h
  ·exact List.mem_append_left _ h
 ·exact fun h => List.mem_append_left _ h
theorem more2 {X Y : List Int} {v : Int} : v ∈ (([] ++ (X ++ Y)) ++ X) ++ X ↔ v ∈ X ++ Y := by
 constructor
 ·intro h
  rcases List.mem_append.1 h with h | h
  ·rcases List.mem_append.1 h with h | h
   ·exact h
   ·exact List.mem_append_left _ h
  ·exact List.mem_append_left _ h
 ·exact fun h => List.mem_append_left _ (List.mem_append_left _ h)
/-- The box of one type, while tables are at work. -/
structure EnvB (Sx : Nat → Prop) (w : World) (pr : Nat) (z : Rw) (zl : Option Addr) (zc : Nat) (w' : World) : Prop where
 r : B3 w' pr z.V ⟨z.S.toArray⟩ (.slice zl z.L.length zc)
 t : RT (fun g => ¬ Sx g) w' z.L zl
 d : Below w.heap.size w w'
 s : ∀ g, Sx g → w.heap.size ≤ g ∧ g ≠ pr
theorem EnvB.only {Sx : Nat → Prop} {w : World} {pr : Nat} {z : Rw} {zl : Option Addr} {zc : Nat} {w' w'' : World} (h : EnvB Sx w pr z zl zc w') {S : Nat → Prop} (k : Only S w' w'') (hS : ∀ g, S g → Sx g) : EnvB Sx w pr z zl zc w'' :=
 ⟨h.r.keep (k.block _ h.r.lt (fun e => (h.s _ (hS _ e)).2 rfl)), h.t.keep (fun g hg hl => k.block g hl (fun e => hg (hS g e))), ((Only.of_below h.d).trans (k.mono (S' := fun g => w.heap.size ≤ g) (fun g _ e => (h.s g (hS g e)).1))).toBelow (fun g hg => hg), h.s⟩
theorem EnvB.below {Sx : Nat → Prop} {w : World} {pr : Nat} {z : Rw} {zl : Option Addr} {zc : Nat} {w' w'' : World} (h : EnvB Sx w pr z zl zc w') (k : Below w'.heap.size w' w'') : EnvB Sx w pr z zl zc w'' := h.only (S := fun _ => False) (Only.of_below k) (fun g c => c.elim)
theorem EnvB.cells {Sx : Nat → Prop} {w : World} {pr : Nat} {z : Rw} {zl : Option Addr} {zc : Nat} {w' : World} (h : EnvB Sx w pr z zl zc w') : w'.cell? ⟨pr, 0, none⟩ = some (.int .i64 z.V) ∧ w'.cell? ⟨pr, 1, none⟩ = some (.string ⟨z.S.toArray⟩) ∧ w'.cell? ⟨pr, 2, none⟩ = some (.slice zl z.L.length zc) := by
 obtain ⟨a, b, c, _⟩ := h.r.cells
 exact ⟨a, b, c⟩
/-- How it stands while rows are made. -/
def InP (w : World) (pl : Option Addr) (pm ab bb : Nat) (jv : Value) (wr : World) : Prop := ∃ (k : Nat) (Xs Ys : List Rw) (Da Db : List TD) (va vb : Value) (ga gb : Nat), k ≤ pm ∧ jv = .int .i64 (k : Int) ∧ Xs.length = k ∧ Ys.length = k ∧ (∀ j x y, Xs[j]? = some x → Ys[j]? = some y → PAt w pl j x y) ∧ Da.map TD.t = tInt :: Xs ∧ Db.map TD.t = tInt :: Ys ∧ RowA w wr va Da ∧ RowA w wr vb Db ∧ B3 wr ab 0 ⟨#[42]⟩ va ∧ B3 wr bb 0 ⟨#[42]⟩ vb ∧ Below w.heap.size w wr ∧ (va.ownBlock = some ga ∧ w.heap.size ≤ ga ∧ ga ≠ ab ∧ ga ≠ bb) ∧ (vb.ownBlock = some gb ∧ w.heap.size ≤ gb ∧ gb ≠ ab ∧ gb ≠ bb) ∧ ga ≠ gb
theorem typesParts_walk (pl : Option Addr) (pn pc : Nat) (w : World) (k0 : POk (fun g => g < w.heap.size) w 2001 pl pn) (hcap : pn ≤ pc) : Calls Tryd.prog 7 #[.slice pl pn pc] w fun e w' => e = .returned (.bool true) ∧ Below w.heap.size w w' := by
 have K2 := hidden k0
 have KN : pn ≤ maxLen := k0.1
 unfold maxLen at KN
 clear k0
 go_enter Tryd.func7, Tryd.ntmps7
 go_wp2_with fail
 refine (awake_any w).mono ?_
 rintro e w1 ⟨rfl, hb⟩
 have D_1 := hidden hb
 clear hb
 obtain ⟨pm, hpm⟩ : ∃ pm, min pn 6 = pm := ⟨_, rfl⟩
 have K3 : Hid (∀ k, k < pm → k < pn) := fun k hk => by omega
 have hp6 : pm ≤ 6 := by omega
 go_upto_if 15 with fail
 go_cut [0] from 13 to 17 (fun v wx => (∃ pc', v = .slice pl pm pc') ∧ wx = w1)
 case first =>
  by_cases h6 : 6 < pn
  ·have z6 : (6 : Int) < (pn : Int) := by omega
   have e6 : pm = 6 := by omega
   have HPM := hidden e6
   obtain ⟨a, _, _, _, _, _, _, rfl, _⟩ := K2.out.2 0 (by omega)
   have hsl : ∀ w' : World, Sem.run Tryd.prog (Instr.slice 34 (.slice (some a) pn pc) none (some (.int .i64 6)) none) w' = .ok (.slice (some a) 6 pc) w' := fun w' => by
    rw [run_slice_h w' 34 (some a) pn pc (by kernel_rfl) .i64 6 (by omega) (by omega)]
    simp [go_sem, sliced]
   clear hpm e6 h6 K3
   go_wp2_with fail
   go_meet
   case rel => exact ⟨⟨pc, by rw [HPM.out]⟩, rfl⟩
  ·have z6 : ¬ (6 : Int) < (pn : Int) := by omega
   have e6 : pm = pn := by omega
   have HPM := hidden e6
   clear hpm e6 h6 K3
   go_wp2_with fail
   go_meet
   case rel => exact ⟨⟨pc, by rw [HPM.out]⟩, rfl⟩
 obtain ⟨⟨pc', rfl⟩, rfl⟩ := hcut
 clear hpm
 have D_wc : Hid (Below w.heap.size w wc) := D_1
 clear D_1
 go_wp2_with fail
 refine (named_any wc ⟨#[105, 110, 116]⟩ none 0 0).mono ?_
 rintro e u1 ⟨rfl, hb⟩
 have D_u1 := hidden (D_wc.out.trans (hb.mono D_wc.out.size))
 have hs_u1 := hb.size
 clear hb
 have D_u2 := hidden (D_u1.out.alloc D_u1.out.size (.cells #[.int .i64 0, .string ⟨#[105, 110, 116]⟩, .slice none 0 0] 24))
 have hs_u2 := (show u1.heap.size < (u1.alloc (.cells #[.int .i64 0, .string ⟨#[105, 110, 116]⟩, .slice none 0 0] 24)).heap.size by rw [nblk_alloc]; omega)
 have RA_u2 := hidden (row_one w u1)
 go_wp2_with fail
 generalize u1.alloc (.cells #[.int .i64 0, .string ⟨#[105, 110, 116]⟩, .slice none 0 0] 24) = u2 at *
 refine (named_any u2 ⟨#[42]⟩ _ 1 1).mono ?_
 rintro e u3 ⟨rfl, hb⟩
 have D_u3 := hidden (D_u2.out.trans (hb.mono D_u2.out.size))
 have hs_u3 := hb.size
 have RA_u3 := hidden (RA_u2.out.below hb D_u2.out.size)
 clear RA_u2
 clear hb
 go_upto_region 6 with fail
 have D_u4 := hidden (D_u3.out.alloc D_u3.out.size (.cells #[.int .i64 0, .string ⟨#[42]⟩, .slice (some ⟨u1.heap.size, 0, none⟩) 1 1] 24))
 have hs_u4 := (show u3.heap.size < (u3.alloc (.cells #[.int .i64 0, .string ⟨#[42]⟩, .slice (some ⟨u1.heap.size, 0, none⟩) 1 1] 24)).heap.size by rw [nblk_alloc]; omega)
 have hbx := (Below.refl u3.heap.size u3).alloc (Nat.le_refl _) (.cells #[.int .i64 0, .string ⟨#[42]⟩, .slice (some ⟨u1.heap.size, 0, none⟩) 1 1] 24)
 have RA_u4 := hidden (RA_u3.out.below hbx D_u3.out.size)
 clear RA_u3 hbx
 have BA_u4 := hidden (B3.new u3 0 ⟨#[42]⟩ (.slice (some ⟨u1.heap.size, 0, none⟩) 1 1))
 generalize u3.alloc (.cells #[.int .i64 0, .string ⟨#[42]⟩, .slice (some ⟨u1.heap.size, 0, none⟩) 1 1] 24) = u4 at *
 go_wp2_with fail
 refine (named_any u4 ⟨#[105, 110, 116]⟩ none 0 0).mono ?_
 rintro e u5 ⟨rfl, hb⟩
 have D_u5 := hidden (D_u4.out.trans (hb.mono D_u4.out.size))
 have hs_u5 := hb.size
 have RA_u5 := hidden (RA_u4.out.below hb D_u4.out.size)
 clear RA_u4
 have BA_u5 := hidden (BA_u4.out.below hb (Nat.le_refl _))
 clear BA_u4
 clear hb
 have D_u6 := hidden (D_u5.out.alloc D_u5.out.size (.cells #[.int .i64 0, .string ⟨#[105, 110, 116]⟩, .slice none 0 0] 24))
 have hs_u6 := (show u5.heap.size < (u5.alloc (.cells #[.int .i64 0, .string ⟨#[105, 110, 116]⟩, .slice none 0 0] 24)).heap.size by rw [nblk_alloc]; omega)
 have hbx := (Below.refl u5.heap.size u5).alloc (Nat.le_refl _) (.cells #[.int .i64 0, .string ⟨#[105, 110, 116]⟩, .slice none 0 0] 24)
 have RA_u6 := hidden (RA_u5.out.below hbx D_u5.out.size)
 clear RA_u5 hbx
 have hbx := (Below.refl u5.heap.size u5).alloc (Nat.le_refl _) (.cells #[.int .i64 0, .string ⟨#[105, 110, 116]⟩, .slice none 0 0] 24)
 have BA_u6 := hidden (BA_u5.out.below hbx (Nat.le_refl _))
 clear BA_u5 hbx
 have RB_u6 := hidden (row_one w u5)
 go_wp2_with fail
 generalize u5.alloc (.cells #[.int .i64 0, .string ⟨#[105, 110, 116]⟩, .slice none 0 0] 24) = u6 at *
 refine (named_any u6 ⟨#[42]⟩ _ 1 1).mono ?_
 rintro e u7 ⟨rfl, hb⟩
 have D_u7 := hidden (D_u6.out.trans (hb.mono D_u6.out.size))
 have hs_u7 := hb.size
 have RA_u7 := hidden (RA_u6.out.below hb D_u6.out.size)
 clear RA_u6
 have BA_u7 := hidden (BA_u6.out.below hb (Nat.le_refl _))
 clear BA_u6
 have RB_u7 := hidden (RB_u6.out.below hb D_u6.out.size)
 clear RB_u6
 clear hb
 go_upto_region 7 with fail
 have D_u8 := hidden (D_u7.out.alloc D_u7.out.size (.cells #[.int .i64 0, .string ⟨#[42]⟩, .slice (some ⟨u5.heap.size, 0, none⟩) 1 1] 24))
 have hs_u8 := (show u7.heap.size < (u7.alloc (.cells #[.int .i64 0, .string ⟨#[42]⟩, .slice (some ⟨u5.heap.size, 0, none⟩) 1 1] 24)).heap.size by rw [nblk_alloc]; omega)
 have hbx := (Below.refl u7.heap.size u7).alloc (Nat.le_refl _) (.cells #[.int .i64 0, .string ⟨#[42]⟩, .slice (some ⟨u5.heap.size, 0, none⟩) 1 1] 24)
 have RA_u8 := hidden (RA_u7.out.below hbx D_u7.out.size)
 clear RA_u7 hbx
 have hbx := (Below.refl u7.heap.size u7).alloc (Nat.le_refl _) (.cells #[.int .i64 0, .string ⟨#[42]⟩, .slice (some ⟨u5.heap.size, 0, none⟩) 1 1] 24)
 have BA_u8 := hidden (BA_u7.out.below hbx (Nat.le_refl _))
 clear BA_u7 hbx
 have hbx := (Below.refl u7.heap.size u7).alloc (Nat.le_refl _) (.cells #[.int .i64 0, .string ⟨#[42]⟩, .slice (some ⟨u5.heap.size, 0, none⟩) 1 1] 24)
 have RB_u8 := hidden (RB_u7.out.below hbx D_u7.out.size)
 clear RB_u7 hbx
 have BB_u8 := hidden (B3.new u7 0 ⟨#[42]⟩ (.slice (some ⟨u5.heap.size, 0, none⟩) 1 1))
 generalize u7.alloc (.cells #[.int .i64 0, .string ⟨#[42]⟩, .slice (some ⟨u5.heap.size, 0, none⟩) 1 1] 24) = u8 at *
 go_wp2_with fail
 have HAW : Hid (w.heap.size ≤ u3.heap.size) := by have h9 := D_wc.out.size; show _ ≤ _; omega
 have HBW : Hid (w.heap.size ≤ u7.heap.size) := by have h9 := D_wc.out.size; show _ ≤ _; omega
 have HNE : Hid (u3.heap.size ≠ u7.heap.size) := by show _ ≠ _; omega
 go_loopw [5, 26] (fun iv jv wr => InP w pl pm u3.heap.size u7.heap.size jv wr) (fun iv jv wr => (pm - intOf jv).toNat)
 case atStart => exact ⟨0, [], [], [dInt], [dInt], _, _, u1.heap.size, u5.heap.size, Nat.zero_le _, rfl, rfl, rfl, (fun j x y h => by simp at h), rfl, rfl, RA_u8.out, RB_u8.out, BA_u8.out, BB_u8.out, D_u8.out, ⟨rfl, by have h9 := D_wc.out.size; omega, by omega, by omega⟩, ⟨rfl, by have h9 := D_wc.out.size; omega, by omega, by omega⟩, by omega⟩
 case round =>
  obtain ⟨k, Xs, Ys, Da, Db, va, vb, ga, gb, hk, rfl, hxl, hyl, hP, hDa, hDb, hRa, hRb, hBa, hBb, hD, hga, hgb, hne⟩ := hrel
  have XL := hidden hxl
  have YL := hidden hyl
  have HP := hidden hP
  have HDA := hidden hDa
  have HDB := hidden hDb
  have RA_0 := hidden hRa
  have RB_0 := hidden hRb
  have BA_0 := hidden hBa
  have BB_0 := hidden hBb
  have D_0 := hidden hD
  have GA := hidden hga
  have GB := hidden hgb
  have GN := hidden hne
  clear hxl hyl hP hDa hDb hRa hRb hBa hBb hD hga hgb hne
  by_cases hlt : k < pm
  ·have z1 : (k : Int) < (pm : Int) := by omega
   have zi : (0 : Int) ≤ (k : Int) ∧ (k : Int) < (pm : Int) := ⟨by omega, z1⟩
   obtain ⟨a, d0, d1, d2, d3, d4, d5, rfl, hpb, h0, h1, h2, h3, h4, h5, ht1, ht2⟩ := K2.out.2 k (K3.out k hlt)
   obtain ⟨V1x, s1x, al1x, n1x, c1x, ex1, _⟩ := id ht1
   obtain ⟨V2x, s2x, al2x, n2x, c2x, ex2, _⟩ := id ht2
   simp only [List.cons.injEq, and_true] at ex1 ex2
   obtain ⟨rfl, rfl, rfl⟩ := ex1
   obtain ⟨rfl, rfl, rfl⟩ := ex2
   have HPB : Hid ((a.add (k * 6)).block < w.heap.size) := hpb
   have HT1 := hidden ht1
   have HT2 := hidden ht2
   have CK : Hid (∀ v : World, Below w.heap.size w v → v.cell? (a.add (k * 6)) = some (.int .i64 V1x) ∧ v.cell? ⟨(a.add (k * 6)).block, (a.add (k * 6)).off + 1, none⟩ = some (.string s1x) ∧ v.cell? ⟨(a.add (k * 6)).block, (a.add (k * 6)).off + 2, none⟩ = some (.slice al1x n1x c1x) ∧ v.cell? ⟨(a.add (k * 6)).block, (a.add (k * 6)).off + 3, none⟩ = some (.int .i64 V2x) ∧ v.cell? ⟨(a.add (k * 6)).block, (a.add (k * 6)).off + 4, none⟩ = some (.string s2x) ∧ v.cell? ⟨(a.add (k * 6)).block, (a.add (k * 6)).off + 5, none⟩ = some (.slice al2x n2x c2x)) := fun v hv => by
    have hbk := hv.block _ hpb
    have hc : ∀ o, v.cell? ⟨(a.add (k * 6)).block, o, none⟩ = w.cell? ⟨(a.add (k * 6)).block, o, none⟩ := fun o => World.cell?_of_block (a := ⟨(a.add (k * 6)).block, o, none⟩) hbk
    have hc0 : v.cell? (a.add (k * 6)) = w.cell? (a.add (k * 6)) := World.cell?_of_block (a := a.add (k * 6)) hbk
    exact ⟨hc0.trans h0, (hc _).trans h1, (hc _).trans h2, (hc _).trans h3, (hc _).trans h4, (hc _).trans h5⟩
   have HB1 : Hid ((-9223372036854775808 ≤ V1x ∧ V1x ≤ 9223372036854775807) ∧ s1x.size ≤ maxLen) := by
    obtain ⟨k', s', al', len', cap', hcs, hV, hS, _⟩ := ht1
    simp only [List.cons.injEq, Value.int.injEq, Value.string.injEq, Value.slice.injEq, true_and, and_true] at hcs
    obtain ⟨rfl, rfl, rfl, rfl, rfl⟩ := hcs
    exact ⟨hV, hS⟩
   have HB2 : Hid ((-9223372036854775808 ≤ V2x ∧ V2x ≤ 9223372036854775807) ∧ s2x.size ≤ maxLen) := by
    obtain ⟨k', s', al', len', cap', hcs, hV, hS, _⟩ := ht2
    simp only [List.cons.injEq, Value.int.injEq, Value.string.injEq, Value.slice.injEq, true_and, and_true] at hcs
    obtain ⟨rfl, rfl, rfl, rfl, rfl⟩ := hcs
    exact ⟨hV, hS⟩
   clear hpb h0 h1 h2 h3 h4 h5 ht1 ht2
   obtain ⟨k00, k01, k02, k03, k04, k05⟩ := CK.out _ D_0.out
   have HC : Hid (Calls Tryd.prog 22 #[.agg #[.int .i64 V1x, .string s1x, .slice al1x n1x c1x], .int .i64 200] wr fun e w' => CntT (fun g => g < w.heap.size) al1x n1x 200 wr e w') := tcount_gen 201 200 (by omega) (by omega) wr V1x s1x al1x n1x c1x (TOk.mono (d := 2001) (by omega) (TOk.below D_0.out 2001 HT1.out))
   go_wp2_with fail
   refine HC.out.mono ?_
   rintro e v1 ⟨hb, ⟨L1x, hl1, hr1, hc1, rfl⟩ | rfl⟩
   rotate_left
   ·have D_1 := hidden (D_0.out.trans (hb.mono D_0.out.size))
    clear hb HC
    clear k00 k01 k02 k03 k04 k05
    go_wp2_with fail
    go_ret
    exact ⟨rfl, D_1.out⟩
   subst hl1
   have X_1 := hidden hr1
   have D_1 := hidden (D_0.out.trans (hb.mono D_0.out.size))
   have RA_1 := hidden (RA_0.out.below hb D_0.out.size)
   have RB_1 := hidden (RB_0.out.below hb D_0.out.size)
   have BA_1 := hidden (BA_0.out.below hb (Nat.le_refl _))
   have BB_1 := hidden (BB_0.out.below hb (Nat.le_refl _))
   clear RA_0 RB_0 BA_0 BB_0
   have HCX := hidden hc1
   obtain ⟨nx, hnx⟩ : ∃ nx, 1 + szRL L1x = nx := ⟨_, rfl⟩
   rw [hnx] at hc1 ⊢
   have znx : ¬ (200 : Int) < (nx : Int) := by omega
   clear hb hr1 HC hnx hc1
   clear k00 k01 k02 k03 k04 k05
   obtain ⟨k10, k11, k12, k13, k14, k15⟩ := CK.out _ D_1.out
   have HC : Hid (Calls Tryd.prog 22 #[.agg #[.int .i64 V2x, .string s2x, .slice al2x n2x c2x], .int .i64 200] v1 fun e w' => CntT (fun g => g < w.heap.size) al2x n2x 200 v1 e w') := tcount_gen 201 200 (by omega) (by omega) v1 V2x s2x al2x n2x c2x (TOk.mono (d := 2001) (by omega) (TOk.below D_1.out 2001 HT2.out))
   go_wp2_with fail
   refine HC.out.mono ?_
   rintro e v2 ⟨hb, ⟨L2x, hl2, hr2, hc2, rfl⟩ | rfl⟩
   rotate_left
   ·have D_2 := hidden (D_1.out.trans (hb.mono D_1.out.size))
    clear hb HC
    clear k10 k11 k12 k13 k14 k15
    go_wp2_with fail
    go_ret
    exact ⟨rfl, D_2.out⟩
   subst hl2
   have D_2 := hidden (D_1.out.trans (hb.mono D_1.out.size))
   have RA_2 := hidden (RA_1.out.below hb D_1.out.size)
   have RB_2 := hidden (RB_1.out.below hb D_1.out.size)
   have BA_2 := hidden (BA_1.out.below hb (Nat.le_refl _))
   have BB_2 := hidden (BB_1.out.below hb (Nat.le_refl _))
   clear RA_1 RB_1 BA_1 BB_1
   have X_2 := hidden (X_1.out.beneath hb (Nat.le_refl _))
   have Y_2 := hidden hr2
   have HCY := hidden hc2
   obtain ⟨ny, hny⟩ : ∃ ny, 1 + szRL L2x = ny := ⟨_, rfl⟩
   rw [hny] at hc2 ⊢
   have zny : ¬ (200 : Int) < (ny : Int) := by omega
   clear hb hr2 HC hny hc2 X_1
   clear k10 k11 k12 k13 k14 k15
   obtain ⟨k20, k21, k22, k23, k24, k25⟩ := CK.out _ D_2.out
   have es : (⟨s1x.toList.toArray⟩ : ByteArray) = s1x := by rw [Go.ByteArray.toList_eq]
   have HM0 := rmay (P := fun g => g < w.heap.size) 2000 (.mk V1x s1x.toList L1x) (by rw [sz_L]; show 1 + szRL L1x ≤ 2000; have h9 := HCX.out; omega) (by omega) v2 al1x c1x X_2.out
   simp only [Rw.V, Rw.S, Rw.L] at HM0
   rw [es] at HM0
   clear es
   cases hm1 : (Rw.mk V1x s1x.toList L1x).may with
   | false =>
    rw [hm1] at HM0
    have HR := hidden HM0
    clear HM0 hm1
    go_wp2_with fail
    refine HR.out.mono ?_
    rintro e v3 ⟨rfl, hb⟩
    have D_3 := hidden (D_2.out.trans (hb.mono D_2.out.size))
    clear hb HR
    clear k20 k21 k22 k23 k24 k25
    go_wp2_with fail
    go_ret
    exact ⟨rfl, D_3.out⟩
   | true =>
   rw [hm1] at HM0
   have HR := hidden HM0
   have HM1 := hidden hm1
   clear HM0 hm1
   go_wp2_with fail
   refine HR.out.mono ?_
   rintro e v3 ⟨rfl, hb⟩
   have D_3 := hidden (D_2.out.trans (hb.mono D_2.out.size))
   have RA_3 := hidden (RA_2.out.below hb D_2.out.size)
   have RB_3 := hidden (RB_2.out.below hb D_2.out.size)
   have BA_3 := hidden (BA_2.out.below hb (Nat.le_refl _))
   have BB_3 := hidden (BB_2.out.below hb (Nat.le_refl _))
   clear RA_2 RB_2 BA_2 BB_2
   have X_3 := hidden (X_2.out.beneath hb (Nat.le_refl _))
   have Y_3 := hidden (Y_2.out.beneath hb (Nat.le_refl _))
   clear hb HR X_2 Y_2
   clear k20 k21 k22 k23 k24 k25
   obtain ⟨k30, k31, k32, k33, k34, k35⟩ := CK.out _ D_3.out
   have es : (⟨s2x.toList.toArray⟩ : ByteArray) = s2x := by rw [Go.ByteArray.toList_eq]
   have HM0 := rmay (P := fun g => g < w.heap.size) 2000 (.mk V2x s2x.toList L2x) (by rw [sz_L]; show 1 + szRL L2x ≤ 2000; have h9 := HCY.out; omega) (by omega) v3 al2x c2x Y_3.out
   simp only [Rw.V, Rw.S, Rw.L] at HM0
   rw [es] at HM0
   clear es
   cases hm2 : (Rw.mk V2x s2x.toList L2x).may with
   | false =>
    rw [hm2] at HM0
    have HR := hidden HM0
    clear HM0 hm2
    go_wp2_with fail
    refine HR.out.mono ?_
    rintro e v4 ⟨rfl, hb⟩
    have D_4 := hidden (D_3.out.trans (hb.mono D_3.out.size))
    clear hb HR
    clear k30 k31 k32 k33 k34 k35
    go_wp2_with fail
    go_ret
    exact ⟨rfl, D_4.out⟩
   | true =>
   rw [hm2] at HM0
   have HR := hidden HM0
   have HM2 := hidden hm2
   clear HM0 hm2
   go_wp2_with fail
   refine HR.out.mono ?_
   rintro e v4 ⟨rfl, hb⟩
   have D_4 := hidden (D_3.out.trans (hb.mono D_3.out.size))
   have RA_4 := hidden (RA_3.out.below hb D_3.out.size)
   have RB_4 := hidden (RB_3.out.below hb D_3.out.size)
   have BA_4 := hidden (BA_3.out.below hb (Nat.le_refl _))
   have BB_4 := hidden (BB_3.out.below hb (Nat.le_refl _))
   clear RA_3 RB_3 BA_3 BB_3
   have X_4 := hidden (X_3.out.beneath hb (Nat.le_refl _))
   have Y_4 := hidden (Y_3.out.beneath hb (Nat.le_refl _))
   clear hb HR X_3 Y_3
   clear k30 k31 k32 k33 k34 k35
   clear D_0 D_1 D_2 D_3
   go_upto_region 12 with fail
   have es1 : s1x = (⟨s1x.toList.toArray⟩ : ByteArray) := by rw [Go.ByteArray.toList_eq]
   have es2 : s2x = (⟨s2x.toList.toArray⟩ : ByteArray) := by rw [Go.ByteArray.toList_eq]
   obtain ⟨x, hx⟩ : ∃ x, Rw.mk V1x s1x.toList L1x = x := ⟨_, rfl⟩
   obtain ⟨y, hy⟩ : ∃ y, Rw.mk V2x s2x.toList L2x = y := ⟨_, rfl⟩
   have CX : Hid (∀ v : World, Below w.heap.size w v → v.cell? (a.add (k * 6)) = some (.int .i64 x.V) ∧ v.cell? ⟨(a.add (k * 6)).block, (a.add (k * 6)).off + 1, none⟩ = some (.string ⟨x.S.toArray⟩) ∧ v.cell? ⟨(a.add (k * 6)).block, (a.add (k * 6)).off + 2, none⟩ = some (.slice al1x x.L.length c1x) ∧ v.cell? ⟨(a.add (k * 6)).block, (a.add (k * 6)).off + 3, none⟩ = some (.int .i64 y.V) ∧ v.cell? ⟨(a.add (k * 6)).block, (a.add (k * 6)).off + 4, none⟩ = some (.string ⟨y.S.toArray⟩) ∧ v.cell? ⟨(a.add (k * 6)).block, (a.add (k * 6)).off + 5, none⟩ = some (.slice al2x y.L.length c2x)) := fun v hv => by
    have h9 := CK.out v hv
    rw [es1, es2] at h9
    rw [← hx, ← hy]
    exact h9
   have BX : Hid (Bd x) := by rw [← hx]; exact ⟨HB1.out.1.1, HB1.out.1.2, by show s1x.toList.length ≤ maxLen; rw [Go.ByteArray.toList_eq]; exact HB1.out.2⟩
   have BY : Hid (Bd y) := by rw [← hy]; exact ⟨HB2.out.1.1, HB2.out.1.2, by show s2x.toList.length ≤ maxLen; rw [Go.ByteArray.toList_eq]; exact HB2.out.2⟩
   have MX : Hid (x.may = true) := by rw [← hx]; exact HM1.out
   have MY : Hid (y.may = true) := by rw [← hy]; exact HM2.out
   have ZX : Hid (x.sz ≤ 201) := by show _ ≤ _; rw [← hx, sz_L]; show 1 + szRL L1x ≤ 201; have h9 := HCX.out; omega
   have ZY : Hid (y.sz ≤ 201) := by show _ ≤ _; rw [← hy, sz_L]; show 1 + szRL L2x ≤ 201; have h9 := HCY.out; omega
   have X4 : Hid (RT (fun g => g < w.heap.size) v4 x.L al1x) := by rw [← hx]; exact X_4.out
   have Y4 : Hid (RT (fun g => g < w.heap.size) v4 y.L al2x) := by rw [← hy]; exact Y_4.out
   have HPA : Hid (PAt w (some a) k x y) := by
    obtain ⟨h0, h1, h2, h3, h4, h5⟩ := CX.out w (Below.refl _ _)
    exact ⟨a, al1x, al2x, c1x, c2x, rfl, HPB.out, h0, h1, h2, h3, h4, h5, X4.out.keep (fun g hg _ => (D_4.out.block g hg).symm), Y4.out.keep (fun g hg _ => (D_4.out.block g hg).symm), BX.out, BY.out, MX.out, MY.out, ZX.out, ZY.out⟩
   clear X_4 Y_4 HM1 HM2 HB1 HB2 CK HT1 HT2 HCX HCY hx hy es1 es2
   obtain ⟨vao, vac, rfl⟩ := RA_4.out.slice
   have hdla : Hid (Da.length = k + 1) := by
    show _ = _
    have h9 := congrArg List.length HDA.out
    rw [List.length_map, List.length_cons, XL.out] at h9
    exact h9
   have D_4d : Hid (Below w.heap.size w v4.drew) := D_4.out.trans ((drew_below10 v4).mono D_4.out.size)
   obtain ⟨k00, k01, k02, k03, k04, k05⟩ := CX.out _ D_4.out
   have f0 := BA_4.out.cells.2.2.1
   refine region_till (S := (fun w' => w'.cell? ⟨u3.heap.size, 2, none⟩ = some (.slice vao Da.length vac) ∧ w'.cell? (a.add (k * 6)) = some (.int .i64 x.V) ∧ w'.cell? ⟨(a.add (k * 6)).block, (a.add (k * 6)).off + 1, none⟩ = some (.string ⟨x.S.toArray⟩) ∧ w'.cell? ⟨(a.add (k * 6)).block, (a.add (k * 6)).off + 2, none⟩ = some (.slice al1x x.L.length c1x))) (kz := 10) (by kernel_rfl) ⟨f0, k00, k01, k02⟩ (fun hHeld => ?_)
   refine AnyTill.tk (i := 0) (v := ?_) hHeld ?_ ?_
   rotate_left
   ·(intro w hSw; (try dsimp only at hSw); go_simp; (try with_reducible rfl))
   (try simp only [Act.put, q4, q5, q6, q1, q2, q3])
   refine AnyTill.tk (i := 1) (v := ?_) hHeld ?_ ?_
   rotate_left
   ·(intro w hSw; (try dsimp only at hSw); go_simp; (try with_reducible rfl))
   (try simp only [Act.put, q4, q5, q6, q1, q2, q3])
   refine AnyTill.tk (i := 2) (v := ?_) hHeld ?_ ?_
   rotate_left
   ·(intro w hSw; (try dsimp only at hSw); go_simp; (try with_reducible rfl))
   (try simp only [Act.put, q4, q5, q6, q1, q2, q3])
   refine AnyTill.tk (i := 3) (v := ?_) hHeld ?_ ?_
   rotate_left
   ·(intro w hSw; (try dsimp only at hSw); go_simp; (try with_reducible rfl))
   (try simp only [Act.put, q4, q5, q6, q1, q2, q3])
   refine AnyTill.tk (i := 4) (v := ?_) hHeld ?_ ?_
   rotate_left
   ·(intro w hSw; (try dsimp only at hSw); go_simp; (try with_reducible rfl))
   (try simp only [Act.put, q4, q5, q6, q1, q2, q3])
   refine AnyTill.tk (i := 5) (v := ?_) hHeld ?_ ?_
   rotate_left
   ·(intro w hSw; (try dsimp only at hSw); go_simp; (try with_reducible rfl))
   (try simp only [Act.put, q4, q5, q6, q1, q2, q3])
   refine AnyTill.tk (i := 6) (v := ?_) hHeld ?_ ?_
   rotate_left
   ·(intro w hSw; (try dsimp only at hSw); go_simp; (try with_reducible rfl))
   (try simp only [Act.put, q4, q5, q6, q1, q2, q3])
   refine AnyTill.one (i := 7) (by kernel_rfl) rfl (fun K9 hK9 => ?_)
   (try simp only [q1, q2, q3])
   (first | rw [if_pos (by rfl)] | skip)
   go_simp
   have hbx : Below v4.heap.size v4 (v4.alloc (.cells #[.int .i64 x.V, .string ⟨x.S.toArray⟩, .slice al1x x.L.length c1x] 24)).drew := below_drew ((Below.refl v4.heap.size v4).alloc (Nat.le_refl _) (.cells #[.int .i64 x.V, .string ⟨x.S.toArray⟩, .slice al1x x.L.length c1x] 24))
   have D_5a := hidden (D_4.out.trans (hbx.mono D_4.out.size))
   have RA_5a := hidden (RA_4.out.below hbx D_4.out.size)
   have RB_5a := hidden (RB_4.out.below hbx D_4.out.size)
   have BA_5a := hidden (BA_4.out.below hbx (Nat.le_refl _))
   have BB_5a := hidden (BB_4.out.below hbx (Nat.le_refl _))
   have X4a := hidden (X4.out.keep (w' := (v4.alloc (.cells #[.int .i64 x.V, .string ⟨x.S.toArray⟩, .slice al1x x.L.length c1x] 24)).drew) (fun g hg hl => hbx.block g hl))
   have NB : Hid (B3 (v4.alloc (.cells #[.int .i64 x.V, .string ⟨x.S.toArray⟩, .slice al1x x.L.length c1x] 24)).drew v4.heap.size x.V ⟨x.S.toArray⟩ (.slice al1x x.L.length c1x)) := B3.new v4 x.V ⟨x.S.toArray⟩ (.slice al1x x.L.length c1x)
   have SZ9 : Hid ((v4.alloc (.cells #[.int .i64 x.V, .string ⟨x.S.toArray⟩, .slice al1x x.L.length c1x] 24)).drew.heap.size = v4.heap.size + 1) := nblk_alloc v4 (.cells #[.int .i64 x.V, .string ⟨x.S.toArray⟩, .slice al1x x.L.length c1x] 24)
   have OX := hidden (Only.of_below (S := fun _ => False) hbx)
   generalize (v4.alloc (.cells #[.int .i64 x.V, .string ⟨x.S.toArray⟩, .slice al1x x.L.length c1x] 24)).drew = w7 at *
   obtain ⟨k70, k71, k72, k73, k74, k75⟩ := CX.out _ D_5a.out
   have f7 := BA_5a.out.cells.2.2.1
   refine hK9.out _ _ (fun _ => ⟨f7, k70, k71, k72⟩) ?_
   clear hK9 K9
   (try simp only [Act.put, q4, q5, q6, q1, q2, q3])
   clear hbx k00 k01 k02 k03 k04 k05 f0
   refine AnyTill.one (i := 8) (by kernel_rfl) rfl (fun K9 hK9 => ?_)
   (try simp only [q1, q2, q3])
   have htw := RA_5a.out.tw (fun g hg => by have h9 := GA.out.1; rw [h9] at hg; cases hg; exact GA.out.2.1)
   have hcd := X4a.out.mono (Q := fun g => 0 ≤ g ∧ (Value.slice vao Da.length vac).ownBlock ≠ some g) (fun g hg _ => ⟨Nat.zero_le _, fun e => by have h9 := GA.out.1; rw [h9] at e; cases e; have h8 := GA.out.2.1; omega⟩)
   refine step_type (w := w7) (a := ⟨_, _⟩) ?_ (.tmp 64) (.tmp 70) ?_ 0 (.slice vao Da.length vac) Da ?_ htw v4.heap.size 1 ⟨x, al1x, c1x⟩ (0, 0) ?_ NB.out hcd BX.out (by have h9 := hdla.out; omega) (Nat.zero_le _) ?_
   ·rfl
   ·rfl
   ·rfl
   ·rfl
   intro gA cpA w8 hrow hgr hog
   clear htw hcd
   have hG := GA.out.1
   have hGa := GA.out.2
   have hOG := GB.out
   have hGN := GN.out
   have hkp : ∀ g', g' < w7.heap.size → g' ≠ ga → w8.heap[g']? = w7.heap[g']? := fun g' hg' hn => hgr.block g' hg' (fun e => hn (by rw [hG] at e; cases e; rfl))
   have hgl : ga < w7.heap.size := (RA_5a.out.1.lt ga hG).2
   have hogl : gb < w7.heap.size := (RB_5a.out.1.lt gb hOG.1).2
   have hbl : u3.heap.size < w7.heap.size := BA_5a.out.lt
   have hobl : u7.heap.size < w7.heap.size := BB_5a.out.lt
   have hwl : w.heap.size ≤ w7.heap.size := D_5a.out.size
   have GX : Hid ((Value.slice (some ⟨gA, 0, none⟩) (Da.length + 1) cpA).ownBlock = some gA ∧ w.heap.size ≤ gA ∧ gA ≠ u3.heap.size ∧ gA ≠ u7.heap.size) := by
    refine ⟨rfl, ?_⟩
    rcases hog with e | e
    ·rw [hG] at e
     cases e
     exact hGa
    ·refine ⟨by omega, ?_, ?_⟩ <;> omega
   have GY : Hid (gA ≠ gb) := by
    show _ ≠ _
    rcases hog with e | e
    ·rw [hG] at e
     cases e
     exact hGN
    ·omega
   have D_5b : Hid (Below w.heap.size w w8) := ⟨hgr.os.trans D_5a.out.os, hgr.tape.trans D_5a.out.tape, hgr.output.trans D_5a.out.output, Nat.le_trans D_5a.out.size hgr.size, fun g' hg' => (hkp g' (by omega) (by have h9 := hGa.1; omega)).trans (D_5a.out.block g' hg')⟩
   have RA_5b : Hid (RowA w w8 (.slice (some ⟨gA, 0, none⟩) (Da.length + 1) cpA) (Da ++ [⟨x, al1x, c1x⟩])) := by
    refine ⟨?_, fun d hd => ?_, hrow.2.2⟩
    ·have h9 := hrow.1
     rw [List.length_append] at h9 ⊢
     exact h9
    ·rcases List.mem_append.1 hd with h9 | h9
     ·exact (RA_5a.out.2.1 d h9).keep (fun g' hg' hl => hkp g' hl (by have h8 := hGa.1; omega))
     ·rw [List.mem_singleton.1 h9]
      exact X4a.out.keep (fun g' hg' hl => hkp g' hl (by have h8 := hGa.1; omega))
   have RB_5b := hidden (RB_5a.out.keep (wr' := w8) (fun g' hg' => by rw [hOG.1] at hg'; cases hg'; exact hkp _ hogl (by omega)) (fun g' hg' => hkp g' (by omega) (by have h8 := hGa.1; omega)))
   have BA_5b := hidden (BA_5a.out.keep (w' := w8) (hkp _ hbl (by omega)))
   have BB_5b := hidden (BB_5a.out.keep (w' := w8) (hkp _ hobl (by omega)))
   have NX := hidden (show ∀ g', g' < v4.heap.size → g' ≠ ga → w8.heap[g']? = v4.heap[g']? from fun g' hg' hn => (hkp g' (Nat.lt_of_lt_of_le hg' OX.out.size) hn).trans (OX.out.block g' hg' (fun c => c)))
   have hs78 : w7.heap.size ≤ w8.heap.size := hgr.size
   obtain ⟨k80, k81, k82, k83, k84, k85⟩ := CX.out _ D_5b.out
   have f8 := BA_5b.out.cells.2.2.1
   refine hK9.out _ _ (fun _ => ⟨f8, k80, k81, k82⟩) ?_
   clear hK9 K9
   (try simp only [Act.put, q4, q5, q6, q1, q2, q3])
   clear k70 k71 k72 k73 k74 k75 f7 hrow hgr hog hkp
   refine AnyTill.one (i := 9) (by kernel_rfl) rfl (fun K9 hK9 => ?_)
   (try simp only [q1, q2, q3])
   (first | rw [if_pos (by rfl)] | skip)
   go_simp
   refine hK9.out _ _ (fun _ => ⟨f8, k80, k81, k82⟩) ?_
   clear hK9 K9
   (try simp only [Act.put, q4, q5, q6, q1, q2, q3])
   have ff := BA_5b.out.cells.2.2.2
   refine AnyTill.one (i := 10) (by kernel_rfl) rfl (fun K9 hK9 => ?_)
   (try simp only [q1, q2, q3])
   (first | rw [if_pos (by rfl)] | skip)
   go_simp
   refine hK9.out _ _ (fun h => absurd rfl h) ?_
   clear hK9 K9
   (try simp only [Act.put, q4, q5, q6, q1, q2, q3])
   refine AnyTill.done (by kernel_rfl) ?_ _
   (try simp only [Act.put, q4, q5, q6, q1, q2, q3])
   clear f8 ff k80 k81 k82 k83 k84 k85
   have hk6 : ∀ g', g' ≠ u3.heap.size → (w8.setCell ⟨u3.heap.size, 2, none⟩ (.slice (some ⟨gA, 0, none⟩) (Da.length + 1) cpA)).heap[g']? = w8.heap[g']? := fun g' hg => blk_setCell_other _ _ _ _ hg
   have hbw : w.heap.size ≤ u3.heap.size := HAW.out
   have hgx := GX.out
   have D_5 : Hid (Below w.heap.size w (w8.setCell ⟨u3.heap.size, 2, none⟩ (.slice (some ⟨gA, 0, none⟩) (Da.length + 1) cpA))) := D_5b.out.setCell (p := ⟨u3.heap.size, 2, none⟩) hbw _
   have RA_5 := hidden (RA_5b.out.keep (wr' := w8.setCell ⟨u3.heap.size, 2, none⟩ (.slice (some ⟨gA, 0, none⟩) (Da.length + 1) cpA)) (fun g' hg' => hk6 g' (fun e => by rw [hgx.1] at hg'; cases hg'; omega)) (fun g' hg' => hk6 g' (by omega)))
   have RB_5 := hidden (RB_5b.out.keep (wr' := w8.setCell ⟨u3.heap.size, 2, none⟩ (.slice (some ⟨gA, 0, none⟩) (Da.length + 1) cpA)) (fun g' hg' => hk6 g' (fun e => by rw [hOG.1] at hg'; cases hg'; omega)) (fun g' hg' => hk6 g' (by omega)))
   have BA_5 := hidden (BA_5b.out.set2 (.slice (some ⟨gA, 0, none⟩) (Da.length + 1) cpA))
   have BB_5 := hidden (BB_5b.out.keep (w' := w8.setCell ⟨u3.heap.size, 2, none⟩ (.slice (some ⟨gA, 0, none⟩) (Da.length + 1) cpA)) (hk6 _ (by have h9 := HNE.out; omega)))
   have Y4n : Hid (RT (fun g' => g' < w.heap.size) (w8.setCell ⟨u3.heap.size, 2, none⟩ (.slice (some ⟨gA, 0, none⟩) (Da.length + 1) cpA)) y.L al2x) := Y4.out.keep (fun g' hg' hl => (hk6 g' (by omega)).trans (NX.out g' hl (by have h8 := hGa.1; omega)))
   generalize w8.setCell ⟨u3.heap.size, 2, none⟩ (.slice (some ⟨gA, 0, none⟩) (Da.length + 1) cpA) = v5 at *
   clear hk6 hbw hgx hG hGa hOG hGN hgl hogl hbl hobl hwl hs78 RA_5a RA_5b RB_5a RB_5b BA_5a BA_5b BB_5a BB_5b D_5a D_5b NB OX SZ9 NX RA_4 RB_4 BA_4 BB_4 D_4d
   clear GA GN Y4
   have GA := hidden GX.out
   have GN : Hid (gA ≠ gb) := GY.out
   have Y4 := hidden Y4n.out
   clear GX GY Y4n
   go_upto_region 13 with fail
   obtain ⟨vbo, vbc, rfl⟩ := RB_5.out.slice
   have hdlb : Hid (Db.length = k + 1) := by
    show _ = _
    have h9 := congrArg List.length HDB.out
    rw [List.length_map, List.length_cons, YL.out] at h9
    exact h9
   have D_5d : Hid (Below w.heap.size w v5.drew) := D_5.out.trans ((drew_below10 v5).mono D_5.out.size)
   obtain ⟨k00, k01, k02, k03, k04, k05⟩ := CX.out _ D_5.out
   have f0 := BB_5.out.cells.2.2.1
   refine region_till (S := (fun w' => w'.cell? ⟨u7.heap.size, 2, none⟩ = some (.slice vbo Db.length vbc) ∧ w'.cell? ⟨(a.add (k * 6)).block, (a.add (k * 6)).off + 3, none⟩ = some (.int .i64 y.V) ∧ w'.cell? ⟨(a.add (k * 6)).block, (a.add (k * 6)).off + 4, none⟩ = some (.string ⟨y.S.toArray⟩) ∧ w'.cell? ⟨(a.add (k * 6)).block, (a.add (k * 6)).off + 5, none⟩ = some (.slice al2x y.L.length c2x))) (kz := 10) (by kernel_rfl) ⟨f0, k03, k04, k05⟩ (fun hHeld => ?_)
   refine AnyTill.tk (i := 0) (v := ?_) hHeld ?_ ?_
   rotate_left
   ·(intro w hSw; (try dsimp only at hSw); go_simp; (try with_reducible rfl))
   (try simp only [Act.put, q4, q5, q6, q1, q2, q3])
   refine AnyTill.tk (i := 1) (v := ?_) hHeld ?_ ?_
   rotate_left
   ·(intro w hSw; (try dsimp only at hSw); go_simp; (try with_reducible rfl))
   (try simp only [Act.put, q4, q5, q6, q1, q2, q3])
   refine AnyTill.tk (i := 2) (v := ?_) hHeld ?_ ?_
   rotate_left
   ·(intro w hSw; (try dsimp only at hSw); go_simp; (try with_reducible rfl))
   (try simp only [Act.put, q4, q5, q6, q1, q2, q3])
   refine AnyTill.tk (i := 3) (v := ?_) hHeld ?_ ?_
   rotate_left
   ·(intro w hSw; (try dsimp only at hSw); go_simp; (try with_reducible rfl))
   (try simp only [Act.put, q4, q5, q6, q1, q2, q3])
   refine AnyTill.tk (i := 4) (v := ?_) hHeld ?_ ?_
   rotate_left
   ·(intro w hSw; (try dsimp only at hSw); go_simp; (try with_reducible rfl))
   (try simp only [Act.put, q4, q5, q6, q1, q2, q3])
   refine AnyTill.tk (i := 5) (v := ?_) hHeld ?_ ?_
   rotate_left
   ·(intro w hSw; (try dsimp only at hSw); go_simp; (try with_reducible rfl))
   (try simp only [Act.put, q4, q5, q6, q1, q2, q3])
   refine AnyTill.tk (i := 6) (v := ?_) hHeld ?_ ?_
   rotate_left
   ·(intro w hSw; (try dsimp only at hSw); go_simp; (try with_reducible rfl))
   (try simp only [Act.put, q4, q5, q6, q1, q2, q3])
   refine AnyTill.one (i := 7) (by kernel_rfl) rfl (fun K9 hK9 => ?_)
   (try simp only [q1, q2, q3])
   (first | rw [if_pos (by rfl)] | skip)
   go_simp
   have hbx : Below v5.heap.size v5 (v5.alloc (.cells #[.int .i64 y.V, .string ⟨y.S.toArray⟩, .slice al2x y.L.length c2x] 24)).drew := below_drew ((Below.refl v5.heap.size v5).alloc (Nat.le_refl _) (.cells #[.int .i64 y.V, .string ⟨y.S.toArray⟩, .slice al2x y.L.length c2x] 24))
   have D_6a := hidden (D_5.out.trans (hbx.mono D_5.out.size))
   have RB_6a := hidden (RB_5.out.below hbx D_5.out.size)
   have RA_6a := hidden (RA_5.out.below hbx D_5.out.size)
   have BB_6a := hidden (BB_5.out.below hbx (Nat.le_refl _))
   have BA_6a := hidden (BA_5.out.below hbx (Nat.le_refl _))
   have Y4a := hidden (Y4.out.keep (w' := (v5.alloc (.cells #[.int .i64 y.V, .string ⟨y.S.toArray⟩, .slice al2x y.L.length c2x] 24)).drew) (fun g hg hl => hbx.block g hl))
   have NB : Hid (B3 (v5.alloc (.cells #[.int .i64 y.V, .string ⟨y.S.toArray⟩, .slice al2x y.L.length c2x] 24)).drew v5.heap.size y.V ⟨y.S.toArray⟩ (.slice al2x y.L.length c2x)) := B3.new v5 y.V ⟨y.S.toArray⟩ (.slice al2x y.L.length c2x)
   have SZ9 : Hid ((v5.alloc (.cells #[.int .i64 y.V, .string ⟨y.S.toArray⟩, .slice al2x y.L.length c2x] 24)).drew.heap.size = v5.heap.size + 1) := nblk_alloc v5 (.cells #[.int .i64 y.V, .string ⟨y.S.toArray⟩, .slice al2x y.L.length c2x] 24)
   have OX := hidden (Only.of_below (S := fun _ => False) hbx)
   generalize (v5.alloc (.cells #[.int .i64 y.V, .string ⟨y.S.toArray⟩, .slice al2x y.L.length c2x] 24)).drew = w7 at *
   obtain ⟨k70, k71, k72, k73, k74, k75⟩ := CX.out _ D_6a.out
   have f7 := BB_6a.out.cells.2.2.1
   refine hK9.out _ _ (fun _ => ⟨f7, k73, k74, k75⟩) ?_
   clear hK9 K9
   (try simp only [Act.put, q4, q5, q6, q1, q2, q3])
   clear hbx k00 k01 k02 k03 k04 k05 f0
   refine AnyTill.one (i := 8) (by kernel_rfl) rfl (fun K9 hK9 => ?_)
   (try simp only [q1, q2, q3])
   have htw := RB_6a.out.tw (fun g hg => by have h9 := GB.out.1; rw [h9] at hg; cases hg; exact GB.out.2.1)
   have hcd := Y4a.out.mono (Q := fun g => 0 ≤ g ∧ (Value.slice vbo Db.length vbc).ownBlock ≠ some g) (fun g hg _ => ⟨Nat.zero_le _, fun e => by have h9 := GB.out.1; rw [h9] at e; cases e; have h8 := GB.out.2.1; omega⟩)
   refine step_type (w := w7) (a := ⟨_, _⟩) ?_ (.tmp 74) (.tmp 80) ?_ 0 (.slice vbo Db.length vbc) Db ?_ htw v5.heap.size 1 ⟨y, al2x, c2x⟩ (0, 0) ?_ NB.out hcd BY.out (by have h9 := hdlb.out; omega) (Nat.zero_le _) ?_
   ·rfl
   ·rfl
   ·rfl
   ·rfl
   intro gB cpB w8 hrow hgr hog
   clear htw hcd
   have hG := GB.out.1
   have hGa := GB.out.2
   have hOG := GA.out
   have hGN := GN.out
   have hkp : ∀ g', g' < w7.heap.size → g' ≠ gb → w8.heap[g']? = w7.heap[g']? := fun g' hg' hn => hgr.block g' hg' (fun e => hn (by rw [hG] at e; cases e; rfl))
   have hgl : gb < w7.heap.size := (RB_6a.out.1.lt gb hG).2
   have hogl : gA < w7.heap.size := (RA_6a.out.1.lt gA hOG.1).2
   have hbl : u7.heap.size < w7.heap.size := BB_6a.out.lt
   have hobl : u3.heap.size < w7.heap.size := BA_6a.out.lt
   have hwl : w.heap.size ≤ w7.heap.size := D_6a.out.size
   have GX : Hid ((Value.slice (some ⟨gB, 0, none⟩) (Db.length + 1) cpB).ownBlock = some gB ∧ w.heap.size ≤ gB ∧ gB ≠ u3.heap.size ∧ gB ≠ u7.heap.size) := by
    refine ⟨rfl, ?_⟩
    rcases hog with e | e
    ·rw [hG] at e
     cases e
     exact hGa
    ·refine ⟨by omega, ?_, ?_⟩ <;> omega
   have GY : Hid (gB ≠ gA) := by
    show _ ≠ _
    rcases hog with e | e
    ·rw [hG] at e
     cases e
     exact fun e => hGN e.symm
    ·omega
   have D_6b : Hid (Below w.heap.size w w8) := ⟨hgr.os.trans D_6a.out.os, hgr.tape.trans D_6a.out.tape, hgr.output.trans D_6a.out.output, Nat.le_trans D_6a.out.size hgr.size, fun g' hg' => (hkp g' (by omega) (by have h9 := hGa.1; omega)).trans (D_6a.out.block g' hg')⟩
   have RB_6b : Hid (RowA w w8 (.slice (some ⟨gB, 0, none⟩) (Db.length + 1) cpB) (Db ++ [⟨y, al2x, c2x⟩])) := by
    refine ⟨?_, fun d hd => ?_, hrow.2.2⟩
    ·have h9 := hrow.1
     rw [List.length_append] at h9 ⊢
     exact h9
    ·rcases List.mem_append.1 hd with h9 | h9
     ·exact (RB_6a.out.2.1 d h9).keep (fun g' hg' hl => hkp g' hl (by have h8 := hGa.1; omega))
     ·rw [List.mem_singleton.1 h9]
      exact Y4a.out.keep (fun g' hg' hl => hkp g' hl (by have h8 := hGa.1; omega))
   have RA_6b := hidden (RA_6a.out.keep (wr' := w8) (fun g' hg' => by rw [hOG.1] at hg'; cases hg'; exact hkp _ hogl (by omega)) (fun g' hg' => hkp g' (by omega) (by have h8 := hGa.1; omega)))
   have BB_6b := hidden (BB_6a.out.keep (w' := w8) (hkp _ hbl (by omega)))
   have BA_6b := hidden (BA_6a.out.keep (w' := w8) (hkp _ hobl (by omega)))
   have NX := hidden (show ∀ g', g' < v5.heap.size → g' ≠ gb → w8.heap[g']? = v5.heap[g']? from fun g' hg' hn => (hkp g' (Nat.lt_of_lt_of_le hg' OX.out.size) hn).trans (OX.out.block g' hg' (fun c => c)))
   have hs78 : w7.heap.size ≤ w8.heap.size := hgr.size
   obtain ⟨k80, k81, k82, k83, k84, k85⟩ := CX.out _ D_6b.out
   have f8 := BB_6b.out.cells.2.2.1
   refine hK9.out _ _ (fun _ => ⟨f8, k83, k84, k85⟩) ?_
   clear hK9 K9
   (try simp only [Act.put, q4, q5, q6, q1, q2, q3])
   clear k70 k71 k72 k73 k74 k75 f7 hrow hgr hog hkp
   refine AnyTill.one (i := 9) (by kernel_rfl) rfl (fun K9 hK9 => ?_)
   (try simp only [q1, q2, q3])
   (first | rw [if_pos (by rfl)] | skip)
   go_simp
   refine hK9.out _ _ (fun _ => ⟨f8, k83, k84, k85⟩) ?_
   clear hK9 K9
   (try simp only [Act.put, q4, q5, q6, q1, q2, q3])
   have ff := BB_6b.out.cells.2.2.2
   refine AnyTill.one (i := 10) (by kernel_rfl) rfl (fun K9 hK9 => ?_)
   (try simp only [q1, q2, q3])
   (first | rw [if_pos (by rfl)] | skip)
   go_simp
   refine hK9.out _ _ (fun h => absurd rfl h) ?_
   clear hK9 K9
   (try simp only [Act.put, q4, q5, q6, q1, q2, q3])
   refine AnyTill.done (by kernel_rfl) ?_ _
   (try simp only [Act.put, q4, q5, q6, q1, q2, q3])
   clear f8 ff k80 k81 k82 k83 k84 k85
   have hk6 : ∀ g', g' ≠ u7.heap.size → (w8.setCell ⟨u7.heap.size, 2, none⟩ (.slice (some ⟨gB, 0, none⟩) (Db.length + 1) cpB)).heap[g']? = w8.heap[g']? := fun g' hg => blk_setCell_other _ _ _ _ hg
   have hbw : w.heap.size ≤ u7.heap.size := HBW.out
   have hgx := GX.out
   have D_6 : Hid (Below w.heap.size w (w8.setCell ⟨u7.heap.size, 2, none⟩ (.slice (some ⟨gB, 0, none⟩) (Db.length + 1) cpB))) := D_6b.out.setCell (p := ⟨u7.heap.size, 2, none⟩) hbw _
   have RB_6 := hidden (RB_6b.out.keep (wr' := w8.setCell ⟨u7.heap.size, 2, none⟩ (.slice (some ⟨gB, 0, none⟩) (Db.length + 1) cpB)) (fun g' hg' => hk6 g' (fun e => by rw [hgx.1] at hg'; cases hg'; omega)) (fun g' hg' => hk6 g' (by omega)))
   have RA_6 := hidden (RA_6b.out.keep (wr' := w8.setCell ⟨u7.heap.size, 2, none⟩ (.slice (some ⟨gB, 0, none⟩) (Db.length + 1) cpB)) (fun g' hg' => hk6 g' (fun e => by rw [hOG.1] at hg'; cases hg'; omega)) (fun g' hg' => hk6 g' (by omega)))
   have BB_6 := hidden (BB_6b.out.set2 (.slice (some ⟨gB, 0, none⟩) (Db.length + 1) cpB))
   have BA_6 := hidden (BA_6b.out.keep (w' := w8.setCell ⟨u7.heap.size, 2, none⟩ (.slice (some ⟨gB, 0, none⟩) (Db.length + 1) cpB)) (hk6 _ (by have h9 := HNE.out; omega)))
   skip
   generalize w8.setCell ⟨u7.heap.size, 2, none⟩ (.slice (some ⟨gB, 0, none⟩) (Db.length + 1) cpB) = v6 at *
   clear hk6 hbw hgx hG hGa hOG hGN hgl hogl hbl hobl hwl hs78 RB_6a RB_6b RA_6a RA_6b BB_6a BB_6b BA_6a BA_6b D_6a D_6b NB OX SZ9 NX RB_5 RA_5 BB_5 BA_5 D_5d
   have GB2 := hidden GX.out
   have GN2 : Hid (gA ≠ gB) := fun e => GY.out e.symm
   go_wp2_with fail
   go_roundw
   case rel =>
    refine ⟨k + 1, Xs ++ [x], Ys ++ [y], Da ++ [⟨x, al1x, c1x⟩], Db ++ [⟨y, al2x, c2x⟩], _, _, gA, gB, by omega, by go_num, by rw [List.length_append, XL.out]; rfl, by rw [List.length_append, YL.out]; rfl, fun j x' y' hjx hjy => ?_, by rw [List.map_append, HDA.out]; rfl, by rw [List.map_append, HDB.out]; rfl, RA_6.out, RB_6.out, BA_6.out, BB_6.out, D_6.out, GA.out, GB2.out, GN2.out⟩
    rcases snoc_get hjx with ⟨j1, j2⟩ | ⟨j1, j2⟩
    ·rcases snoc_get hjy with ⟨j3, j4⟩ | ⟨j3, j4⟩
     ·exact HP.out j x' y' j2 j4
     ·exfalso
      have h9 := XL.out
      have h8 := YL.out
      omega
    ·rcases snoc_get hjy with ⟨j3, j4⟩ | ⟨j3, j4⟩
     ·exfalso
      have h9 := XL.out
      have h8 := YL.out
      omega
     ·have h9 := XL.out
      have e9 : j = k := by omega
      subst e9 j2 j4
      exact HPA.out
   case measure => simp [intOf]; omega
  ·have z1 : ¬ (k : Int) < (pm : Int) := by omega
   obtain ⟨wb, rfl⟩ : ∃ wb, wb = wr := ⟨_, rfl⟩
   have hkp : k = pm := by omega
   subst hkp
   clear z1 hlt hk
   obtain ⟨ao, ca, rfl⟩ := RA_0.out.slice
   obtain ⟨bo, cb, rfl⟩ := RB_0.out.slice
   have hda := congrArg List.length HDA.out
   have hdb := congrArg List.length HDB.out
   rw [List.length_map] at hda hdb
   obtain ⟨x, hx⟩ : ∃ x, star Xs = x := ⟨_, rfl⟩
   obtain ⟨y, hy⟩ : ∃ y, star Ys = y := ⟨_, rfl⟩
   have hxl : Da.length = x.L.length := by rw [← hx]; exact hda
   have hyl : Db.length = y.L.length := by rw [← hy]; exact hdb
   have A_3 : Hid (B3 wb u3.heap.size x.V ⟨x.S.toArray⟩ (.slice ao x.L.length ca)) := by
    have h9 := BA_0.out
    rw [hxl] at h9
    rw [← hx] at h9 ⊢
    exact h9
   have C_3 : Hid (B3 wb u7.heap.size y.V ⟨y.S.toArray⟩ (.slice bo y.L.length cb)) := by
    have h9 := BB_0.out
    rw [hyl] at h9
    rw [← hy] at h9 ⊢
    exact h9
   have X_3 : Hid (RT (fun g => g < wb.heap.size) wb x.L ao) := by
    have h9 := (RA_0.out.tw (fun g hg => by have h9 := GA.out.1; rw [h9] at hg; cases hg; exact GA.out.2.1)).rt.1
    rw [HDA.out] at h9
    rw [← hx]
    exact h9.mono (fun g _ hl => hl)
   have Y_3 : Hid (RT (fun g => g < wb.heap.size) wb y.L bo) := by
    have h9 := (RB_0.out.tw (fun g hg => by have h9 := GB.out.1; rw [h9] at hg; cases hg; exact GB.out.2.1)).rt.1
    rw [HDB.out] at h9
    rw [← hy]
    exact h9.mono (fun g _ hl => hl)
   have HPX : Hid (∀ j x', Xs[j]? = some x' → ∃ y', Ys[j]? = some y' ∧ PAt w pl j x' y') := fun j x' hj => by
    have h1 := (List.getElem?_eq_some_iff.1 hj).1
    have h2 := XL.out
    have h3 := YL.out
    exact ⟨_, List.getElem?_eq_getElem (by omega), HP.out j x' _ hj (List.getElem?_eq_getElem (by omega))⟩
   have HPY : Hid (∀ j y', Ys[j]? = some y' → ∃ x', Xs[j]? = some x' ∧ PAt w pl j x' y') := fun j y' hj => by
    have h1 := (List.getElem?_eq_some_iff.1 hj).1
    have h2 := XL.out
    have h3 := YL.out
    exact ⟨_, List.getElem?_eq_getElem (by omega), HP.out j _ y' (List.getElem?_eq_getElem (by omega)) hj⟩
   have XE : Hid (x.sz ≤ 1208 ∧ x.may = true ∧ Bd x) := by
    rw [← hx]
    refine ⟨star_sz (fun j x' hj => ?_) (by have h2 := XL.out; omega), star_may (fun j x' hj => ?_), star_bd _⟩
    ·obtain ⟨y', _, _, _, _, _, _, _, _, _, _, _, _, _, _, _, _, _, _, _, _, h9, _⟩ := HPX.out j x' hj
     exact h9
    ·obtain ⟨y', _, _, _, _, _, _, _, _, _, _, _, _, _, _, _, _, _, _, h9, _⟩ := HPX.out j x' hj
     exact h9
   have YE : Hid (y.sz ≤ 1208 ∧ y.may = true ∧ Bd y) := by
    rw [← hy]
    refine ⟨star_sz (fun j y' hj => ?_) (by have h2 := YL.out; omega), star_may (fun j y' hj => ?_), star_bd _⟩
    ·obtain ⟨x', _, _, _, _, _, _, _, _, _, _, _, _, _, _, _, _, _, _, _, _, _, h9⟩ := HPY.out j y' hj
     exact h9
    ·obtain ⟨x', _, _, _, _, _, _, _, _, _, _, _, _, _, _, _, _, _, _, _, h9, _⟩ := HPY.out j y' hj
     exact h9
   have TX : Hid (x.ty = .c [42] (.c sInt [] :: tyL Xs)) := by show _ = _; rw [← hx, star_ty]
   have TY : Hid (y.ty = .c [42] (.c sInt [] :: tyL Ys)) := by show _ = _; rw [← hy, star_ty]
   have VX : Hid (∀ (j : Nat) (x' : Rw), Xs[j]? = some x' → ∀ v, v ∈ x'.vi → v ∈ x.vi) := fun j x' hj => by rw [← hx]; exact star_vi hj
   have VY : Hid (∀ (j : Nat) (y' : Rw), Ys[j]? = some y' → ∀ v, v ∈ y'.vi → v ∈ y.vi) := fun j y' hj => by rw [← hy]; exact star_vi hj
   have VB : Hid (∀ v, v ∈ x.vi ++ y.vi → v ≤ 9223372036854775807) := fun v hv => by
    rcases List.mem_append.1 hv with hv | hv
    ·exact vi_le XE.out.2.2.2.1 (rt_vi X_3.out) v hv
    ·exact vi_le YE.out.2.2.2.1 (rt_vi Y_3.out) v hv
   have D_3 := hidden D_0.out
   have HAL : Hid (u3.heap.size < wb.heap.size) := A_3.out.lt
   have HBL : Hid (u7.heap.size < wb.heap.size) := C_3.out.lt
   have hwr : w.heap.size ≤ wb.heap.size := D_0.out.size
   have hxs : x.sz ≤ 1208 := XE.out.1
   have hys : y.sz ≤ 1208 := YE.out.1
   clear hda hdb hxl hyl hx hy RA_0 RB_0 BA_0 BB_0 D_0 GA GB GN HP HDA HDB
   have HN := hidden (new_s wb (A := fun g => g < wb.heap.size) (fun g hg => hg))
   go_wp2_with fail
   refine HN.out.mono ?_
   rintro e w4 ⟨rfl, g1, hb⟩
   have HOW1 : Hid (∀ g, Own3 (wb.heap.size + 2) wb.heap.size (wb.heap.size + 1) g → wb.heap.size ≤ g) := fun g hg => by rcases hg with h9 | h9 | h9 <;> omega
   have HOL1 : Hid (∀ g, Own3 (wb.heap.size + 2) wb.heap.size (wb.heap.size + 1) g → g < w4.heap.size) := g1.lt
   have hs34 := hb.size
   have hb4 := Only.of_below (S := (Own3 (wb.heap.size + 2) wb.heap.size (wb.heap.size + 1))) hb
   have A_4 : Hid (B3 w4 u3.heap.size x.V ⟨x.S.toArray⟩ (.slice ao x.L.length ca)) := A_3.out.keep (hb4.block _ A_3.out.lt (fun e => by have h8 := HOW1.out _ e; have h7 := HAL.out; omega))
   have C_4 : Hid (B3 w4 u7.heap.size y.V ⟨y.S.toArray⟩ (.slice bo y.L.length cb)) := C_3.out.keep (hb4.block _ C_3.out.lt (fun e => by have h8 := HOW1.out _ e; have h7 := HBL.out; omega))
   have X_4 : Hid (RT (fun g => g < wb.heap.size) w4 x.L ao) := X_3.out.keep (fun g hg hl => hb4.block g hl (fun e => by have h8 := HOW1.out _ e; omega))
   have Y_4 : Hid (RT (fun g => g < wb.heap.size) w4 y.L bo) := Y_3.out.keep (fun g hg hl => hb4.block g hl (fun e => by have h8 := HOW1.out _ e; omega))
   have D_4 : Hid (Below w.heap.size w w4) := ((Only.of_below D_3.out).trans (hb4.mono (S' := fun g => w.heap.size ≤ g) (fun g _ e => by have h8 := HOW1.out _ e; omega))).toBelow (fun g hg => hg)
   clear A_3 C_3 X_3 Y_3 D_3
   have T_4 := hidden g1
   clear g1 hb hb4 HN
   have HN := hidden (new_s w4 (A := fun g => g < w4.heap.size) (fun g hg => hg))
   go_wp2_with fail
   refine HN.out.mono ?_
   rintro e w5 ⟨rfl, g1, hb⟩
   have HOW2 : Hid (∀ g, Own3 (w4.heap.size + 2) w4.heap.size (w4.heap.size + 1) g → w4.heap.size ≤ g) := fun g hg => by rcases hg with h9 | h9 | h9 <;> omega
   have HOW2b : Hid (∀ g, Own3 (w4.heap.size + 2) w4.heap.size (w4.heap.size + 1) g → wb.heap.size ≤ g) := fun g hg => by have h9 := HOW2.out g hg; omega
   have HOL2 : Hid (∀ g, Own3 (w4.heap.size + 2) w4.heap.size (w4.heap.size + 1) g → g < w5.heap.size) := g1.lt
   have hs45 := hb.size
   have T_5 := hidden ((T_4.out.aug (A' := fun g => g < wb.heap.size ∨ (w4.heap.size ≤ g ∧ g < w5.heap.size)) (fun g hg => hg.imp id (fun h9 => h9.1))).below hb)
   have U_5 := hidden g1
   have hb5 := Only.of_below (S := (Own3 (wb.heap.size + 2) wb.heap.size (wb.heap.size + 1))) hb
   have A_5 : Hid (B3 w5 u3.heap.size x.V ⟨x.S.toArray⟩ (.slice ao x.L.length ca)) := A_4.out.keep (hb5.block _ A_4.out.lt (fun e => by have h8 := HOW1.out _ e; have h7 := HAL.out; omega))
   have C_5 : Hid (B3 w5 u7.heap.size y.V ⟨y.S.toArray⟩ (.slice bo y.L.length cb)) := C_4.out.keep (hb5.block _ C_4.out.lt (fun e => by have h8 := HOW1.out _ e; have h7 := HBL.out; omega))
   have X_5 : Hid (RT (fun g => g < wb.heap.size) w5 x.L ao) := X_4.out.keep (fun g hg hl => hb5.block g hl (fun e => by have h8 := HOW1.out _ e; omega))
   have Y_5 : Hid (RT (fun g => g < wb.heap.size) w5 y.L bo) := Y_4.out.keep (fun g hg hl => hb5.block g hl (fun e => by have h8 := HOW1.out _ e; omega))
   have D_5 : Hid (Below w.heap.size w w5) := ((Only.of_below D_4.out).trans (hb5.mono (S' := fun g => w.heap.size ≤ g) (fun g _ e => by have h8 := HOW1.out _ e; omega))).toBelow (fun g hg => hg)
   clear A_4 C_4 X_4 Y_4 D_4
   clear g1 hb hb5 HN T_4
   obtain ⟨a0, a1, a2, af⟩ := A_5.out.cells
   obtain ⟨b0, b1, b2, bf⟩ := C_5.out.cells
   have HV := hidden (vars_s U_5.out (x := x) ca XE.out.2.1 (by omega) XE.out.2.2 (X_5.out.mono (fun g hg _ e => by have h8 := HOW2b.out _ e; omega)) (by omega))
   go_wp2_with fail
   refine HV.out.mono ?_
   rintro e w6 ⟨vv, rfl, g2, g1⟩
   have U_6 := hidden g2
   have T_6 := hidden (T_5.out.only g1 (fun g hg => Or.inr ⟨HOW2.out g hg, HOL2.out g hg⟩))
   have A_6 : Hid (B3 w6 u3.heap.size x.V ⟨x.S.toArray⟩ (.slice ao x.L.length ca)) := A_5.out.keep (g1.block _ A_5.out.lt (fun e => by have h8 := HOW2b.out _ e; have h7 := HAL.out; omega))
   have C_6 : Hid (B3 w6 u7.heap.size y.V ⟨y.S.toArray⟩ (.slice bo y.L.length cb)) := C_5.out.keep (g1.block _ C_5.out.lt (fun e => by have h8 := HOW2b.out _ e; have h7 := HBL.out; omega))
   have X_6 : Hid (RT (fun g => g < wb.heap.size) w6 x.L ao) := X_5.out.keep (fun g hg hl => g1.block g hl (fun e => by have h8 := HOW2b.out _ e; omega))
   have Y_6 : Hid (RT (fun g => g < wb.heap.size) w6 y.L bo) := Y_5.out.keep (fun g hg hl => g1.block g hl (fun e => by have h8 := HOW2b.out _ e; omega))
   have D_6 : Hid (Below w.heap.size w w6) := ((Only.of_below D_5.out).trans (g1.mono (S' := fun g => w.heap.size ≤ g) (fun g _ e => by have h8 := HOW2b.out _ e; omega))).toBelow (fun g hg => hg)
   clear A_5 C_5 X_5 Y_5 D_5
   have hs56 := g1.size
   clear g1 g2 HV U_5 T_5
   clear a0 a1 a2 af b0 b1 b2 bf
   obtain ⟨a0, a1, a2, af⟩ := A_6.out.cells
   obtain ⟨b0, b1, b2, bf⟩ := C_6.out.cells
   have HV := hidden (vars_s U_6.out (x := y) cb YE.out.2.1 (by omega) YE.out.2.2 (Y_6.out.mono (fun g hg _ e => by have h8 := HOW2b.out _ e; omega)) (by omega))
   go_wp2_with fail
   refine HV.out.mono ?_
   rintro e w7 ⟨vv2, rfl, g2, g1⟩
   have U_7 := hidden g2
   have T_7 := hidden (T_6.out.only g1 (fun g hg => Or.inr ⟨HOW2.out g hg, HOL2.out g hg⟩))
   have A_7 : Hid (B3 w7 u3.heap.size x.V ⟨x.S.toArray⟩ (.slice ao x.L.length ca)) := A_6.out.keep (g1.block _ A_6.out.lt (fun e => by have h8 := HOW2b.out _ e; have h7 := HAL.out; omega))
   have C_7 : Hid (B3 w7 u7.heap.size y.V ⟨y.S.toArray⟩ (.slice bo y.L.length cb)) := C_6.out.keep (g1.block _ C_6.out.lt (fun e => by have h8 := HOW2b.out _ e; have h7 := HBL.out; omega))
   have X_7 : Hid (RT (fun g => g < wb.heap.size) w7 x.L ao) := X_6.out.keep (fun g hg hl => g1.block g hl (fun e => by have h8 := HOW2b.out _ e; omega))
   have Y_7 : Hid (RT (fun g => g < wb.heap.size) w7 y.L bo) := Y_6.out.keep (fun g hg hl => g1.block g hl (fun e => by have h8 := HOW2b.out _ e; omega))
   have D_7 : Hid (Below w.heap.size w w7) := ((Only.of_below D_6.out).trans (g1.mono (S' := fun g => w.heap.size ≤ g) (fun g _ e => by have h8 := HOW2b.out _ e; omega))).toBelow (fun g hg => hg)
   clear A_6 C_6 X_6 Y_6 D_6
   have hs67 := g1.size
   clear g1 g2 HV U_6 T_6
   clear a0 a1 a2 af b0 b1 b2 bf
   obtain ⟨a0, a1, a2, af⟩ := A_7.out.cells
   obtain ⟨b0, b1, b2, bf⟩ := C_7.out.cells
   have HU := hidden (unify_s (A := fun g => g < wb.heap.size ∨ (w4.heap.size ≤ g ∧ g < w5.heap.size)) (fun g hg => by omega) T_7.out (x := x) (y := y) ca cb XE.out.2.1 YE.out.2.1 (by omega) XE.out.2.2 YE.out.2.2 (X_7.out.mono (fun g hg _ e => by have h8 := HOW1.out _ e; omega)) (Y_7.out.mono (fun g hg _ e => by have h8 := HOW1.out _ e; omega)) (by omega))
   go_wp2_with fail
   refine HU.out.mono ?_
   rintro e w8 ⟨e1, rfl, g1, h9⟩
   have H1 := hidden h9
   have U_8 := hidden ((U_7.out.only g1 (fun g hg => HOL1.out g hg)).iff (V' := x.vi ++ y.vi) (fun v => by simp))
   have A_8 : Hid (B3 w8 u3.heap.size x.V ⟨x.S.toArray⟩ (.slice ao x.L.length ca)) := A_7.out.keep (g1.block _ A_7.out.lt (fun e => by have h8 := HOW1.out _ e; have h7 := HAL.out; omega))
   have C_8 : Hid (B3 w8 u7.heap.size y.V ⟨y.S.toArray⟩ (.slice bo y.L.length cb)) := C_7.out.keep (g1.block _ C_7.out.lt (fun e => by have h8 := HOW1.out _ e; have h7 := HBL.out; omega))
   have X_8 : Hid (RT (fun g => g < wb.heap.size) w8 x.L ao) := X_7.out.keep (fun g hg hl => g1.block g hl (fun e => by have h8 := HOW1.out _ e; omega))
   have Y_8 : Hid (RT (fun g => g < wb.heap.size) w8 y.L bo) := Y_7.out.keep (fun g hg hl => g1.block g hl (fun e => by have h8 := HOW1.out _ e; omega))
   have D_8 : Hid (Below w.heap.size w w8) := ((Only.of_below D_7.out).trans (g1.mono (S' := fun g => w.heap.size ≤ g) (fun g _ e => by have h8 := HOW1.out _ e; omega))).toBelow (fun g hg => hg)
   clear A_7 C_7 X_7 Y_7 D_7
   have hs78 := g1.size
   clear g1 h9 HU U_7 T_7
   clear a0 a1 a2 af b0 b1 b2 bf
   have T_8K : Hid (∀ ρ m V v, TBs (fun g => g < wb.heap.size ∨ (w4.heap.size ≤ g ∧ g < w5.heap.size)) w8 (wb.heap.size + 2) wb.heap.size (wb.heap.size + 1) m V ρ → Only (Own3 (w4.heap.size + 2) w4.heap.size (w4.heap.size + 1)) w8 v → TBs (fun g => g < wb.heap.size ∨ (w4.heap.size ≤ g ∧ g < w5.heap.size)) v (wb.heap.size + 2) wb.heap.size (wb.heap.size + 1) m V ρ) := fun ρ m V v h k => h.only k (fun g hg => Or.inr ⟨HOW2.out g hg, HOL2.out g hg⟩)
   go_wp2_with fail
   go_loopw [9, 10] (fun fv iv v => InQ (fun g => g < w4.heap.size) (w4.heap.size + 2) w4.heap.size (w4.heap.size + 1) Xs Ys (x.vi ++ y.vi) k w8 fv iv v) (fun fv iv v => (k - intOf iv).toNat)
   case atStart => exact ⟨0, _, 0, Nat.zero_le _, rfl, rfl, by omega, Only.refl _ _, Or.inl ⟨rfl, Ty.v, by rw [List.take_zero]; exact .done, U_8.out⟩⟩
   case round =>
    obtain ⟨j, m, ev, hj, rfl, rfl, hm, hO, hcs⟩ := hrel
    have A_9 : Hid (B3 wr u3.heap.size x.V ⟨x.S.toArray⟩ (.slice ao x.L.length ca)) := A_8.out.keep (hO.block _ A_8.out.lt (fun e => by have h8 := HOW2b.out _ e; have h7 := HAL.out; omega))
    have C_9 : Hid (B3 wr u7.heap.size y.V ⟨y.S.toArray⟩ (.slice bo y.L.length cb)) := C_8.out.keep (hO.block _ C_8.out.lt (fun e => by have h8 := HOW2b.out _ e; have h7 := HBL.out; omega))
    have X_9 : Hid (RT (fun g => g < wb.heap.size) wr x.L ao) := X_8.out.keep (fun g hg hl => hO.block g hl (fun e => by have h8 := HOW2b.out _ e; omega))
    have Y_9 : Hid (RT (fun g => g < wb.heap.size) wr y.L bo) := Y_8.out.keep (fun g hg hl => hO.block g hl (fun e => by have h8 := HOW2b.out _ e; omega))
    have D_9 : Hid (Below w.heap.size w wr) := ((Only.of_below D_8.out).trans (hO.mono (S' := fun g => w.heap.size ≤ g) (fun g _ e => by have h8 := HOW2b.out _ e; omega))).toBelow (fun g hg => hg)
    clear A_8 C_8 X_8 Y_8 D_8
    have O_9 := hidden hO
    have hs89 := hO.size
    clear hO
    by_cases hgo : j < k ∧ ev = 0
    ·obtain ⟨hlt, he0⟩ := hgo
     subst he0
     rcases hcs with ⟨_, ρ, hun, hU⟩ | ⟨hcs, _⟩
     rotate_left
     ·exact absurd rfl hcs
     have U_9 := hidden hU
     have HUN := hidden hun
     clear hun hU
     have z1 : (j : Int) < (k : Int) := by omega
     have zi : (0 : Int) ≤ (j : Int) ∧ (j : Int) < (k : Int) := ⟨by omega, z1⟩
     obtain ⟨x1, hx1⟩ : ∃ x1, Xs[j]? = some x1 := ⟨_, List.getElem?_eq_getElem (by rw [XL.out]; exact hlt)⟩
     obtain ⟨y1, hy1, a, al1, al2, c1, c2, rfl, hpb, h0, h1, h2, h3, h4, h5, hrx, hry, hbx, hby, hmx, hmy, hzx, hzy⟩ := HPX.out j x1 hx1
     have HX1 := hidden hx1
     have HY1 := hidden hy1
     have BB1 := hidden (And.intro hbx hby)
     have MM1 := hidden (And.intro hmx hmy)
     have CK : Hid (∀ v : World, Below w.heap.size w v → v.cell? (a.add (j * 6)) = some (.int .i64 x1.V) ∧ v.cell? ⟨(a.add (j * 6)).block, (a.add (j * 6)).off + 1, none⟩ = some (.string ⟨x1.S.toArray⟩) ∧ v.cell? ⟨(a.add (j * 6)).block, (a.add (j * 6)).off + 2, none⟩ = some (.slice al1 x1.L.length c1) ∧ v.cell? ⟨(a.add (j * 6)).block, (a.add (j * 6)).off + 3, none⟩ = some (.int .i64 y1.V) ∧ v.cell? ⟨(a.add (j * 6)).block, (a.add (j * 6)).off + 4, none⟩ = some (.string ⟨y1.S.toArray⟩) ∧ v.cell? ⟨(a.add (j * 6)).block, (a.add (j * 6)).off + 5, none⟩ = some (.slice al2 y1.L.length c2)) := fun v hv => by
      have hbk := hv.block _ hpb
      have hc : ∀ o, v.cell? ⟨(a.add (j * 6)).block, o, none⟩ = w.cell? ⟨(a.add (j * 6)).block, o, none⟩ := fun o => World.cell?_of_block (a := ⟨(a.add (j * 6)).block, o, none⟩) hbk
      have hc0 : v.cell? (a.add (j * 6)) = w.cell? (a.add (j * 6)) := World.cell?_of_block (a := a.add (j * 6)) hbk
      exact ⟨hc0.trans h0, (hc _).trans h1, (hc _).trans h2, (hc _).trans h3, (hc _).trans h4, (hc _).trans h5⟩
     have R1 : Hid (RT (fun g => g < w.heap.size) wr.drew x1.L al1) := hrx.keep (fun g hg _ => D_9.out.block g hg)
     have R2 : Hid (RT (fun g => g < w.heap.size) wr.drew y1.L al2) := hry.keep (fun g hg _ => D_9.out.block g hg)
     clear hpb h0 h1 h2 h3 h4 h5 hrx hry hbx hby hmx hmy hx1 hy1
     have HU := hidden (unify_s (A := fun g => g < w4.heap.size) (fun g hg => by show g < wr.heap.size; omega) U_9.out.drew (x := x1) (y := y1) c1 c2 MM1.out.1 MM1.out.2 (by omega) BB1.out.1 BB1.out.2 (R1.out.mono (fun g hg _ e => by have h8 := HOW2b.out _ e; omega)) (R2.out.mono (fun g hg _ e => by have h8 := HOW2b.out _ e; omega)) (by omega))
     obtain ⟨k00, k01, k02, k03, k04, k05⟩ := CK.out _ D_9.out
     go_upto_region 24 with fail
     refine region_till (S := (fun w' => w'.cell? (a.add (j * 6)) = some (.int .i64 x1.V) ∧ w'.cell? ⟨(a.add (j * 6)).block, (a.add (j * 6)).off + 1, none⟩ = some (.string ⟨x1.S.toArray⟩) ∧ w'.cell? ⟨(a.add (j * 6)).block, (a.add (j * 6)).off + 2, none⟩ = some (.slice al1 x1.L.length c1) ∧ w'.cell? ⟨(a.add (j * 6)).block, (a.add (j * 6)).off + 3, none⟩ = some (.int .i64 y1.V) ∧ w'.cell? ⟨(a.add (j * 6)).block, (a.add (j * 6)).off + 4, none⟩ = some (.string ⟨y1.S.toArray⟩) ∧ w'.cell? ⟨(a.add (j * 6)).block, (a.add (j * 6)).off + 5, none⟩ = some (.slice al2 y1.L.length c2))) (kz := 99) (by kernel_rfl) ⟨k00, k01, k02, k03, k04, k05⟩ (fun hHeld => ?_)
     refine AnyTill.tk (i := 0) (v := ?_) hHeld ?_ ?_
     rotate_left
     ·(intro w hSw; (try dsimp only at hSw); go_simp; (try with_reducible rfl))
     (try simp only [Act.put, q4, q5, q6, q1, q2, q3])
     refine AnyTill.tk (i := 1) (v := ?_) hHeld ?_ ?_
     rotate_left
     ·(intro w hSw; (try dsimp only at hSw); go_simp; (try with_reducible rfl))
     (try simp only [Act.put, q4, q5, q6, q1, q2, q3])
     refine AnyTill.tk (i := 2) (v := ?_) hHeld ?_ ?_
     rotate_left
     ·(intro w hSw; (try dsimp only at hSw); go_simp; (try with_reducible rfl))
     (try simp only [Act.put, q4, q5, q6, q1, q2, q3])
     refine AnyTill.tk (i := 3) (v := ?_) hHeld ?_ ?_
     rotate_left
     ·(intro w hSw; (try dsimp only at hSw); go_simp; (try with_reducible rfl))
     (try simp only [Act.put, q4, q5, q6, q1, q2, q3])
     refine AnyTill.tk (i := 4) (v := ?_) hHeld ?_ ?_
     rotate_left
     ·(intro w hSw; (try dsimp only at hSw); go_simp; (try with_reducible rfl))
     (try simp only [Act.put, q4, q5, q6, q1, q2, q3])
     refine AnyTill.tk (i := 5) (v := ?_) hHeld ?_ ?_
     rotate_left
     ·(intro w hSw; (try dsimp only at hSw); go_simp; (try with_reducible rfl))
     (try simp only [Act.put, q4, q5, q6, q1, q2, q3])
     refine AnyTill.tk (i := 6) (v := ?_) hHeld ?_ ?_
     rotate_left
     ·(intro w hSw; (try dsimp only at hSw); go_simp; (try with_reducible rfl))
     (try simp only [Act.put, q4, q5, q6, q1, q2, q3])
     refine AnyTill.tk (i := 7) (v := ?_) hHeld ?_ ?_
     rotate_left
     ·(intro w hSw; (try dsimp only at hSw); go_simp; (try with_reducible rfl))
     (try simp only [Act.put, q4, q5, q6, q1, q2, q3])
     refine AnyTill.tk (i := 8) (v := ?_) hHeld ?_ ?_
     rotate_left
     ·(intro w hSw; (try dsimp only at hSw); go_simp; (try with_reducible rfl))
     (try simp only [Act.put, q4, q5, q6, q1, q2, q3])
     refine AnyTill.tk (i := 9) (v := ?_) hHeld ?_ ?_
     rotate_left
     ·(intro w hSw; (try dsimp only at hSw); go_simp; (try with_reducible rfl))
     (try simp only [Act.put, q4, q5, q6, q1, q2, q3])
     refine AnyTill.tk (i := 10) (v := ?_) hHeld ?_ ?_
     rotate_left
     ·(intro w hSw; (try dsimp only at hSw); go_simp; (try with_reducible rfl))
     (try simp only [Act.put, q4, q5, q6, q1, q2, q3])
     refine AnyTill.one (i := 11) (by kernel_rfl) rfl (fun K9 hK9 => ?_)
     (try simp only [q1, q2, q3])
     (first | rw [if_pos (by rfl)] | skip)
     go_simp
     refine HU.out.mono ?_
     rintro e v9 ⟨ev2, rfl, g1, h9⟩
     have D_10 : Hid (Below w.heap.size w v9) := ((Only.of_below D_9.out).trans (((Only.refl (Own3 (w4.heap.size + 2) w4.heap.size (w4.heap.size + 1)) wr).drewN 1).trans g1 |>.mono (S' := fun g => w.heap.size ≤ g) (fun g _ e => by have h8 := HOW2b.out _ e; omega))).toBelow (fun g hg => hg)
     have O_10 : Hid (Only (Own3 (w4.heap.size + 2) w4.heap.size (w4.heap.size + 1)) w8 v9) := (O_9.out.drewN 1).trans g1
     have H9 := hidden h9
     obtain ⟨k10, k11, k12, k13, k14, k15⟩ := CK.out _ D_10.out
     refine hK9.out _ _ (fun _ => ⟨k10, k11, k12, k13, k14, k15⟩) ?_
     clear hK9 K9
     (try simp only [Act.put, q4, q5, q6, q1, q2, q3])
     clear k00 k01 k02 k03 k04 k05 g1 h9
     refine AnyTill.take (i := 12) (v := ?_) rfl (by kernel_rfl) (by kernel_rfl) (by kernel_rfl) (by kernel_rfl) (fun _ _ _ h => h) (Or.inl ⟨by rfl, ?_⟩) ⟨k10, k11, k12, k13, k14, k15⟩ ?_
     rotate_left
     ·(intro w hSw; (try dsimp only at hSw); go_simp; (try with_reducible rfl))
     (try simp only [Act.put, q4, q5, q6, q1, q2, q3])
     refine AnyTill.done (by kernel_rfl) ?_ _
     (try simp only [Act.put, q4, q5, q6, q1, q2, q3])
     clear k10 k11 k12 k13 k14 k15
     go_wp2_with fail
     go_roundw
     case rel =>
      have hax : (tyL Xs)[j]? = some x1.ty := by rw [tyL_map, List.getElem?_map, HX1.out]; rfl
      have hby : (tyL Ys)[j]? = some y1.ty := by rw [tyL_map, List.getElem?_map, HY1.out]; rfl
      rcases H9.out with h9 | ⟨c, h9, h8⟩ | ⟨ρ', h9, h8, h7⟩
      ·exact ⟨j + 1, m + 500, ev2, by omega, by go_num, rfl, by omega, O_10.out, Or.inr ⟨by omega, Or.inl h9⟩⟩
      ·exact ⟨j + 1, m + 500, ev2, by omega, by go_num, rfl, by omega, O_10.out, Or.inr ⟨by rw [h8]; split <;> omega, Or.inr ⟨c, un_part_stop HUN.out hax hby h9, h8⟩⟩⟩
      ·refine ⟨j + 1, m + 500, ev2, by omega, by go_num, rfl, by omega, O_10.out, Or.inl ⟨h8, ρ', un_part HUN.out hax hby h9, ?_⟩⟩
       obtain ⟨F, f1, f2, f3⟩ := h7.iff (V' := x.vi ++ y.vi) (fun v => by
        constructor
        ·intro hv
         rcases List.mem_append.1 hv with hv | hv
         ·exact hv
         ·rcases List.mem_append.1 hv with hv | hv
          ·exact List.mem_append_left _ (VX.out j x1 HX1.out v hv)
          ·exact List.mem_append_right _ (VY.out j y1 HY1.out v hv)
        ·exact fun hv => List.mem_append_left _ hv)
       exact ⟨F, by omega, f2, f3⟩
     case measure => simp [intOf]; omega
    ·have HEND : Hid ((ev = 0 ∧ ∃ ρ, Un Ty.v ((tyL Xs).zip (tyL Ys)) (.ok ρ) ∧ TBs (fun g => g < w4.heap.size) wr (w4.heap.size + 2) w4.heap.size (w4.heap.size + 1) m (x.vi ++ y.vi) ρ) ∨ (ev ≠ 0 ∧ (ev = 3 ∨ ∃ c, Un Ty.v ((tyL Xs).zip (tyL Ys)) (.error c) ∧ ev = if c = 1 then 26 else 25))) := by
      rcases hcs with ⟨h9, ρ, h8, h7⟩ | h9
      ·have e : j = k := by omega
       subst e
       rw [List.take_of_length_le (by rw [List.length_zip, tyL_len, tyL_len, XL.out, YL.out]; omega)] at h8
       exact Or.inl ⟨h9, ρ, h8, h7⟩
      ·exact Or.inr h9
     have hmm : m ≤ 8000 := by omega
     have zc1 : ¬ ((j : Int) < (k : Int) ∧ ev = 0) := by omega
     clear zc1
     have HST : Hid (∀ e2, Un Ty.v ((tyL Xs).zip (tyL Ys)) e2 → Un Ty.v [(x.ty, y.ty)] e2) := fun e2 h => by
      rw [TX.out, TY.out]
      exact un_star (by rw [tyL_len, tyL_len, XL.out, YL.out]) h
     clear hcs
     rcases H1.out with h1 | ⟨c9, hu1, h1⟩ | ⟨ρ1, hu1, h1, hT⟩
     ·subst h1
      by_cases hjk : j < k
      ·have zlt : (j : Int) < (k : Int) := by omega
       have zne : ev ≠ 0 := fun e => hgo ⟨hjk, e⟩
       have zev0 : (ev == 0) = false := beq_eq_false_iff_ne.2 zne
       clear hgo HEND H1
       go_wp2_with fail
       go_ret
       exact ⟨rfl, D_9.out⟩
      ·have zlt : ¬ (j : Int) < (k : Int) := by omega
       clear hgo HEND H1
       go_wp2_with fail
       go_ret
       exact ⟨rfl, D_9.out⟩
     ·rcases HEND.out with ⟨_, ρ, hun, _⟩ | ⟨hne, hev | ⟨c8, hun, hev⟩⟩
      ·exfalso
       have h9 := un_one hu1 (HST.out _ hun)
       cases h9
      ·have q1 : (e1 == 3) = false := beq_eq_false_iff_ne.2 (by rw [h1]; split <;> omega)
       clear h1 hu1
       subst hev
       by_cases hjk : j < k
       ·have zlt : (j : Int) < (k : Int) := by omega
        clear hgo HEND H1
        go_wp2_with fail
        go_ret
        exact ⟨rfl, D_9.out⟩
       ·have zlt : ¬ (j : Int) < (k : Int) := by omega
        clear hgo HEND H1
        go_wp2_with fail
        go_ret
        exact ⟨rfl, D_9.out⟩
      ·have h9 := un_one hu1 (HST.out _ hun)
       cases h9
       have he : e1 = ev := by rw [h1, hev]
       have hb : ev = 25 ∨ ev = 26 := by rw [hev]; split <;> omega
       clear h1 hev hu1 hun
       subst he
       clear hne
       rcases hb with rfl | rfl
       ·skip
        by_cases hjk : j < k
        ·have zlt : (j : Int) < (k : Int) := by omega
         clear hgo HEND H1
         go_upto_region 27 with fail
         refine region_till (S := (fun w' => True)) (kz := 99) (by kernel_rfl) trivial (fun hHeld => ?_)
         refine AnyTill.take (i := 0) (v := ?_) rfl (by kernel_rfl) (by kernel_rfl) (by kernel_rfl) (by kernel_rfl) (fun _ _ _ h => h) (Or.inl ⟨by rfl, ?_⟩) trivial ?_
         rotate_left
         ·(intro w hSw; (try dsimp only at hSw); go_simp; (try with_reducible rfl))
         (try simp only [Act.put, q4, q5, q6, q1, q2, q3])
         refine AnyTill.take (i := 1) (v := ?_) rfl (by kernel_rfl) (by kernel_rfl) (by kernel_rfl) (by kernel_rfl) (fun _ _ _ h => h) (Or.inl ⟨by rfl, ?_⟩) trivial ?_
         rotate_left
         ·(intro w hSw; (try dsimp only at hSw); go_simp; (try with_reducible rfl))
         (try simp only [Act.put, q4, q5, q6, q1, q2, q3])
         refine AnyTill.take (i := 2) (v := ?_) rfl (by kernel_rfl) (by kernel_rfl) (by kernel_rfl) (by kernel_rfl) (fun _ _ _ h => h) (Or.inl ⟨by rfl, ?_⟩) trivial ?_
         rotate_left
         ·(intro w hSw; (try dsimp only at hSw); go_simp; (try with_reducible rfl))
         (try simp only [Act.put, q4, q5, q6, q1, q2, q3])
         refine AnyTill.take (i := 3) (v := ?_) rfl (by kernel_rfl) (by kernel_rfl) (by kernel_rfl) (by kernel_rfl) (fun _ _ _ h => h) (Or.inl ⟨by rfl, ?_⟩) trivial ?_
         rotate_left
         ·(intro w hSw; (try dsimp only at hSw); go_simp; (try with_reducible rfl))
         (try simp only [Act.put, q4, q5, q6, q1, q2, q3])
         refine AnyTill.take (i := 4) (v := ?_) rfl (by kernel_rfl) (by kernel_rfl) (by kernel_rfl) (by kernel_rfl) (fun _ _ _ h => h) (Or.inl ⟨by rfl, ?_⟩) trivial ?_
         rotate_left
         ·(intro w hSw; (try dsimp only at hSw); go_simp; (try with_reducible rfl))
         (try simp only [Act.put, q4, q5, q6, q1, q2, q3])
         refine AnyTill.take (i := 5) (v := ?_) rfl (by kernel_rfl) (by kernel_rfl) (by kernel_rfl) (by kernel_rfl) (fun _ _ _ h => h) (Or.inl ⟨by rfl, ?_⟩) trivial ?_
         rotate_left
         ·(intro w hSw; (try dsimp only at hSw); go_simp; (try with_reducible rfl))
         (try simp only [Act.put, q4, q5, q6, q1, q2, q3])
         refine AnyTill.take (i := 6) (v := ?_) rfl (by kernel_rfl) (by kernel_rfl) (by kernel_rfl) (by kernel_rfl) (fun _ _ _ h => h) (Or.inl ⟨by rfl, ?_⟩) trivial ?_
         rotate_left
         ·(intro w hSw; (try dsimp only at hSw); go_simp; (try with_reducible rfl))
         (try simp only [Act.put, q4, q5, q6, q1, q2, q3])
         refine AnyTill.take (i := 7) (v := undef) rfl (by kernel_rfl) (by kernel_rfl) (by kernel_rfl) (by kernel_rfl) (fun _ _ _ h => h) (Or.inr ⟨by rfl, rfl⟩) trivial ?_
         (try simp only [Act.put, q4, q5, q6, q1, q2, q3])
         refine AnyTill.take (i := 8) (v := undef) rfl (by kernel_rfl) (by kernel_rfl) (by kernel_rfl) (by kernel_rfl) (fun _ _ _ h => h) (Or.inr ⟨by rfl, rfl⟩) trivial ?_
         (try simp only [Act.put, q4, q5, q6, q1, q2, q3])
         refine AnyTill.take (i := 9) (v := undef) rfl (by kernel_rfl) (by kernel_rfl) (by kernel_rfl) (by kernel_rfl) (fun _ _ _ h => h) (Or.inr ⟨by rfl, rfl⟩) trivial ?_
         (try simp only [Act.put, q4, q5, q6, q1, q2, q3])
         refine AnyTill.take (i := 10) (v := undef) rfl (by kernel_rfl) (by kernel_rfl) (by kernel_rfl) (by kernel_rfl) (fun _ _ _ h => h) (Or.inr ⟨by rfl, rfl⟩) trivial ?_
         (try simp only [Act.put, q4, q5, q6, q1, q2, q3])
         refine AnyTill.take (i := 11) (v := ?_) rfl (by kernel_rfl) (by kernel_rfl) (by kernel_rfl) (by kernel_rfl) (fun _ _ _ h => h) (Or.inl ⟨by rfl, ?_⟩) trivial ?_
         rotate_left
         ·(intro w hSw; (try dsimp only at hSw); go_simp; (try with_reducible rfl))
         (try simp only [Act.put, q4, q5, q6, q1, q2, q3])
         refine AnyTill.take (i := 12) (v := ?_) rfl (by kernel_rfl) (by kernel_rfl) (by kernel_rfl) (by kernel_rfl) (fun _ _ _ h => h) (Or.inl ⟨by rfl, ?_⟩) trivial ?_
         rotate_left
         ·(intro w hSw; (try dsimp only at hSw); go_simp; (try with_reducible rfl))
         (try simp only [Act.put, q4, q5, q6, q1, q2, q3])
         refine AnyTill.take (i := 13) (v := undef) rfl (by kernel_rfl) (by kernel_rfl) (by kernel_rfl) (by kernel_rfl) (fun _ _ _ h => h) (Or.inr ⟨by rfl, rfl⟩) trivial ?_
         (try simp only [Act.put, q4, q5, q6, q1, q2, q3])
         refine AnyTill.take (i := 14) (v := undef) rfl (by kernel_rfl) (by kernel_rfl) (by kernel_rfl) (by kernel_rfl) (fun _ _ _ h => h) (Or.inr ⟨by rfl, rfl⟩) trivial ?_
         (try simp only [Act.put, q4, q5, q6, q1, q2, q3])
         refine AnyTill.take (i := 15) (v := undef) rfl (by kernel_rfl) (by kernel_rfl) (by kernel_rfl) (by kernel_rfl) (fun _ _ _ h => h) (Or.inr ⟨by rfl, rfl⟩) trivial ?_
         (try simp only [Act.put, q4, q5, q6, q1, q2, q3])
         refine AnyTill.take (i := 16) (v := undef) rfl (by kernel_rfl) (by kernel_rfl) (by kernel_rfl) (by kernel_rfl) (fun _ _ _ h => h) (Or.inr ⟨by rfl, rfl⟩) trivial ?_
         (try simp only [Act.put, q4, q5, q6, q1, q2, q3])
         refine AnyTill.take (i := 17) (v := undef) rfl (by kernel_rfl) (by kernel_rfl) (by kernel_rfl) (by kernel_rfl) (fun _ _ _ h => h) (Or.inr ⟨by rfl, rfl⟩) trivial ?_
         (try simp only [Act.put, q4, q5, q6, q1, q2, q3])
         refine AnyTill.take (i := 18) (v := undef) rfl (by kernel_rfl) (by kernel_rfl) (by kernel_rfl) (by kernel_rfl) (fun _ _ _ h => h) (Or.inr ⟨by rfl, rfl⟩) trivial ?_
         (try simp only [Act.put, q4, q5, q6, q1, q2, q3])
         refine AnyTill.take (i := 19) (v := undef) rfl (by kernel_rfl) (by kernel_rfl) (by kernel_rfl) (by kernel_rfl) (fun _ _ _ h => h) (Or.inr ⟨by rfl, rfl⟩) trivial ?_
         (try simp only [Act.put, q4, q5, q6, q1, q2, q3])
         refine AnyTill.take (i := 20) (v := undef) rfl (by kernel_rfl) (by kernel_rfl) (by kernel_rfl) (by kernel_rfl) (fun _ _ _ h => h) (Or.inr ⟨by rfl, rfl⟩) trivial ?_
         (try simp only [Act.put, q4, q5, q6, q1, q2, q3])
         refine AnyTill.take (i := 21) (v := undef) rfl (by kernel_rfl) (by kernel_rfl) (by kernel_rfl) (by kernel_rfl) (fun _ _ _ h => h) (Or.inr ⟨by rfl, rfl⟩) trivial ?_
         (try simp only [Act.put, q4, q5, q6, q1, q2, q3])
         refine AnyTill.take (i := 22) (v := undef) rfl (by kernel_rfl) (by kernel_rfl) (by kernel_rfl) (by kernel_rfl) (fun _ _ _ h => h) (Or.inr ⟨by rfl, rfl⟩) trivial ?_
         (try simp only [Act.put, q4, q5, q6, q1, q2, q3])
         refine AnyTill.take (i := 23) (v := undef) rfl (by kernel_rfl) (by kernel_rfl) (by kernel_rfl) (by kernel_rfl) (fun _ _ _ h => h) (Or.inr ⟨by rfl, rfl⟩) trivial ?_
         (try simp only [Act.put, q4, q5, q6, q1, q2, q3])
         refine AnyTill.take (i := 24) (v := undef) rfl (by kernel_rfl) (by kernel_rfl) (by kernel_rfl) (by kernel_rfl) (fun _ _ _ h => h) (Or.inr ⟨by rfl, rfl⟩) trivial ?_
         (try simp only [Act.put, q4, q5, q6, q1, q2, q3])
         refine AnyTill.take (i := 25) (v := undef) rfl (by kernel_rfl) (by kernel_rfl) (by kernel_rfl) (by kernel_rfl) (fun _ _ _ h => h) (Or.inr ⟨by rfl, rfl⟩) trivial ?_
         (try simp only [Act.put, q4, q5, q6, q1, q2, q3])
         refine AnyTill.take (i := 26) (v := undef) rfl (by kernel_rfl) (by kernel_rfl) (by kernel_rfl) (by kernel_rfl) (fun _ _ _ h => h) (Or.inr ⟨by rfl, rfl⟩) trivial ?_
         (try simp only [Act.put, q4, q5, q6, q1, q2, q3])
         refine AnyTill.take (i := 27) (v := ?_) rfl (by kernel_rfl) (by kernel_rfl) (by kernel_rfl) (by kernel_rfl) (fun _ _ _ h => h) (Or.inl ⟨by rfl, ?_⟩) trivial ?_
         rotate_left
         ·(intro w hSw; (try dsimp only at hSw); go_simp; (try with_reducible rfl))
         (try simp only [Act.put, q4, q5, q6, q1, q2, q3])
         refine AnyTill.take (i := 28) (v := ?_) rfl (by kernel_rfl) (by kernel_rfl) (by kernel_rfl) (by kernel_rfl) (fun _ _ _ h => h) (Or.inl ⟨by rfl, ?_⟩) trivial ?_
         rotate_left
         ·(intro w hSw; (try dsimp only at hSw); go_simp; (try with_reducible rfl))
         (try simp only [Act.put, q4, q5, q6, q1, q2, q3])
         refine AnyTill.take (i := 29) (v := ?_) rfl (by kernel_rfl) (by kernel_rfl) (by kernel_rfl) (by kernel_rfl) (fun _ _ _ h => h) (Or.inl ⟨by rfl, ?_⟩) trivial ?_
         rotate_left
         ·(intro w hSw; (try dsimp only at hSw); go_simp; (try with_reducible rfl))
         (try simp only [Act.put, q4, q5, q6, q1, q2, q3])
         refine AnyTill.done (by kernel_rfl) ?_ _
         (try simp only [Act.put, q4, q5, q6, q1, q2, q3])
         go_wp2_with fail
         go_ret
         exact ⟨rfl, D_9.out.trans ((drew_below10 wr).mono D_9.out.size)⟩
        ·have zlt : ¬ (j : Int) < (k : Int) := by omega
         clear hgo HEND H1
         go_upto_region 27 with fail
         refine region_till (S := (fun w' => True)) (kz := 99) (by kernel_rfl) trivial (fun hHeld => ?_)
         refine AnyTill.take (i := 0) (v := ?_) rfl (by kernel_rfl) (by kernel_rfl) (by kernel_rfl) (by kernel_rfl) (fun _ _ _ h => h) (Or.inl ⟨by rfl, ?_⟩) trivial ?_
         rotate_left
         ·(intro w hSw; (try dsimp only at hSw); go_simp; (try with_reducible rfl))
         (try simp only [Act.put, q4, q5, q6, q1, q2, q3])
         refine AnyTill.take (i := 1) (v := ?_) rfl (by kernel_rfl) (by kernel_rfl) (by kernel_rfl) (by kernel_rfl) (fun _ _ _ h => h) (Or.inl ⟨by rfl, ?_⟩) trivial ?_
         rotate_left
         ·(intro w hSw; (try dsimp only at hSw); go_simp; (try with_reducible rfl))
         (try simp only [Act.put, q4, q5, q6, q1, q2, q3])
         refine AnyTill.take (i := 2) (v := ?_) rfl (by kernel_rfl) (by kernel_rfl) (by kernel_rfl) (by kernel_rfl) (fun _ _ _ h => h) (Or.inl ⟨by rfl, ?_⟩) trivial ?_
         rotate_left
         ·(intro w hSw; (try dsimp only at hSw); go_simp; (try with_reducible rfl))
         (try simp only [Act.put, q4, q5, q6, q1, q2, q3])
         refine AnyTill.take (i := 3) (v := ?_) rfl (by kernel_rfl) (by kernel_rfl) (by kernel_rfl) (by kernel_rfl) (fun _ _ _ h => h) (Or.inl ⟨by rfl, ?_⟩) trivial ?_
         rotate_left
         ·(intro w hSw; (try dsimp only at hSw); go_simp; (try with_reducible rfl))
         (try simp only [Act.put, q4, q5, q6, q1, q2, q3])
         refine AnyTill.take (i := 4) (v := ?_) rfl (by kernel_rfl) (by kernel_rfl) (by kernel_rfl) (by kernel_rfl) (fun _ _ _ h => h) (Or.inl ⟨by rfl, ?_⟩) trivial ?_
         rotate_left
         ·(intro w hSw; (try dsimp only at hSw); go_simp; (try with_reducible rfl))
         (try simp only [Act.put, q4, q5, q6, q1, q2, q3])
         refine AnyTill.take (i := 5) (v := ?_) rfl (by kernel_rfl) (by kernel_rfl) (by kernel_rfl) (by kernel_rfl) (fun _ _ _ h => h) (Or.inl ⟨by rfl, ?_⟩) trivial ?_
         rotate_left
         ·(intro w hSw; (try dsimp only at hSw); go_simp; (try with_reducible rfl))
         (try simp only [Act.put, q4, q5, q6, q1, q2, q3])
         refine AnyTill.take (i := 6) (v := ?_) rfl (by kernel_rfl) (by kernel_rfl) (by kernel_rfl) (by kernel_rfl) (fun _ _ _ h => h) (Or.inl ⟨by rfl, ?_⟩) trivial ?_
         rotate_left
         ·(intro w hSw; (try dsimp only at hSw); go_simp; (try with_reducible rfl))
         (try simp only [Act.put, q4, q5, q6, q1, q2, q3])
         refine AnyTill.take (i := 7) (v := undef) rfl (by kernel_rfl) (by kernel_rfl) (by kernel_rfl) (by kernel_rfl) (fun _ _ _ h => h) (Or.inr ⟨by rfl, rfl⟩) trivial ?_
         (try simp only [Act.put, q4, q5, q6, q1, q2, q3])
         refine AnyTill.take (i := 8) (v := undef) rfl (by kernel_rfl) (by kernel_rfl) (by kernel_rfl) (by kernel_rfl) (fun _ _ _ h => h) (Or.inr ⟨by rfl, rfl⟩) trivial ?_
         (try simp only [Act.put, q4, q5, q6, q1, q2, q3])
         refine AnyTill.take (i := 9) (v := undef) rfl (by kernel_rfl) (by kernel_rfl) (by kernel_rfl) (by kernel_rfl) (fun _ _ _ h => h) (Or.inr ⟨by rfl, rfl⟩) trivial ?_
         (try simp only [Act.put, q4, q5, q6, q1, q2, q3])
         refine AnyTill.take (i := 10) (v := undef) rfl (by kernel_rfl) (by kernel_rfl) (by kernel_rfl) (by kernel_rfl) (fun _ _ _ h => h) (Or.inr ⟨by rfl, rfl⟩) trivial ?_
         (try simp only [Act.put, q4, q5, q6, q1, q2, q3])
         refine AnyTill.take (i := 11) (v := ?_) rfl (by kernel_rfl) (by kernel_rfl) (by kernel_rfl) (by kernel_rfl) (fun _ _ _ h => h) (Or.inl ⟨by rfl, ?_⟩) trivial ?_
         rotate_left
         ·(intro w hSw; (try dsimp only at hSw); go_simp; (try with_reducible rfl))
         (try simp only [Act.put, q4, q5, q6, q1, q2, q3])
         refine AnyTill.take (i := 12) (v := ?_) rfl (by kernel_rfl) (by kernel_rfl) (by kernel_rfl) (by kernel_rfl) (fun _ _ _ h => h) (Or.inl ⟨by rfl, ?_⟩) trivial ?_
         rotate_left
         ·(intro w hSw; (try dsimp only at hSw); go_simp; (try with_reducible rfl))
         (try simp only [Act.put, q4, q5, q6, q1, q2, q3])
         refine AnyTill.take (i := 13) (v := undef) rfl (by kernel_rfl) (by kernel_rfl) (by kernel_rfl) (by kernel_rfl) (fun _ _ _ h => h) (Or.inr ⟨by rfl, rfl⟩) trivial ?_
         (try simp only [Act.put, q4, q5, q6, q1, q2, q3])
         refine AnyTill.take (i := 14) (v := undef) rfl (by kernel_rfl) (by kernel_rfl) (by kernel_rfl) (by kernel_rfl) (fun _ _ _ h => h) (Or.inr ⟨by rfl, rfl⟩) trivial ?_
         (try simp only [Act.put, q4, q5, q6, q1, q2, q3])
         refine AnyTill.take (i := 15) (v := undef) rfl (by kernel_rfl) (by kernel_rfl) (by kernel_rfl) (by kernel_rfl) (fun _ _ _ h => h) (Or.inr ⟨by rfl, rfl⟩) trivial ?_
         (try simp only [Act.put, q4, q5, q6, q1, q2, q3])
         refine AnyTill.take (i := 16) (v := undef) rfl (by kernel_rfl) (by kernel_rfl) (by kernel_rfl) (by kernel_rfl) (fun _ _ _ h => h) (Or.inr ⟨by rfl, rfl⟩) trivial ?_
         (try simp only [Act.put, q4, q5, q6, q1, q2, q3])
         refine AnyTill.take (i := 17) (v := undef) rfl (by kernel_rfl) (by kernel_rfl) (by kernel_rfl) (by kernel_rfl) (fun _ _ _ h => h) (Or.inr ⟨by rfl, rfl⟩) trivial ?_
         (try simp only [Act.put, q4, q5, q6, q1, q2, q3])
         refine AnyTill.take (i := 18) (v := undef) rfl (by kernel_rfl) (by kernel_rfl) (by kernel_rfl) (by kernel_rfl) (fun _ _ _ h => h) (Or.inr ⟨by rfl, rfl⟩) trivial ?_
         (try simp only [Act.put, q4, q5, q6, q1, q2, q3])
         refine AnyTill.take (i := 19) (v := undef) rfl (by kernel_rfl) (by kernel_rfl) (by kernel_rfl) (by kernel_rfl) (fun _ _ _ h => h) (Or.inr ⟨by rfl, rfl⟩) trivial ?_
         (try simp only [Act.put, q4, q5, q6, q1, q2, q3])
         refine AnyTill.take (i := 20) (v := undef) rfl (by kernel_rfl) (by kernel_rfl) (by kernel_rfl) (by kernel_rfl) (fun _ _ _ h => h) (Or.inr ⟨by rfl, rfl⟩) trivial ?_
         (try simp only [Act.put, q4, q5, q6, q1, q2, q3])
         refine AnyTill.take (i := 21) (v := undef) rfl (by kernel_rfl) (by kernel_rfl) (by kernel_rfl) (by kernel_rfl) (fun _ _ _ h => h) (Or.inr ⟨by rfl, rfl⟩) trivial ?_
         (try simp only [Act.put, q4, q5, q6, q1, q2, q3])
         refine AnyTill.take (i := 22) (v := undef) rfl (by kernel_rfl) (by kernel_rfl) (by kernel_rfl) (by kernel_rfl) (fun _ _ _ h => h) (Or.inr ⟨by rfl, rfl⟩) trivial ?_
         (try simp only [Act.put, q4, q5, q6, q1, q2, q3])
         refine AnyTill.take (i := 23) (v := undef) rfl (by kernel_rfl) (by kernel_rfl) (by kernel_rfl) (by kernel_rfl) (fun _ _ _ h => h) (Or.inr ⟨by rfl, rfl⟩) trivial ?_
         (try simp only [Act.put, q4, q5, q6, q1, q2, q3])
         refine AnyTill.take (i := 24) (v := undef) rfl (by kernel_rfl) (by kernel_rfl) (by kernel_rfl) (by kernel_rfl) (fun _ _ _ h => h) (Or.inr ⟨by rfl, rfl⟩) trivial ?_
         (try simp only [Act.put, q4, q5, q6, q1, q2, q3])
         refine AnyTill.take (i := 25) (v := undef) rfl (by kernel_rfl) (by kernel_rfl) (by kernel_rfl) (by kernel_rfl) (fun _ _ _ h => h) (Or.inr ⟨by rfl, rfl⟩) trivial ?_
         (try simp only [Act.put, q4, q5, q6, q1, q2, q3])
         refine AnyTill.take (i := 26) (v := undef) rfl (by kernel_rfl) (by kernel_rfl) (by kernel_rfl) (by kernel_rfl) (fun _ _ _ h => h) (Or.inr ⟨by rfl, rfl⟩) trivial ?_
         (try simp only [Act.put, q4, q5, q6, q1, q2, q3])
         refine AnyTill.take (i := 27) (v := ?_) rfl (by kernel_rfl) (by kernel_rfl) (by kernel_rfl) (by kernel_rfl) (fun _ _ _ h => h) (Or.inl ⟨by rfl, ?_⟩) trivial ?_
         rotate_left
         ·(intro w hSw; (try dsimp only at hSw); go_simp; (try with_reducible rfl))
         (try simp only [Act.put, q4, q5, q6, q1, q2, q3])
         refine AnyTill.take (i := 28) (v := ?_) rfl (by kernel_rfl) (by kernel_rfl) (by kernel_rfl) (by kernel_rfl) (fun _ _ _ h => h) (Or.inl ⟨by rfl, ?_⟩) trivial ?_
         rotate_left
         ·(intro w hSw; (try dsimp only at hSw); go_simp; (try with_reducible rfl))
         (try simp only [Act.put, q4, q5, q6, q1, q2, q3])
         refine AnyTill.take (i := 29) (v := ?_) rfl (by kernel_rfl) (by kernel_rfl) (by kernel_rfl) (by kernel_rfl) (fun _ _ _ h => h) (Or.inl ⟨by rfl, ?_⟩) trivial ?_
         rotate_left
         ·(intro w hSw; (try dsimp only at hSw); go_simp; (try with_reducible rfl))
         (try simp only [Act.put, q4, q5, q6, q1, q2, q3])
         refine AnyTill.done (by kernel_rfl) ?_ _
         (try simp only [Act.put, q4, q5, q6, q1, q2, q3])
         go_wp2_with fail
         go_ret
         exact ⟨rfl, D_9.out.trans ((drew_below10 wr).mono D_9.out.size)⟩
       ·skip
        by_cases hjk : j < k
        ·have zlt : (j : Int) < (k : Int) := by omega
         clear hgo HEND H1
         go_upto_region 27 with fail
         refine region_till (S := (fun w' => True)) (kz := 99) (by kernel_rfl) trivial (fun hHeld => ?_)
         refine AnyTill.take (i := 0) (v := ?_) rfl (by kernel_rfl) (by kernel_rfl) (by kernel_rfl) (by kernel_rfl) (fun _ _ _ h => h) (Or.inl ⟨by rfl, ?_⟩) trivial ?_
         rotate_left
         ·(intro w hSw; (try dsimp only at hSw); go_simp; (try with_reducible rfl))
         (try simp only [Act.put, q4, q5, q6, q1, q2, q3])
         refine AnyTill.take (i := 1) (v := ?_) rfl (by kernel_rfl) (by kernel_rfl) (by kernel_rfl) (by kernel_rfl) (fun _ _ _ h => h) (Or.inl ⟨by rfl, ?_⟩) trivial ?_
         rotate_left
         ·(intro w hSw; (try dsimp only at hSw); go_simp; (try with_reducible rfl))
         (try simp only [Act.put, q4, q5, q6, q1, q2, q3])
         refine AnyTill.take (i := 2) (v := ?_) rfl (by kernel_rfl) (by kernel_rfl) (by kernel_rfl) (by kernel_rfl) (fun _ _ _ h => h) (Or.inl ⟨by rfl, ?_⟩) trivial ?_
         rotate_left
         ·(intro w hSw; (try dsimp only at hSw); go_simp; (try with_reducible rfl))
         (try simp only [Act.put, q4, q5, q6, q1, q2, q3])
         refine AnyTill.take (i := 3) (v := ?_) rfl (by kernel_rfl) (by kernel_rfl) (by kernel_rfl) (by kernel_rfl) (fun _ _ _ h => h) (Or.inl ⟨by rfl, ?_⟩) trivial ?_
         rotate_left
         ·(intro w hSw; (try dsimp only at hSw); go_simp; (try with_reducible rfl))
         (try simp only [Act.put, q4, q5, q6, q1, q2, q3])
         refine AnyTill.take (i := 4) (v := ?_) rfl (by kernel_rfl) (by kernel_rfl) (by kernel_rfl) (by kernel_rfl) (fun _ _ _ h => h) (Or.inl ⟨by rfl, ?_⟩) trivial ?_
         rotate_left
         ·(intro w hSw; (try dsimp only at hSw); go_simp; (try with_reducible rfl))
         (try simp only [Act.put, q4, q5, q6, q1, q2, q3])
         refine AnyTill.take (i := 5) (v := ?_) rfl (by kernel_rfl) (by kernel_rfl) (by kernel_rfl) (by kernel_rfl) (fun _ _ _ h => h) (Or.inl ⟨by rfl, ?_⟩) trivial ?_
         rotate_left
         ·(intro w hSw; (try dsimp only at hSw); go_simp; (try with_reducible rfl))
         (try simp only [Act.put, q4, q5, q6, q1, q2, q3])
         refine AnyTill.take (i := 6) (v := ?_) rfl (by kernel_rfl) (by kernel_rfl) (by kernel_rfl) (by kernel_rfl) (fun _ _ _ h => h) (Or.inl ⟨by rfl, ?_⟩) trivial ?_
         rotate_left
         ·(intro w hSw; (try dsimp only at hSw); go_simp; (try with_reducible rfl))
         (try simp only [Act.put, q4, q5, q6, q1, q2, q3])
         refine AnyTill.take (i := 7) (v := undef) rfl (by kernel_rfl) (by kernel_rfl) (by kernel_rfl) (by kernel_rfl) (fun _ _ _ h => h) (Or.inr ⟨by rfl, rfl⟩) trivial ?_
         (try simp only [Act.put, q4, q5, q6, q1, q2, q3])
         refine AnyTill.take (i := 8) (v := undef) rfl (by kernel_rfl) (by kernel_rfl) (by kernel_rfl) (by kernel_rfl) (fun _ _ _ h => h) (Or.inr ⟨by rfl, rfl⟩) trivial ?_
         (try simp only [Act.put, q4, q5, q6, q1, q2, q3])
         refine AnyTill.take (i := 9) (v := undef) rfl (by kernel_rfl) (by kernel_rfl) (by kernel_rfl) (by kernel_rfl) (fun _ _ _ h => h) (Or.inr ⟨by rfl, rfl⟩) trivial ?_
         (try simp only [Act.put, q4, q5, q6, q1, q2, q3])
         refine AnyTill.take (i := 10) (v := undef) rfl (by kernel_rfl) (by kernel_rfl) (by kernel_rfl) (by kernel_rfl) (fun _ _ _ h => h) (Or.inr ⟨by rfl, rfl⟩) trivial ?_
         (try simp only [Act.put, q4, q5, q6, q1, q2, q3])
         refine AnyTill.take (i := 11) (v := ?_) rfl (by kernel_rfl) (by kernel_rfl) (by kernel_rfl) (by kernel_rfl) (fun _ _ _ h => h) (Or.inl ⟨by rfl, ?_⟩) trivial ?_
         rotate_left
         ·(intro w hSw; (try dsimp only at hSw); go_simp; (try with_reducible rfl))
         (try simp only [Act.put, q4, q5, q6, q1, q2, q3])
         refine AnyTill.take (i := 12) (v := ?_) rfl (by kernel_rfl) (by kernel_rfl) (by kernel_rfl) (by kernel_rfl) (fun _ _ _ h => h) (Or.inl ⟨by rfl, ?_⟩) trivial ?_
         rotate_left
         ·(intro w hSw; (try dsimp only at hSw); go_simp; (try with_reducible rfl))
         (try simp only [Act.put, q4, q5, q6, q1, q2, q3])
         refine AnyTill.take (i := 13) (v := undef) rfl (by kernel_rfl) (by kernel_rfl) (by kernel_rfl) (by kernel_rfl) (fun _ _ _ h => h) (Or.inr ⟨by rfl, rfl⟩) trivial ?_
         (try simp only [Act.put, q4, q5, q6, q1, q2, q3])
         refine AnyTill.take (i := 14) (v := undef) rfl (by kernel_rfl) (by kernel_rfl) (by kernel_rfl) (by kernel_rfl) (fun _ _ _ h => h) (Or.inr ⟨by rfl, rfl⟩) trivial ?_
         (try simp only [Act.put, q4, q5, q6, q1, q2, q3])
         refine AnyTill.take (i := 15) (v := undef) rfl (by kernel_rfl) (by kernel_rfl) (by kernel_rfl) (by kernel_rfl) (fun _ _ _ h => h) (Or.inr ⟨by rfl, rfl⟩) trivial ?_
         (try simp only [Act.put, q4, q5, q6, q1, q2, q3])
         refine AnyTill.take (i := 16) (v := undef) rfl (by kernel_rfl) (by kernel_rfl) (by kernel_rfl) (by kernel_rfl) (fun _ _ _ h => h) (Or.inr ⟨by rfl, rfl⟩) trivial ?_
         (try simp only [Act.put, q4, q5, q6, q1, q2, q3])
         refine AnyTill.take (i := 17) (v := undef) rfl (by kernel_rfl) (by kernel_rfl) (by kernel_rfl) (by kernel_rfl) (fun _ _ _ h => h) (Or.inr ⟨by rfl, rfl⟩) trivial ?_
         (try simp only [Act.put, q4, q5, q6, q1, q2, q3])
         refine AnyTill.take (i := 18) (v := undef) rfl (by kernel_rfl) (by kernel_rfl) (by kernel_rfl) (by kernel_rfl) (fun _ _ _ h => h) (Or.inr ⟨by rfl, rfl⟩) trivial ?_
         (try simp only [Act.put, q4, q5, q6, q1, q2, q3])
         refine AnyTill.take (i := 19) (v := undef) rfl (by kernel_rfl) (by kernel_rfl) (by kernel_rfl) (by kernel_rfl) (fun _ _ _ h => h) (Or.inr ⟨by rfl, rfl⟩) trivial ?_
         (try simp only [Act.put, q4, q5, q6, q1, q2, q3])
         refine AnyTill.take (i := 20) (v := undef) rfl (by kernel_rfl) (by kernel_rfl) (by kernel_rfl) (by kernel_rfl) (fun _ _ _ h => h) (Or.inr ⟨by rfl, rfl⟩) trivial ?_
         (try simp only [Act.put, q4, q5, q6, q1, q2, q3])
         refine AnyTill.take (i := 21) (v := undef) rfl (by kernel_rfl) (by kernel_rfl) (by kernel_rfl) (by kernel_rfl) (fun _ _ _ h => h) (Or.inr ⟨by rfl, rfl⟩) trivial ?_
         (try simp only [Act.put, q4, q5, q6, q1, q2, q3])
         refine AnyTill.take (i := 22) (v := undef) rfl (by kernel_rfl) (by kernel_rfl) (by kernel_rfl) (by kernel_rfl) (fun _ _ _ h => h) (Or.inr ⟨by rfl, rfl⟩) trivial ?_
         (try simp only [Act.put, q4, q5, q6, q1, q2, q3])
         refine AnyTill.take (i := 23) (v := undef) rfl (by kernel_rfl) (by kernel_rfl) (by kernel_rfl) (by kernel_rfl) (fun _ _ _ h => h) (Or.inr ⟨by rfl, rfl⟩) trivial ?_
         (try simp only [Act.put, q4, q5, q6, q1, q2, q3])
         refine AnyTill.take (i := 24) (v := undef) rfl (by kernel_rfl) (by kernel_rfl) (by kernel_rfl) (by kernel_rfl) (fun _ _ _ h => h) (Or.inr ⟨by rfl, rfl⟩) trivial ?_
         (try simp only [Act.put, q4, q5, q6, q1, q2, q3])
         refine AnyTill.take (i := 25) (v := undef) rfl (by kernel_rfl) (by kernel_rfl) (by kernel_rfl) (by kernel_rfl) (fun _ _ _ h => h) (Or.inr ⟨by rfl, rfl⟩) trivial ?_
         (try simp only [Act.put, q4, q5, q6, q1, q2, q3])
         refine AnyTill.take (i := 26) (v := undef) rfl (by kernel_rfl) (by kernel_rfl) (by kernel_rfl) (by kernel_rfl) (fun _ _ _ h => h) (Or.inr ⟨by rfl, rfl⟩) trivial ?_
         (try simp only [Act.put, q4, q5, q6, q1, q2, q3])
         refine AnyTill.take (i := 27) (v := ?_) rfl (by kernel_rfl) (by kernel_rfl) (by kernel_rfl) (by kernel_rfl) (fun _ _ _ h => h) (Or.inl ⟨by rfl, ?_⟩) trivial ?_
         rotate_left
         ·(intro w hSw; (try dsimp only at hSw); go_simp; (try with_reducible rfl))
         (try simp only [Act.put, q4, q5, q6, q1, q2, q3])
         refine AnyTill.take (i := 28) (v := ?_) rfl (by kernel_rfl) (by kernel_rfl) (by kernel_rfl) (by kernel_rfl) (fun _ _ _ h => h) (Or.inl ⟨by rfl, ?_⟩) trivial ?_
         rotate_left
         ·(intro w hSw; (try dsimp only at hSw); go_simp; (try with_reducible rfl))
         (try simp only [Act.put, q4, q5, q6, q1, q2, q3])
         refine AnyTill.take (i := 29) (v := ?_) rfl (by kernel_rfl) (by kernel_rfl) (by kernel_rfl) (by kernel_rfl) (fun _ _ _ h => h) (Or.inl ⟨by rfl, ?_⟩) trivial ?_
         rotate_left
         ·(intro w hSw; (try dsimp only at hSw); go_simp; (try with_reducible rfl))
         (try simp only [Act.put, q4, q5, q6, q1, q2, q3])
         refine AnyTill.done (by kernel_rfl) ?_ _
         (try simp only [Act.put, q4, q5, q6, q1, q2, q3])
         go_wp2_with fail
         go_ret
         exact ⟨rfl, D_9.out.trans ((drew_below10 wr).mono D_9.out.size)⟩
        ·have zlt : ¬ (j : Int) < (k : Int) := by omega
         clear hgo HEND H1
         go_upto_region 27 with fail
         refine region_till (S := (fun w' => True)) (kz := 99) (by kernel_rfl) trivial (fun hHeld => ?_)
         refine AnyTill.take (i := 0) (v := ?_) rfl (by kernel_rfl) (by kernel_rfl) (by kernel_rfl) (by kernel_rfl) (fun _ _ _ h => h) (Or.inl ⟨by rfl, ?_⟩) trivial ?_
         rotate_left
         ·(intro w hSw; (try dsimp only at hSw); go_simp; (try with_reducible rfl))
         (try simp only [Act.put, q4, q5, q6, q1, q2, q3])
         refine AnyTill.take (i := 1) (v := ?_) rfl (by kernel_rfl) (by kernel_rfl) (by kernel_rfl) (by kernel_rfl) (fun _ _ _ h => h) (Or.inl ⟨by rfl, ?_⟩) trivial ?_
         rotate_left
         ·(intro w hSw; (try dsimp only at hSw); go_simp; (try with_reducible rfl))
         (try simp only [Act.put, q4, q5, q6, q1, q2, q3])
         refine AnyTill.take (i := 2) (v := ?_) rfl (by kernel_rfl) (by kernel_rfl) (by kernel_rfl) (by kernel_rfl) (fun _ _ _ h => h) (Or.inl ⟨by rfl, ?_⟩) trivial ?_
         rotate_left
         ·(intro w hSw; (try dsimp only at hSw); go_simp; (try with_reducible rfl))
         (try simp only [Act.put, q4, q5, q6, q1, q2, q3])
         refine AnyTill.take (i := 3) (v := ?_) rfl (by kernel_rfl) (by kernel_rfl) (by kernel_rfl) (by kernel_rfl) (fun _ _ _ h => h) (Or.inl ⟨by rfl, ?_⟩) trivial ?_
         rotate_left
         ·(intro w hSw; (try dsimp only at hSw); go_simp; (try with_reducible rfl))
         (try simp only [Act.put, q4, q5, q6, q1, q2, q3])
         refine AnyTill.take (i := 4) (v := ?_) rfl (by kernel_rfl) (by kernel_rfl) (by kernel_rfl) (by kernel_rfl) (fun _ _ _ h => h) (Or.inl ⟨by rfl, ?_⟩) trivial ?_
         rotate_left
         ·(intro w hSw; (try dsimp only at hSw); go_simp; (try with_reducible rfl))
         (try simp only [Act.put, q4, q5, q6, q1, q2, q3])
         refine AnyTill.take (i := 5) (v := ?_) rfl (by kernel_rfl) (by kernel_rfl) (by kernel_rfl) (by kernel_rfl) (fun _ _ _ h => h) (Or.inl ⟨by rfl, ?_⟩) trivial ?_
         rotate_left
         ·(intro w hSw; (try dsimp only at hSw); go_simp; (try with_reducible rfl))
         (try simp only [Act.put, q4, q5, q6, q1, q2, q3])
         refine AnyTill.take (i := 6) (v := ?_) rfl (by kernel_rfl) (by kernel_rfl) (by kernel_rfl) (by kernel_rfl) (fun _ _ _ h => h) (Or.inl ⟨by rfl, ?_⟩) trivial ?_
         rotate_left
         ·(intro w hSw; (try dsimp only at hSw); go_simp; (try with_reducible rfl))
         (try simp only [Act.put, q4, q5, q6, q1, q2, q3])
         refine AnyTill.take (i := 7) (v := undef) rfl (by kernel_rfl) (by kernel_rfl) (by kernel_rfl) (by kernel_rfl) (fun _ _ _ h => h) (Or.inr ⟨by rfl, rfl⟩) trivial ?_
         (try simp only [Act.put, q4, q5, q6, q1, q2, q3])
         refine AnyTill.take (i := 8) (v := undef) rfl (by kernel_rfl) (by kernel_rfl) (by kernel_rfl) (by kernel_rfl) (fun _ _ _ h => h) (Or.inr ⟨by rfl, rfl⟩) trivial ?_
         (try simp only [Act.put, q4, q5, q6, q1, q2, q3])
         refine AnyTill.take (i := 9) (v := undef) rfl (by kernel_rfl) (by kernel_rfl) (by kernel_rfl) (by kernel_rfl) (fun _ _ _ h => h) (Or.inr ⟨by rfl, rfl⟩) trivial ?_
         (try simp only [Act.put, q4, q5, q6, q1, q2, q3])
         refine AnyTill.take (i := 10) (v := undef) rfl (by kernel_rfl) (by kernel_rfl) (by kernel_rfl) (by kernel_rfl) (fun _ _ _ h => h) (Or.inr ⟨by rfl, rfl⟩) trivial ?_
         (try simp only [Act.put, q4, q5, q6, q1, q2, q3])
         refine AnyTill.take (i := 11) (v := ?_) rfl (by kernel_rfl) (by kernel_rfl) (by kernel_rfl) (by kernel_rfl) (fun _ _ _ h => h) (Or.inl ⟨by rfl, ?_⟩) trivial ?_
         rotate_left
         ·(intro w hSw; (try dsimp only at hSw); go_simp; (try with_reducible rfl))
         (try simp only [Act.put, q4, q5, q6, q1, q2, q3])
         refine AnyTill.take (i := 12) (v := ?_) rfl (by kernel_rfl) (by kernel_rfl) (by kernel_rfl) (by kernel_rfl) (fun _ _ _ h => h) (Or.inl ⟨by rfl, ?_⟩) trivial ?_
         rotate_left
         ·(intro w hSw; (try dsimp only at hSw); go_simp; (try with_reducible rfl))
         (try simp only [Act.put, q4, q5, q6, q1, q2, q3])
         refine AnyTill.take (i := 13) (v := undef) rfl (by kernel_rfl) (by kernel_rfl) (by kernel_rfl) (by kernel_rfl) (fun _ _ _ h => h) (Or.inr ⟨by rfl, rfl⟩) trivial ?_
         (try simp only [Act.put, q4, q5, q6, q1, q2, q3])
         refine AnyTill.take (i := 14) (v := undef) rfl (by kernel_rfl) (by kernel_rfl) (by kernel_rfl) (by kernel_rfl) (fun _ _ _ h => h) (Or.inr ⟨by rfl, rfl⟩) trivial ?_
         (try simp only [Act.put, q4, q5, q6, q1, q2, q3])
         refine AnyTill.take (i := 15) (v := undef) rfl (by kernel_rfl) (by kernel_rfl) (by kernel_rfl) (by kernel_rfl) (fun _ _ _ h => h) (Or.inr ⟨by rfl, rfl⟩) trivial ?_
         (try simp only [Act.put, q4, q5, q6, q1, q2, q3])
         refine AnyTill.take (i := 16) (v := undef) rfl (by kernel_rfl) (by kernel_rfl) (by kernel_rfl) (by kernel_rfl) (fun _ _ _ h => h) (Or.inr ⟨by rfl, rfl⟩) trivial ?_
         (try simp only [Act.put, q4, q5, q6, q1, q2, q3])
         refine AnyTill.take (i := 17) (v := undef) rfl (by kernel_rfl) (by kernel_rfl) (by kernel_rfl) (by kernel_rfl) (fun _ _ _ h => h) (Or.inr ⟨by rfl, rfl⟩) trivial ?_
         (try simp only [Act.put, q4, q5, q6, q1, q2, q3])
         refine AnyTill.take (i := 18) (v := undef) rfl (by kernel_rfl) (by kernel_rfl) (by kernel_rfl) (by kernel_rfl) (fun _ _ _ h => h) (Or.inr ⟨by rfl, rfl⟩) trivial ?_
         (try simp only [Act.put, q4, q5, q6, q1, q2, q3])
         refine AnyTill.take (i := 19) (v := undef) rfl (by kernel_rfl) (by kernel_rfl) (by kernel_rfl) (by kernel_rfl) (fun _ _ _ h => h) (Or.inr ⟨by rfl, rfl⟩) trivial ?_
         (try simp only [Act.put, q4, q5, q6, q1, q2, q3])
         refine AnyTill.take (i := 20) (v := undef) rfl (by kernel_rfl) (by kernel_rfl) (by kernel_rfl) (by kernel_rfl) (fun _ _ _ h => h) (Or.inr ⟨by rfl, rfl⟩) trivial ?_
         (try simp only [Act.put, q4, q5, q6, q1, q2, q3])
         refine AnyTill.take (i := 21) (v := undef) rfl (by kernel_rfl) (by kernel_rfl) (by kernel_rfl) (by kernel_rfl) (fun _ _ _ h => h) (Or.inr ⟨by rfl, rfl⟩) trivial ?_
         (try simp only [Act.put, q4, q5, q6, q1, q2, q3])
         refine AnyTill.take (i := 22) (v := undef) rfl (by kernel_rfl) (by kernel_rfl) (by kernel_rfl) (by kernel_rfl) (fun _ _ _ h => h) (Or.inr ⟨by rfl, rfl⟩) trivial ?_
         (try simp only [Act.put, q4, q5, q6, q1, q2, q3])
         refine AnyTill.take (i := 23) (v := undef) rfl (by kernel_rfl) (by kernel_rfl) (by kernel_rfl) (by kernel_rfl) (fun _ _ _ h => h) (Or.inr ⟨by rfl, rfl⟩) trivial ?_
         (try simp only [Act.put, q4, q5, q6, q1, q2, q3])
         refine AnyTill.take (i := 24) (v := undef) rfl (by kernel_rfl) (by kernel_rfl) (by kernel_rfl) (by kernel_rfl) (fun _ _ _ h => h) (Or.inr ⟨by rfl, rfl⟩) trivial ?_
         (try simp only [Act.put, q4, q5, q6, q1, q2, q3])
         refine AnyTill.take (i := 25) (v := undef) rfl (by kernel_rfl) (by kernel_rfl) (by kernel_rfl) (by kernel_rfl) (fun _ _ _ h => h) (Or.inr ⟨by rfl, rfl⟩) trivial ?_
         (try simp only [Act.put, q4, q5, q6, q1, q2, q3])
         refine AnyTill.take (i := 26) (v := undef) rfl (by kernel_rfl) (by kernel_rfl) (by kernel_rfl) (by kernel_rfl) (fun _ _ _ h => h) (Or.inr ⟨by rfl, rfl⟩) trivial ?_
         (try simp only [Act.put, q4, q5, q6, q1, q2, q3])
         refine AnyTill.take (i := 27) (v := ?_) rfl (by kernel_rfl) (by kernel_rfl) (by kernel_rfl) (by kernel_rfl) (fun _ _ _ h => h) (Or.inl ⟨by rfl, ?_⟩) trivial ?_
         rotate_left
         ·(intro w hSw; (try dsimp only at hSw); go_simp; (try with_reducible rfl))
         (try simp only [Act.put, q4, q5, q6, q1, q2, q3])
         refine AnyTill.take (i := 28) (v := ?_) rfl (by kernel_rfl) (by kernel_rfl) (by kernel_rfl) (by kernel_rfl) (fun _ _ _ h => h) (Or.inl ⟨by rfl, ?_⟩) trivial ?_
         rotate_left
         ·(intro w hSw; (try dsimp only at hSw); go_simp; (try with_reducible rfl))
         (try simp only [Act.put, q4, q5, q6, q1, q2, q3])
         refine AnyTill.take (i := 29) (v := ?_) rfl (by kernel_rfl) (by kernel_rfl) (by kernel_rfl) (by kernel_rfl) (fun _ _ _ h => h) (Or.inl ⟨by rfl, ?_⟩) trivial ?_
         rotate_left
         ·(intro w hSw; (try dsimp only at hSw); go_simp; (try with_reducible rfl))
         (try simp only [Act.put, q4, q5, q6, q1, q2, q3])
         refine AnyTill.done (by kernel_rfl) ?_ _
         (try simp only [Act.put, q4, q5, q6, q1, q2, q3])
         go_wp2_with fail
         go_ret
         exact ⟨rfl, D_9.out.trans ((drew_below10 wr).mono D_9.out.size)⟩
     ·subst h1
      rcases HEND.out with ⟨hev, ρ, hun, hU⟩ | ⟨hne, hev | ⟨c8, hun, hev⟩⟩
      rotate_left
      ·subst hev
       by_cases hjk : j < k
       ·have zlt : (j : Int) < (k : Int) := by omega
        clear hgo HEND H1
        go_wp2_with fail
        go_ret
        exact ⟨rfl, D_9.out⟩
       ·have zlt : ¬ (j : Int) < (k : Int) := by omega
        clear hgo HEND H1
        go_wp2_with fail
        go_ret
        exact ⟨rfl, D_9.out⟩
      ·exfalso
       have h9 := un_one hu1 (HST.out _ hun)
       cases h9
      subst hev
      have h9 := un_one hu1 (HST.out _ hun)
      obtain rfl : ρ = ρ1 := by cases h9; rfl
      clear h9
      have zlt : ¬ (j : Int) < (k : Int) := fun e => hgo ⟨by omega, rfl⟩
      clear hgo HEND H1 HST
      have E_0 : Hid (EnvB (fun g => Own3 (wb.heap.size + 2) wb.heap.size (wb.heap.size + 1) g ∨ Own3 (w4.heap.size + 2) w4.heap.size (w4.heap.size + 1) g) w u3.heap.size x ao ca wr.drew) := by
       have e0 : EnvB (fun g => Own3 (wb.heap.size + 2) wb.heap.size (wb.heap.size + 1) g ∨ Own3 (w4.heap.size + 2) w4.heap.size (w4.heap.size + 1) g) w u3.heap.size x ao ca wr := ⟨A_9.out, X_9.out.mono (fun g hg _ e => by rcases e with e | e; (have h8 := HOW1.out _ e; omega); (have h8 := HOW2b.out _ e; omega)), D_9.out, fun g e => by
        have h7 := HAL.out
        rcases e with e | e
        ·have h8 := HOW1.out _ e; omega
        ·have h8 := HOW2b.out _ e; omega⟩
       exact e0.below (drew_below10 _)
      have T_0 := hidden (TBs.drew (T_8K.out _ _ _ wr hT O_9.out))
      have U_0 := hidden (TBs.drew hU)
      have hz0 : w5.heap.size ≤ wr.drew.heap.size := by show w5.heap.size ≤ wr.heap.size; omega
      obtain ⟨n, hn⟩ : ∃ n, (x.ty.ap ρ).sz = n := ⟨_, rfl⟩
      have HNZ := hidden hn
      obtain ⟨z, hz⟩ : ∃ z, (x.ty.ap ρ).rw = z := ⟨_, rfl⟩
      have HRZ := hidden hz
      have HZN : Hid (z.sz = n) := by show _ = _; rw [← hz, Ty.sz_rw]; exact hn
      clear hn hz hT hU hu1 hun A_9 C_9 X_9 Y_9
      have em1 : ((4000 : Nat) : Int) = 4000 := rfl
      go_upto_region 27 with fail
      obtain ⟨z00, z01, z02⟩ : wr.cell? ⟨u3.heap.size, 0, none⟩ = some (.int .i64 x.V) ∧ wr.cell? ⟨u3.heap.size, 1, none⟩ = some (.string ⟨x.S.toArray⟩) ∧ wr.cell? ⟨u3.heap.size, 2, none⟩ = some (.slice ao x.L.length ca) := E_0.out.cells
      by_cases cn : 4000 < n
      ·have HMN : Hid (min n (4000 + 1) = 4001) := by show _ = _; omega
       have em2 : ((4001 : Nat) : Int) = 4001 := rfl
       refine region_till (S := (fun w' => w'.cell? ⟨u3.heap.size, 0, none⟩ = some (.int .i64 x.V) ∧ w'.cell? ⟨u3.heap.size, 1, none⟩ = some (.string ⟨x.S.toArray⟩) ∧ w'.cell? ⟨u3.heap.size, 2, none⟩ = some (.slice ao x.L.length ca))) (kz := 99) (by kernel_rfl) ⟨z00, z01, z02⟩ (fun hHeld => ?_)
       refine AnyTill.tk (i := 0) (v := ?_) hHeld ?_ ?_
       rotate_left
       ·(intro w hSw; (try dsimp only at hSw); go_simp; (try with_reducible rfl))
       (try simp only [Act.put, q4, q5, q6, q1, q2, q3])
       refine AnyTill.tk (i := 1) (v := ?_) hHeld ?_ ?_
       rotate_left
       ·(intro w hSw; (try dsimp only at hSw); go_simp; (try with_reducible rfl))
       (try simp only [Act.put, q4, q5, q6, q1, q2, q3])
       refine AnyTill.tk (i := 2) (v := ?_) hHeld ?_ ?_
       rotate_left
       ·(intro w hSw; (try dsimp only at hSw); go_simp; (try with_reducible rfl))
       (try simp only [Act.put, q4, q5, q6, q1, q2, q3])
       refine AnyTill.tk (i := 3) (v := ?_) hHeld ?_ ?_
       rotate_left
       ·(intro w hSw; (try dsimp only at hSw); go_simp; (try with_reducible rfl))
       (try simp only [Act.put, q4, q5, q6, q1, q2, q3])
       refine AnyTill.tk (i := 4) (v := ?_) hHeld ?_ ?_
       rotate_left
       ·(intro w hSw; (try dsimp only at hSw); go_simp; (try with_reducible rfl))
       (try simp only [Act.put, q4, q5, q6, q1, q2, q3])
       refine AnyTill.tk (i := 5) (v := ?_) hHeld ?_ ?_
       rotate_left
       ·(intro w hSw; (try dsimp only at hSw); go_simp; (try with_reducible rfl))
       (try simp only [Act.put, q4, q5, q6, q1, q2, q3])
       refine AnyTill.tk (i := 6) (v := ?_) hHeld ?_ ?_
       rotate_left
       ·(intro w hSw; (try dsimp only at hSw); go_simp; (try with_reducible rfl))
       (try simp only [Act.put, q4, q5, q6, q1, q2, q3])
       refine AnyTill.tk (i := 7) (v := ?_) hHeld ?_ ?_
       rotate_left
       ·(intro w hSw; (try dsimp only at hSw); go_simp; (try with_reducible rfl))
       (try simp only [Act.put, q4, q5, q6, q1, q2, q3])
       refine AnyTill.tk (i := 8) (v := ?_) hHeld ?_ ?_
       rotate_left
       ·(intro w hSw; (try dsimp only at hSw); go_simp; (try with_reducible rfl))
       (try simp only [Act.put, q4, q5, q6, q1, q2, q3])
       refine AnyTill.one (i := 9) (by kernel_rfl) rfl (fun K9 hK9 => ?_)
       (try simp only [q1, q2, q3])
       (first | rw [if_pos (by rfl)] | skip)
       go_simp
       have hh := size_s T_0.out (x := x) ca XE.out.2.1 (by omega) XE.out.2.2 (E_0.out.t.mono (fun g hg _ e => hg (Or.inl e))) (by omega) (most := 4000) (by omega)
       rw [HNZ.out, HMN.out, em1, em2] at hh
       refine hh.mono ?_
       clear hh
       rintro e v1 ⟨rfl, g2, g1⟩
       have E_1 := hidden (E_0.out.only g1 (fun g h => Or.inl h))
       have U_1 := hidden (U_0.out.only g1 (fun g hg => HOL1.out g hg))
       have T_1 := hidden g2
       have hz1 : w5.heap.size ≤ v1.heap.size := Nat.le_trans hz0 g1.size
       clear g2 g1
       obtain ⟨z10, z11, z12⟩ := E_1.out.cells
       refine hK9.out _ _ (fun _ => ⟨z10, z11, z12⟩) ?_
       clear hK9 K9
       (try simp only [Act.put, q4, q5, q6, q1, q2, q3])
       clear z00 z01 z02
       refine AnyTill.take (i := 10) (v := ?_) rfl (by kernel_rfl) (by kernel_rfl) (by kernel_rfl) (by kernel_rfl) (fun _ _ _ h => h) (Or.inl ⟨by rfl, ?_⟩) ⟨z10, z11, z12⟩ ?_
       rotate_left
       ·(intro w hSw; (try dsimp only at hSw); go_simp; (try with_reducible rfl))
       (try simp only [Act.put, q4, q5, q6, q1, q2, q3])
       refine AnyTill.take (i := 11) (v := ?_) rfl (by kernel_rfl) (by kernel_rfl) (by kernel_rfl) (by kernel_rfl) (fun _ _ _ h => h) (Or.inl ⟨by rfl, ?_⟩) ⟨z10, z11, z12⟩ ?_
       rotate_left
       ·(intro w hSw; (try dsimp only at hSw); go_simp; (try with_reducible rfl))
       (try simp only [Act.put, q4, q5, q6, q1, q2, q3])
       refine AnyTill.take (i := 12) (v := ?_) rfl (by kernel_rfl) (by kernel_rfl) (by kernel_rfl) (by kernel_rfl) (fun _ _ _ h => h) (Or.inl ⟨by rfl, ?_⟩) ⟨z10, z11, z12⟩ ?_
       rotate_left
       ·(intro w hSw; (try dsimp only at hSw); go_simp; (try with_reducible rfl))
       (try simp only [Act.put, q4, q5, q6, q1, q2, q3])
       refine AnyTill.take (i := 13) (v := undef) rfl (by kernel_rfl) (by kernel_rfl) (by kernel_rfl) (by kernel_rfl) (fun _ _ _ h => h) (Or.inr ⟨by rfl, rfl⟩) ⟨z10, z11, z12⟩ ?_
       (try simp only [Act.put, q4, q5, q6, q1, q2, q3])
       refine AnyTill.take (i := 14) (v := undef) rfl (by kernel_rfl) (by kernel_rfl) (by kernel_rfl) (by kernel_rfl) (fun _ _ _ h => h) (Or.inr ⟨by rfl, rfl⟩) ⟨z10, z11, z12⟩ ?_
       (try simp only [Act.put, q4, q5, q6, q1, q2, q3])
       refine AnyTill.take (i := 15) (v := undef) rfl (by kernel_rfl) (by kernel_rfl) (by kernel_rfl) (by kernel_rfl) (fun _ _ _ h => h) (Or.inr ⟨by rfl, rfl⟩) ⟨z10, z11, z12⟩ ?_
       (try simp only [Act.put, q4, q5, q6, q1, q2, q3])
       refine AnyTill.take (i := 16) (v := undef) rfl (by kernel_rfl) (by kernel_rfl) (by kernel_rfl) (by kernel_rfl) (fun _ _ _ h => h) (Or.inr ⟨by rfl, rfl⟩) ⟨z10, z11, z12⟩ ?_
       (try simp only [Act.put, q4, q5, q6, q1, q2, q3])
       refine AnyTill.take (i := 17) (v := undef) rfl (by kernel_rfl) (by kernel_rfl) (by kernel_rfl) (by kernel_rfl) (fun _ _ _ h => h) (Or.inr ⟨by rfl, rfl⟩) ⟨z10, z11, z12⟩ ?_
       (try simp only [Act.put, q4, q5, q6, q1, q2, q3])
       refine AnyTill.take (i := 18) (v := undef) rfl (by kernel_rfl) (by kernel_rfl) (by kernel_rfl) (by kernel_rfl) (fun _ _ _ h => h) (Or.inr ⟨by rfl, rfl⟩) ⟨z10, z11, z12⟩ ?_
       (try simp only [Act.put, q4, q5, q6, q1, q2, q3])
       refine AnyTill.take (i := 19) (v := undef) rfl (by kernel_rfl) (by kernel_rfl) (by kernel_rfl) (by kernel_rfl) (fun _ _ _ h => h) (Or.inr ⟨by rfl, rfl⟩) ⟨z10, z11, z12⟩ ?_
       (try simp only [Act.put, q4, q5, q6, q1, q2, q3])
       refine AnyTill.take (i := 20) (v := undef) rfl (by kernel_rfl) (by kernel_rfl) (by kernel_rfl) (by kernel_rfl) (fun _ _ _ h => h) (Or.inr ⟨by rfl, rfl⟩) ⟨z10, z11, z12⟩ ?_
       (try simp only [Act.put, q4, q5, q6, q1, q2, q3])
       refine AnyTill.take (i := 21) (v := undef) rfl (by kernel_rfl) (by kernel_rfl) (by kernel_rfl) (by kernel_rfl) (fun _ _ _ h => h) (Or.inr ⟨by rfl, rfl⟩) ⟨z10, z11, z12⟩ ?_
       (try simp only [Act.put, q4, q5, q6, q1, q2, q3])
       refine AnyTill.take (i := 22) (v := undef) rfl (by kernel_rfl) (by kernel_rfl) (by kernel_rfl) (by kernel_rfl) (fun _ _ _ h => h) (Or.inr ⟨by rfl, rfl⟩) ⟨z10, z11, z12⟩ ?_
       (try simp only [Act.put, q4, q5, q6, q1, q2, q3])
       refine AnyTill.take (i := 23) (v := undef) rfl (by kernel_rfl) (by kernel_rfl) (by kernel_rfl) (by kernel_rfl) (fun _ _ _ h => h) (Or.inr ⟨by rfl, rfl⟩) ⟨z10, z11, z12⟩ ?_
       (try simp only [Act.put, q4, q5, q6, q1, q2, q3])
       refine AnyTill.take (i := 24) (v := undef) rfl (by kernel_rfl) (by kernel_rfl) (by kernel_rfl) (by kernel_rfl) (fun _ _ _ h => h) (Or.inr ⟨by rfl, rfl⟩) ⟨z10, z11, z12⟩ ?_
       (try simp only [Act.put, q4, q5, q6, q1, q2, q3])
       refine AnyTill.take (i := 25) (v := undef) rfl (by kernel_rfl) (by kernel_rfl) (by kernel_rfl) (by kernel_rfl) (fun _ _ _ h => h) (Or.inr ⟨by rfl, rfl⟩) ⟨z10, z11, z12⟩ ?_
       (try simp only [Act.put, q4, q5, q6, q1, q2, q3])
       refine AnyTill.take (i := 26) (v := undef) rfl (by kernel_rfl) (by kernel_rfl) (by kernel_rfl) (by kernel_rfl) (fun _ _ _ h => h) (Or.inr ⟨by rfl, rfl⟩) ⟨z10, z11, z12⟩ ?_
       (try simp only [Act.put, q4, q5, q6, q1, q2, q3])
       refine AnyTill.take (i := 27) (v := ?_) rfl (by kernel_rfl) (by kernel_rfl) (by kernel_rfl) (by kernel_rfl) (fun _ _ _ h => h) (Or.inl ⟨by rfl, ?_⟩) ⟨z10, z11, z12⟩ ?_
       rotate_left
       ·(intro w hSw; (try dsimp only at hSw); go_simp; (try with_reducible rfl))
       (try simp only [Act.put, q4, q5, q6, q1, q2, q3])
       refine AnyTill.take (i := 28) (v := ?_) rfl (by kernel_rfl) (by kernel_rfl) (by kernel_rfl) (by kernel_rfl) (fun _ _ _ h => h) (Or.inl ⟨by rfl, ?_⟩) ⟨z10, z11, z12⟩ ?_
       rotate_left
       ·(intro w hSw; (try dsimp only at hSw); go_simp; (try with_reducible rfl))
       (try simp only [Act.put, q4, q5, q6, q1, q2, q3])
       refine AnyTill.take (i := 29) (v := ?_) rfl (by kernel_rfl) (by kernel_rfl) (by kernel_rfl) (by kernel_rfl) (fun _ _ _ h => h) (Or.inl ⟨by rfl, ?_⟩) ⟨z10, z11, z12⟩ ?_
       rotate_left
       ·(intro w hSw; (try dsimp only at hSw); go_simp; (try with_reducible rfl))
       (try simp only [Act.put, q4, q5, q6, q1, q2, q3])
       refine AnyTill.done (by kernel_rfl) ?_ _
       (try simp only [Act.put, q4, q5, q6, q1, q2, q3])
       clear z10 z11 z12
       go_wp2_with fail
       go_ret
       exact ⟨rfl, E_1.out.d⟩
      ·have HMN : Hid (min n (4000 + 1) = n) := by show _ = _; omega
       have zc9 : ¬ (4000 : Int) < (n : Int) := by omega
       refine region_till (S := (fun w' => w'.cell? ⟨u3.heap.size, 0, none⟩ = some (.int .i64 x.V) ∧ w'.cell? ⟨u3.heap.size, 1, none⟩ = some (.string ⟨x.S.toArray⟩) ∧ w'.cell? ⟨u3.heap.size, 2, none⟩ = some (.slice ao x.L.length ca))) (kz := 99) (by kernel_rfl) ⟨z00, z01, z02⟩ (fun hHeld => ?_)
       refine AnyTill.tk (i := 0) (v := ?_) hHeld ?_ ?_
       rotate_left
       ·(intro w hSw; (try dsimp only at hSw); go_simp; (try with_reducible rfl))
       (try simp only [Act.put, q4, q5, q6, q1, q2, q3])
       refine AnyTill.tk (i := 1) (v := ?_) hHeld ?_ ?_
       rotate_left
       ·(intro w hSw; (try dsimp only at hSw); go_simp; (try with_reducible rfl))
       (try simp only [Act.put, q4, q5, q6, q1, q2, q3])
       refine AnyTill.tk (i := 2) (v := ?_) hHeld ?_ ?_
       rotate_left
       ·(intro w hSw; (try dsimp only at hSw); go_simp; (try with_reducible rfl))
       (try simp only [Act.put, q4, q5, q6, q1, q2, q3])
       refine AnyTill.tk (i := 3) (v := ?_) hHeld ?_ ?_
       rotate_left
       ·(intro w hSw; (try dsimp only at hSw); go_simp; (try with_reducible rfl))
       (try simp only [Act.put, q4, q5, q6, q1, q2, q3])
       refine AnyTill.tk (i := 4) (v := ?_) hHeld ?_ ?_
       rotate_left
       ·(intro w hSw; (try dsimp only at hSw); go_simp; (try with_reducible rfl))
       (try simp only [Act.put, q4, q5, q6, q1, q2, q3])
       refine AnyTill.tk (i := 5) (v := ?_) hHeld ?_ ?_
       rotate_left
       ·(intro w hSw; (try dsimp only at hSw); go_simp; (try with_reducible rfl))
       (try simp only [Act.put, q4, q5, q6, q1, q2, q3])
       refine AnyTill.tk (i := 6) (v := ?_) hHeld ?_ ?_
       rotate_left
       ·(intro w hSw; (try dsimp only at hSw); go_simp; (try with_reducible rfl))
       (try simp only [Act.put, q4, q5, q6, q1, q2, q3])
       refine AnyTill.tk (i := 7) (v := ?_) hHeld ?_ ?_
       rotate_left
       ·(intro w hSw; (try dsimp only at hSw); go_simp; (try with_reducible rfl))
       (try simp only [Act.put, q4, q5, q6, q1, q2, q3])
       refine AnyTill.tk (i := 8) (v := ?_) hHeld ?_ ?_
       rotate_left
       ·(intro w hSw; (try dsimp only at hSw); go_simp; (try with_reducible rfl))
       (try simp only [Act.put, q4, q5, q6, q1, q2, q3])
       refine AnyTill.one (i := 9) (by kernel_rfl) rfl (fun K9 hK9 => ?_)
       (try simp only [q1, q2, q3])
       (first | rw [if_pos (by rfl)] | skip)
       go_simp
       have hh := size_s T_0.out (x := x) ca XE.out.2.1 (by omega) XE.out.2.2 (E_0.out.t.mono (fun g hg _ e => hg (Or.inl e))) (by omega) (most := 4000) (by omega)
       rw [HNZ.out, HMN.out, em1] at hh
       refine hh.mono ?_
       clear hh
       rintro e v1 ⟨rfl, g2, g1⟩
       have E_1 := hidden (E_0.out.only g1 (fun g h => Or.inl h))
       have U_1 := hidden (U_0.out.only g1 (fun g hg => HOL1.out g hg))
       have T_1 := hidden g2
       have hz1 : w5.heap.size ≤ v1.heap.size := Nat.le_trans hz0 g1.size
       clear g2 g1
       obtain ⟨z10, z11, z12⟩ := E_1.out.cells
       refine hK9.out _ _ (fun _ => ⟨z10, z11, z12⟩) ?_
       clear hK9 K9
       (try simp only [Act.put, q4, q5, q6, q1, q2, q3])
       clear z00 z01 z02
       refine AnyTill.take (i := 10) (v := ?_) rfl (by kernel_rfl) (by kernel_rfl) (by kernel_rfl) (by kernel_rfl) (fun _ _ _ h => h) (Or.inl ⟨by rfl, ?_⟩) ⟨z10, z11, z12⟩ ?_
       rotate_left
       ·(intro w hSw; (try dsimp only at hSw); go_simp; (try with_reducible rfl))
       (try simp only [Act.put, q4, q5, q6, q1, q2, q3])
       refine AnyTill.take (i := 11) (v := ?_) rfl (by kernel_rfl) (by kernel_rfl) (by kernel_rfl) (by kernel_rfl) (fun _ _ _ h => h) (Or.inl ⟨by rfl, ?_⟩) ⟨z10, z11, z12⟩ ?_
       rotate_left
       ·(intro w hSw; (try dsimp only at hSw); go_simp; (try with_reducible rfl))
       (try simp only [Act.put, q4, q5, q6, q1, q2, q3])
       refine AnyTill.take (i := 12) (v := ?_) rfl (by kernel_rfl) (by kernel_rfl) (by kernel_rfl) (by kernel_rfl) (fun _ _ _ h => h) (Or.inl ⟨by rfl, ?_⟩) ⟨z10, z11, z12⟩ ?_
       rotate_left
       ·(intro w hSw; (try dsimp only at hSw); go_simp; (try with_reducible rfl))
       (try simp only [Act.put, q4, q5, q6, q1, q2, q3])
       refine AnyTill.take (i := 13) (v := ?_) rfl (by kernel_rfl) (by kernel_rfl) (by kernel_rfl) (by kernel_rfl) (fun _ _ _ h => h) (Or.inl ⟨by rfl, ?_⟩) ⟨z10, z11, z12⟩ ?_
       rotate_left
       ·(intro w hSw; (try dsimp only at hSw); go_simp; (try with_reducible rfl))
       (try simp only [Act.put, q4, q5, q6, q1, q2, q3])
       refine AnyTill.take (i := 14) (v := ?_) rfl (by kernel_rfl) (by kernel_rfl) (by kernel_rfl) (by kernel_rfl) (fun _ _ _ h => h) (Or.inl ⟨by rfl, ?_⟩) ⟨z10, z11, z12⟩ ?_
       rotate_left
       ·(intro w hSw; (try dsimp only at hSw); go_simp; (try with_reducible rfl))
       (try simp only [Act.put, q4, q5, q6, q1, q2, q3])
       refine AnyTill.take (i := 16) (v := ?_) rfl (by kernel_rfl) (by kernel_rfl) (by kernel_rfl) (by kernel_rfl) (fun _ _ _ h => h) (Or.inl ⟨by rfl, ?_⟩) ⟨z10, z11, z12⟩ ?_
       rotate_left
       ·(intro w hSw; (try dsimp only at hSw); go_simp; (try with_reducible rfl))
       (try simp only [Act.put, q4, q5, q6, q1, q2, q3])
       refine AnyTill.take (i := 17) (v := ?_) rfl (by kernel_rfl) (by kernel_rfl) (by kernel_rfl) (by kernel_rfl) (fun _ _ _ h => h) (Or.inl ⟨by rfl, ?_⟩) ⟨z10, z11, z12⟩ ?_
       rotate_left
       ·(intro w hSw; (try dsimp only at hSw); go_simp; (try with_reducible rfl))
       (try simp only [Act.put, q4, q5, q6, q1, q2, q3])
       refine AnyTill.one (i := 15) (by kernel_rfl) rfl (fun K9 hK9 => ?_)
       (try simp only [q1, q2, q3])
       (first | rw [if_pos (by rfl)] | skip)
       go_simp
       have hh := res_s T_1.out (x := x) ca XE.out.2.1 (by omega) XE.out.2.2 (E_1.out.t.mono (fun g hg _ e => hg (Or.inl e))) (by omega)
       rw [HRZ.out] at hh
       refine hh.mono ?_
       clear hh
       rintro e v2 ⟨al2, cp2, rfl, g2, g3, g1, g4⟩
       have E_2 := hidden (E_1.out.only g1 (fun g h => Or.inl h))
       have U_2 := hidden (U_1.out.only g1 (fun g hg => HOL1.out g hg))
       have T_2 := hidden g2
       have Q_2 := hidden g3
       have hz2 : w5.heap.size ≤ v2.heap.size := Nat.le_trans hz1 g1.size
       clear g1 g2 g3 g4
       obtain ⟨z20, z21, z22⟩ := E_2.out.cells
       refine hK9.out _ _ (fun _ => ⟨z20, z21, z22⟩) ?_
       clear hK9 K9
       (try simp only [Act.put, q4, q5, q6, q1, q2, q3])
       clear z10 z11 z12
       refine AnyTill.one (i := 18) (by kernel_rfl) rfl (fun K9 hK9 => ?_)
       (try simp only [q1, q2, q3])
       (first | rw [if_pos (by rfl)] | skip)
       go_simp
       have hh := res_s U_2.out (x := x) ca XE.out.2.1 (by omega) XE.out.2.2 (E_2.out.t.mono (fun g hg _ e => hg (Or.inr e))) (by omega)
       rw [HRZ.out] at hh
       refine hh.mono ?_
       clear hh
       rintro e v3 ⟨al3, cp3, rfl, g2, g3, g1, g4⟩
       have E_3 := hidden (E_2.out.only g1 (fun g h => Or.inr h))
       have T_3 := hidden (T_2.out.only g1 (fun g hg => Or.inr ⟨HOW2.out g hg, HOL2.out g hg⟩))
       have U_3 := hidden g2
       have Q_3 : Hid (RT (fun g => v1.heap.size ≤ g) v3 z.L al2) := Q_2.out.keep (fun g hg hl => g1.block g hl (fun e => by have h9 := HOL2.out g e; omega))
       have P_3 := hidden g3
       have hz3 : w5.heap.size ≤ v3.heap.size := Nat.le_trans hz2 g1.size
       clear g1 g2 g3 g4
       obtain ⟨z30, z31, z32⟩ := E_3.out.cells
       refine hK9.out _ _ (fun _ => ⟨z30, z31, z32⟩) ?_
       clear hK9 K9
       (try simp only [Act.put, q4, q5, q6, q1, q2, q3])
       clear z20 z21 z22
       refine AnyTill.one (i := 19) (by kernel_rfl) rfl (fun K9 hK9 => ?_)
       (try simp only [q1, q2, q3])
       (first | rw [if_pos (by rfl)] | skip)
       go_simp
       refine (rsame10 4000 z z (by rw [HZN.out]; omega) (by omega) v3 al2 al3 cp2 cp3 Q_3.out P_3.out).mono ?_
       rintro e v4 ⟨b4, rfl, hb2, hb⟩
       obtain rfl : b4 = true := hb2.2 rfl
       have E_4 := hidden (E_3.out.below hb)
       have T_4x := hidden ((T_3.out.below hb).iff (V' := x.vi ++ y.vi) (fun v => more2))
       have U_4x := hidden ((U_3.out.below hb).iff (V' := x.vi ++ y.vi) (fun v => more1))
       clear hb hb2
       obtain ⟨z40, z41, z42⟩ := E_4.out.cells
       refine hK9.out _ _ (fun _ => ⟨z40, z41, z42⟩) ?_
       clear hK9 K9
       (try simp only [Act.put, q4, q5, q6, q1, q2, q3])
       clear z30 z31 z32
       refine AnyTill.take (i := 20) (v := ?_) rfl (by kernel_rfl) (by kernel_rfl) (by kernel_rfl) (by kernel_rfl) (fun _ _ _ h => h) (Or.inl ⟨by rfl, ?_⟩) ⟨z40, z41, z42⟩ ?_
       rotate_left
       ·(intro w hSw; (try dsimp only at hSw); go_simp; (try with_reducible rfl))
       (try simp only [Act.put, q4, q5, q6, q1, q2, q3])
       refine AnyTill.take (i := 21) (v := ?_) rfl (by kernel_rfl) (by kernel_rfl) (by kernel_rfl) (by kernel_rfl) (fun _ _ _ h => h) (Or.inl ⟨by rfl, ?_⟩) ⟨z40, z41, z42⟩ ?_
       rotate_left
       ·(intro w hSw; (try dsimp only at hSw); go_simp; (try with_reducible rfl))
       (try simp only [Act.put, q4, q5, q6, q1, q2, q3])
       refine AnyTill.take (i := 23) (v := ?_) rfl (by kernel_rfl) (by kernel_rfl) (by kernel_rfl) (by kernel_rfl) (fun _ _ _ h => h) (Or.inl ⟨by rfl, ?_⟩) ⟨z40, z41, z42⟩ ?_
       rotate_left
       ·(intro w hSw; (try dsimp only at hSw); go_simp; (try with_reducible rfl))
       (try simp only [Act.put, q4, q5, q6, q1, q2, q3])
       refine AnyTill.one (i := 22) (by kernel_rfl) rfl (fun K9 hK9 => ?_)
       (try simp only [q1, q2, q3])
       (first | rw [if_pos (by rfl)] | skip)
       go_simp
       refine (fresh_s T_4x.out VB.out).mono ?_
       rintro e v5 ⟨hi1, hh1, rfl, g1⟩
       have E_5 := hidden (E_4.out.only g1 (fun g h => Or.inl h))
       have U_5x := hidden (U_4x.out.only g1 (fun g hg => HOL1.out g hg))
       have HH1 := hidden hh1
       clear g1 hh1
       obtain ⟨z50, z51, z52⟩ := E_5.out.cells
       refine hK9.out _ _ (fun _ => ⟨z50, z51, z52⟩) ?_
       clear hK9 K9
       (try simp only [Act.put, q4, q5, q6, q1, q2, q3])
       clear z40 z41 z42
       refine AnyTill.one (i := 24) (by kernel_rfl) rfl (fun K9 hK9 => ?_)
       (try simp only [q1, q2, q3])
       (first | rw [if_pos (by rfl)] | skip)
       go_simp
       refine (fresh_s U_5x.out VB.out).mono ?_
       rintro e v6 ⟨hi2, hh2, rfl, g1⟩
       have E_6 := hidden (E_5.out.only g1 (fun g h => Or.inr h))
       obtain rfl : hi1 = hi2 := HH1.out.same hh2 (fun v => Iff.rfl)
       clear g1 hh2
       obtain ⟨z60, z61, z62⟩ := E_6.out.cells
       refine hK9.out _ _ (fun _ => ⟨z60, z61, z62⟩) ?_
       clear hK9 K9
       (try simp only [Act.put, q4, q5, q6, q1, q2, q3])
       clear z50 z51 z52
       refine AnyTill.one (i := 25) (by kernel_rfl) rfl (fun K9 hK9 => ?_)
       (try simp only [q1, q2, q3])
       (first | rw [if_pos (by rfl)] | skip)
       go_simp
       have HSF : Hid (Calls Tryd.prog 14 #[.agg #[.int .i64 (frI hi1), .string ⟨#[]⟩, .slice none 0 0], .agg #[.int .i64 (frI hi1), .string ⟨#[]⟩, .slice none 0 0]] v6 fun e w' => SameAs (.mk (frI hi1) [] []) (.mk (frI hi1) [] []) v6 e w') := rsame10 (P := fun _ => True) (P' := fun _ => True) 1 (.mk (frI hi1) [] []) (.mk (frI hi1) [] []) (by simp [Rw.sz, szRL]) (by omega) v6 none none 0 0 rt_nil rt_nil
       refine HSF.out.mono ?_
       rintro e v7 ⟨b7, rfl, hb2, hb⟩
       obtain rfl : b7 = true := hb2.2 rfl
       have E_7 := hidden (E_6.out.below hb)
       clear hb hb2
       obtain ⟨z70, z71, z72⟩ := E_7.out.cells
       refine hK9.out _ _ (fun _ => ⟨z70, z71, z72⟩) ?_
       clear hK9 K9
       (try simp only [Act.put, q4, q5, q6, q1, q2, q3])
       clear z60 z61 z62
       refine AnyTill.take (i := 26) (v := ?_) rfl (by kernel_rfl) (by kernel_rfl) (by kernel_rfl) (by kernel_rfl) (fun _ _ _ h => h) (Or.inl ⟨by rfl, ?_⟩) ⟨z70, z71, z72⟩ ?_
       rotate_left
       ·(intro w hSw; (try dsimp only at hSw); go_simp; (try with_reducible rfl))
       (try simp only [Act.put, q4, q5, q6, q1, q2, q3])
       refine AnyTill.take (i := 27) (v := ?_) rfl (by kernel_rfl) (by kernel_rfl) (by kernel_rfl) (by kernel_rfl) (fun _ _ _ h => h) (Or.inl ⟨by rfl, ?_⟩) ⟨z70, z71, z72⟩ ?_
       rotate_left
       ·(intro w hSw; (try dsimp only at hSw); go_simp; (try with_reducible rfl))
       (try simp only [Act.put, q4, q5, q6, q1, q2, q3])
       refine AnyTill.take (i := 28) (v := ?_) rfl (by kernel_rfl) (by kernel_rfl) (by kernel_rfl) (by kernel_rfl) (fun _ _ _ h => h) (Or.inl ⟨by rfl, ?_⟩) ⟨z70, z71, z72⟩ ?_
       rotate_left
       ·(intro w hSw; (try dsimp only at hSw); go_simp; (try with_reducible rfl))
       (try simp only [Act.put, q4, q5, q6, q1, q2, q3])
       refine AnyTill.take (i := 29) (v := ?_) rfl (by kernel_rfl) (by kernel_rfl) (by kernel_rfl) (by kernel_rfl) (fun _ _ _ h => h) (Or.inl ⟨by rfl, ?_⟩) ⟨z70, z71, z72⟩ ?_
       rotate_left
       ·(intro w hSw; (try dsimp only at hSw); go_simp; (try with_reducible rfl))
       (try simp only [Act.put, q4, q5, q6, q1, q2, q3])
       refine AnyTill.done (by kernel_rfl) ?_ _
       (try simp only [Act.put, q4, q5, q6, q1, q2, q3])
       clear z70 z71 z72
       go_wp2_with fail
       go_ret
       exact ⟨rfl, E_7.out.d⟩
end Go.Proofs.YtcfgfclapljilaaDoor
