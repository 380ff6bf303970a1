/-
  A block is laid as it is to be: the twin's lay. Condition: the arena lies in memory, and there is room.
-/
import Derived.Test.YtkgocnmeedkieaaC3Twins
namespace Go.Proofs.Ytkgocnmeedkieaa
open Go.ChangeShapes Go.WideShapes Go.ChangeAt Go.RowKit Go.Deep
set_option linter.unusedVariables false
set_option maxHeartbeats 1000000
variable {p : Pl} {s : St} {r : RS}

/-- The first j fields are written. -/
def mixF (F : List Int) (j : Nat) : List Int := F.take j ++ List.replicate (F.length - j) 1
theorem mixF_len (F : List Int) {j : Nat} (h : j ≤ F.length) : (mixF F j).length = F.length := by unfold mixF; simp; omega
theorem mixF_zero (F : List Int) : mixF F 0 = List.replicate F.length 1 := by unfold mixF; simp
theorem mixF_all (F : List Int) : mixF F F.length = F := by unfold mixF; simp
theorem mixF_set (F : List Int) {j : Nat} (h : j < F.length) : (mixF F j).set j (F.getD j 0) = mixF F (j + 1) := by
  unfold mixF
  have e1 : F.length - j = (F.length - (j + 1)) + 1 := by omega
  have hl : (F.take j).length = j := by simp; omega
  rw [List.set_append_right _ _ (by omega), hl, Nat.sub_self, e1, List.replicate_succ, List.set_cons_zero]
  rw [List.take_add_one, List.append_assoc, List.getElem?_eq_getElem h, List.getD_eq_getElem?_getD, List.getElem?_eq_getElem h]
  rfl
def layR (r : RS) (ad : Nat) (t : Int) (F : List Int) : RS := ⟨r.n, r.which, r.L ++ [⟨ad, t, F⟩]⟩
theorem lay_put {s : St} {ad : Nat} {t : Int} {F : List Int} {j : Nat} (h : Rep s (layR r ad t (mixF F j))) (hs : s.top ≤ 100000) (hj : j < F.length) : Rep (s.put (2 * (ad : Int)) j (F.getD j 0)) (layR r ad t (mixF F (j + 1))) := by
  have hb : (layR r ad t (mixF F j)).L[r.L.length]? = some ⟨ad, t, mixF F j⟩ := by unfold layR; simp
  obtain ⟨hf, _⟩ := h.word hb hs
  have h2 := (rep_put (v := F.getD j 0) (i := j) h hb (by rw [hf]) (by show j < (mixF F j).length; rw [mixF_len F (by omega)]; exact hj)).2
  have e : (layR r ad t (mixF F j)).put r.L.length ⟨ad, t, mixF F j⟩ j (F.getD j 0) = layR r ad t (mixF F (j + 1)) := by
    unfold layR RS.put
    congr 1
    show (r.L ++ [_]).set r.L.length ⟨ad, t, (mixF F j).set j (F.getD j 0)⟩ = _
    rw [mixF_set F hj, List.set_append_right _ _ (Nat.le_refl _), Nat.sub_self, List.set_cons_zero]
  rw [← e]
  exact h2
def LaidAs (w : World) (p : Pl) (r : RS) (e : Ending) (w' : World) : Prop := e = .returned (.tuple #[]) ∧ ∃ s', Ar w' p s' ∧ Rep s' r ∧ Only p.own w w'
theorem twinLay_any {t : Int} {F : List Int} {g : Nat} (w : World) (h : Ar w p s) (hr : Rep s r) (ho : Own w g F.length (fun i => F.getD i 0)) (hg : ¬ p.own g) (hlo : ∀ j, 0 ≤ F.getD j 0 ∧ F.getD j 0 ≤ 18446744073709551615) (hE : s.allocE t F.length = 0) :
    Calls Try.prog 40 #[.agg #[.int .i64 t, .slice (some ⟨g, 0, none⟩) F.length F.length], .pointer (some ⟨p.a, 0, none⟩)] w fun e w' => LaidAs w p (layR r (s.top + 1) t F) e w' := by
  have n2 := h.n2; have t1 := h.t1; have t2 := h.t2; have b1 := h.b1
  obtain ⟨_, z0, z1, g4, t0, t1'⟩ := allocE_zero hE
  have l1 := lt_of_some h.ha
  have l2 := lt_of_some h.hh
  have l3 := h.hc.lt
  have l4 := h.hb.lt
  have HOW : Hid (∀ wr, Only p.own w wr → Own wr g F.length (fun i => F.getD i 0)) := fun wr k => ho.frame k hg
  have HBB : Hid (∀ wr, Only p.own (w.alloc (.cells #[.int .i64 t, .slice (some ⟨g, 0, none⟩) F.length F.length] 70)) wr → wr.heap[w.heap.size]? = some (.cells #[.int .i64 t, .slice (some ⟨g, 0, none⟩) F.length F.length] 70 (0, 0))) := fun wr k => by
    refine (k.block _ (by rw [nblk_alloc]; omega) (fun hs => ?_)).trans (blk_alloc_new _ _)
    rcases hs with e | e | e <;> omega
  have HO2 : Hid (Only p.own w (w.alloc (.cells #[.int .i64 t, .slice (some ⟨g, 0, none⟩) F.length F.length] 70))) := (Only.refl _ _).alloc _
  have HA : Hid (s.allocE t F.length = 0) := hE
  have HW : Hid (s.allocW t F.length = 2 * ((s.top + 1 : Nat) : Int)) := by show _ = _; unfold St.allocW; rw [if_pos hE]; omega
  have HR2 : Hid (Rep (s.alloc t F.length) (layR r (s.top + 1) t (mixF F 0))) := by
    have := rep_alloc hr h.t1 hE
    rw [mixF_zero]
    unfold RS.alloc at this
    rw [Int.toNat_natCast] at this
    exact this
  have HLO : Hid _ := hlo
  have hfl : F.length ≤ 4096 := by omega
  obtain ⟨ad, had⟩ : ∃ ad, ad = s.top + 1 := ⟨_, rfl⟩
  rw [← had] at HR2 HW ⊢
  have had2 : ad ≤ 70000 := by omega
  clear hE ho hg hr had hlo
  go_enter Try.func40, Try.ntmps40
  go_wp2_with (go_at_call 31; refine (alloc_at t (F.length : Int) (2 * (ad : Int)) 0 _ (h.alloc _) HW.out HA.out).mono ?_; rintro e w2 ⟨rfl, h2, o2⟩; have H2 := hidden h2; have O2 := hidden o2; obtain ⟨⟨k0, k1⟩, k2⟩ := two_cells (HBB.out w2 o2); clear h2 o2)
  have HRR := HR2
  clear HW HA n2 t1 t2 b1 l1 l2 l3 l4
  go_loopw [21] (fun i wr => ∃ (j : Nat) (s' : St), j ≤ F.length ∧ i = .int .i64 j ∧ Ar wr p s' ∧ Rep s' (layR r ad t (mixF F j)) ∧ Only p.own w wr) (fun i _ => F.length - (intOf i).toNat)
  case atStart => exact ⟨0, _, Nat.zero_le _, rfl, H2.out, HRR.out, HO2.out.trans O2.out⟩
  case round =>
    clear HRR HR2 H2 O2 k0 k1 k2
    obtain ⟨j, s', hj, rfl, h', hr', o'⟩ := hrel
    have n2 := h'.n2; have t2 := h'.t2; have b1 := h'.b1
    by_cases hlt : j < F.length
    · have hxc := (HOW.out wr o').cell hlt
      obtain ⟨v0, v1⟩ := HLO.out j
      have HN : Hid (Rep (s'.put (2 * (ad : Int)) j (F.getD j 0)) (layR r ad t (mixF F (j + 1)))) := lay_put hr' (by omega) hlt
      have x1 : (0 : Int) ≤ (j : Int) := by omega
      have x2 : (j : Int) < (F.length : Int) := by omega
      have HFI : Hid s'.Fits := hr'.fits
      have O' : Hid _ := o'
      clear hr' o' t2 b1
      generalize F.getD j 0 = v at *
      go_wp2_with (go_at_call 34; refine (set_any (2 * (ad : Int)) j v _ h' HFI.out (by omega) (by omega) v0 v1).mono ?_; rintro e w4 ⟨rfl, h4, o4⟩; have H4 := hidden h4; have O4 := hidden (O'.out.trans o4); clear h4 o4)
      go_roundw
      case rel => exact ⟨j + 1, _, by omega, by go_num, H4.out, HN.out, O4.out⟩
      case measure => simp [intOf]; omega
    · have ej : j = F.length := by omega
      have HE : Hid _ := ej
      have hnl : ¬ ((j : Int) < (F.length : Int)) := by omega
      clear ej
      go_wp2
      go_end0
      exact ⟨rfl, s', h', by rw [HE.out, mixF_all] at hr'; exact hr', o'⟩
end Go.Proofs.Ytkgocnmeedkieaa
