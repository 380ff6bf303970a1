/-
  Layer 5, the program's text: the eight bytes that a text's rest begins with. No condition.
-/
import Derived.Test.YtcbgjkedmboifabE5Word
import Derived.Laws.IdiomCopy
import Derived.Deep.CutRange
namespace Go.Proofs.Ytcbgjkedmboifab
open Go.ChangeShapes Go.WideShapes Go.ChangeAt Go.RowKit Go.Deep
set_option linter.unusedVariables false
set_option maxHeartbeats 1000000

/-- Byte i of a text, 0 behind its end. -/
def atS (s : ByteArray) (i : Nat) : UInt8 := s.data.toList.getD i 0
theorem rowIs_setCells {b : Nat} {t : TypeId} {n : Nat} : ∀ (vs : List Value) (o : Nat) (w : World) (f : Nat → Value), w.rowIs b t n f → (w.setCells b o vs).rowIs b t n (fun j => if o ≤ j ∧ j < o + vs.length then vs.getD (j - o) undef else f j)
  | [], o, w, f, h => h.congr (fun i hi => by rw [if_neg (by simp only [List.length_nil]; omega)])
  | v :: vs, o, w, f, h => by
    refine (rowIs_setCells vs (o + 1) _ _ (h.set o v)).congr (fun i hi => ?_)
    simp only [List.length_cons]
    by_cases e : i = o
    · rw [if_neg (by omega), if_pos e, if_pos (by omega), show i - o = 0 from by omega]; rfl
    · by_cases e2 : o + 1 ≤ i ∧ i < o + 1 + vs.length
      · rw [if_pos e2, if_pos (by omega), show i - o = (i - (o + 1)) + 1 from by omega]; rfl
      · rw [if_neg e2, if_neg e, if_neg (by omega)]
theorem only_setCells {S : Nat → Prop} {b : Nat} {w : World} (hb : w.heap.size ≤ b ∨ S b) : ∀ (vs : List Value) (o : Nat) (w' : World), Only S w w' → Only S w (w'.setCells b o vs)
  | [], _, _, h => h
  | v :: vs, o, w', h => only_setCells hb vs (o + 1) _ (h.setCell hb v)
theorem run_copy8 (w : World) (ty : TypeId) (b : Nat) (s : ByteArray) {f : Nat → Value} (hr : w.rowIs b 130 8 f) :
    ∃ w', Sem.run Try.prog (Builtin.copy_ #[85, 9] ty #[.slice (some ⟨b, 0, none⟩) 8 8, .string s]) w = .ok (.int .i64 ((min s.size 8 : Nat) : Int)) w' ∧ w'.rowIs b 130 8 (fun i => if i < s.size then .int .u8 ((atS s i).toNat : Int) else f i) ∧ Only (fun k => k = b) w w' := by
  obtain ⟨i0, hi0, hz0, hz1, hz2⟩ := info_parts infoU8
  have hsz : s.data.toList.length = s.size := by rw [Array.length_toList]; rfl
  have hl : ((s.data.toList.take 8).map u8v).length = min s.size 8 := by rw [List.length_map, List.length_take, hsz, Nat.min_comm]
  have hst := run_storeCells_cells (P := Try.prog) b 0 ((s.data.toList.take 8).map u8v) 0 w (fun j hj => by rw [hr.cell (by omega)]; rfl) (fun j _ => hr.frozen _) (by
    intro v hv
    obtain ⟨x, _, rfl⟩ := List.mem_map.1 hv
    rfl)
  have e : List.take (min s.size 8) (List.map (fun x : UInt8 => Value.int IntKind.u8 (x.toNat : Int)) s.data.toList) = (s.data.toList.take 8).map u8v := by
    rw [← List.map_take]
    have : s.data.toList.take (min s.size 8) = s.data.toList.take 8 := List.take_eq_take_iff.2 (by rw [hsz]; omega)
    rw [this]
    rfl
  have hv : ∀ i, i < s.size → i < 8 → ((s.data.toList.take 8).map u8v).getD i undef = .int .u8 ((atS s i).toNat : Int) := by
    intro i h1 h2
    rw [List.getD_eq_getElem?_getD, List.getElem?_eq_getElem (by omega)]
    simp only [List.getElem_map, List.getElem_take, Option.getD_some]
    unfold atS u8v
    rw [List.getD_eq_getElem?_getD, List.getElem?_eq_getElem (by omega)]
    rfl
  generalize (s.data.toList.take 8).map u8v = vs at *
  refine ⟨w.setCells b 0 vs, ?_, (rowIs_setCells vs 0 w f hr).congr (fun i hi => ?_), only_setCells (S := fun k => k = b) (Or.inr rfl) _ _ _ (Only.refl _ _)⟩
  · simp [Builtin.copy_, run_underlying Try.underlying85, Builtin.lenOf, Builtin.firstCells, sizeOf, typeInfo, hi0]
    rw [e, hst]
    rfl
  · simp only [hl]
    by_cases c : i < s.size
    · rw [if_pos (by omega), if_pos c, Nat.sub_zero, hv i c hi]
    · rw [if_neg (by omega), if_neg c]
/-- What begins with a text's rest: its first eight bytes, or all of it, and how much is left. -/
def beginF (s : ByteArray) (i : Nat) : UInt8 := if s.size < 8 then (if i = 7 then UInt8.ofNat (7 - s.size) else atS s i) else atS s i
theorem below_eight {w w' : World} (hb : Below w.heap.size w w') (v0 v1 v2 v3 v4 v5 v6 v7 : Value) : Below w.heap.size w ((((((((w'.setCell ⟨w.heap.size, 0, none⟩ v0).setCell ⟨w.heap.size, 1, none⟩ v1).setCell ⟨w.heap.size, 2, none⟩ v2).setCell ⟨w.heap.size, 3, none⟩ v3).setCell ⟨w.heap.size, 4, none⟩ v4).setCell ⟨w.heap.size, 5, none⟩ v5).setCell ⟨w.heap.size, 6, none⟩ v6).setCell ⟨w.heap.size, 7, none⟩ v7) :=
  (((((((hb.setCell (Nat.le_refl _) _).setCell (Nat.le_refl _) _).setCell (Nat.le_refl _) _).setCell (Nat.le_refl _) _).setCell (Nat.le_refl _) _).setCell (Nat.le_refl _) _).setCell (Nat.le_refl _) _).setCell (Nat.le_refl _) _
end Go.Proofs.Ytcbgjkedmboifab
