/-
  Layer 5: what the document's own Read tells of a word. Condition: the document's own arena lies in memory (Both).
-/
import Derived.Test.YtcbgjkedmboifabR5Fields
import Derived.Test.YtcbgjkedmboifabLibB
namespace Go.Proofs.Ytcbgjkedmboifab
open Go.ChangeShapes Go.WideShapes Go.ChangeAt Go.RowKit Go.Deep
set_option linter.unusedVariables false
set_option maxHeartbeats 1000000

/-- What is left of a number behind its j lowest bytes. -/
def quoN : Nat → Int → Int
  | 0, x => x
  | j + 1, x => quoN j x / 256
theorem quoN_in : ∀ (j : Nat) (x : Int), quoN (j + 1) x = quoN j (x / 256)
  | 0, x => rfl
  | j + 1, x => by show quoN (j + 1) x / 256 = quoN j (x / 256) / 256; rw [quoN_in j x]
theorem quoN_rng : ∀ (j : Nat) (x : Int), 0 ≤ x → x ≤ 18446744073709551615 → 0 ≤ quoN j x ∧ quoN j x ≤ 18446744073709551615
  | 0, x, h0, h1 => ⟨h0, h1⟩
  | j + 1, x, h0, h1 => by obtain ⟨a, b⟩ := quoN_rng j x h0 h1; show 0 ≤ quoN j x / 256 ∧ quoN j x / 256 ≤ _; omega
theorem bytesN_snoc : ∀ (j : Nat) (x : Int), bytesN (j + 1) x = bytesN j x ++ [UInt8.ofNat (quoN j x % 256).toNat]
  | 0, x => rfl
  | j + 1, x => by
    show UInt8.ofNat (x % 256).toNat :: bytesN (j + 1) (x / 256) = (UInt8.ofNat (x % 256).toNat :: bytesN j (x / 256)) ++ _
    rw [bytesN_snoc j (x / 256), quoN_in]; rfl
theorem bytesF_append : ∀ (F G : List Int), bytesF (F ++ G) = bytesF F ++ bytesF G
  | [], G => rfl
  | x :: F, G => by show bytesN 8 x ++ bytesF (F ++ G) = (bytesN 8 x ++ bytesF F) ++ bytesF G; rw [bytesF_append F G, List.append_assoc]
theorem bytesF_snoc {F : List Int} {k : Nat} (hk : k < F.length) : bytesF (F.take (k + 1)) = bytesF (F.take k) ++ bytesN 8 (F.getD k 0) := by
  rw [List.take_add_one, bytesF_append, List.getD_eq_getElem?_getD, List.getElem?_eq_getElem hk]
  show _ ++ (bytesN 8 F[k] ++ []) = _
  rw [List.append_nil]; rfl
/-- Which text a block holds. -/
def textF (b : Blk) : Option (List UInt8) := if b.tag = 202 then readT b.F else none
def textOut (o : Option (List UInt8)) : Value := .tuple #[.string ⟨(o.getD []).toArray⟩, .int .i64 (if o.isSome then 0 else 5)]
variable {w : World} {p : Pl} {s : St} {rb : Nat} {r : RS} {a : Option Addr} {cap : Nat} {V : Nat → Value}
/-- What Read tells of a block. -/
def ReadAs (o : Option (List UInt8)) (w : World) (e : Ending) (w' : World) : Prop := e = .returned (textOut o) ∧ Below w.heap.size w w'
/-- A block is copied into a new place of its own. -/
theorem copied {w w1 : World} {m : Nat} {o : Obj} (hw : w1 = w.drewN m) : Below w.heap.size w (w1.alloc o) := by
  have h0 : Below w.heap.size w w1 := by subst hw; exact ⟨rfl, rfl, rfl, Nat.le_refl _, fun _ _ => rfl⟩
  exact h0.alloc h0.size _
theorem copied_cell {w1 : World} {x y v : Value} {t : TypeId} : (w1.alloc (.cells #[x, y, v] t)).cell? ⟨w1.heap.size, 2, none⟩ = some v := by
  have h := blk_alloc_new w1 (.cells #[x, y, v] t)
  simp only [World.cell?, h]
  rfl
theorem empty_byte {w : World} {B g : Nat} (h : w.heap[g]? = some (.cells #[] 5 (0, 0))) (hB : B ≤ g) : BR w B (.slice (some ⟨g, 0, none⟩) 0 0) [] := ⟨g, 0, #[], (0, 0), rfl, hB, h, Or.inl rfl, Nat.le_refl _, Nat.zero_le _, rfl, rfl⟩
theorem rf_own {v : Value} {B : Nat} {F : List Int} (h : FieldOf w B v F) (hF : F.length ≠ 0) : ∃ gf c, v = .slice (some ⟨gf, 0, none⟩) F.length c ∧ Own w gf F.length (fun i => F.getD i 0) := by
  obtain ⟨a, c, rfl, hn, hc⟩ := h
  cases a with
  | none => exact absurd (hn rfl).1 hF
  | some ad => obtain ⟨g, rfl, _, ho⟩ := hc ad rfl; exact ⟨g, c, rfl, ho⟩
/-- Where the loop over the fields is: k fields' bytes stand. -/
def BytesAt (B : Nat) (F : List Int) (w2 : World) (av kv : Value) (wr : World) : Prop := ∃ k : Nat, k ≤ F.length ∧ kv = .int .i64 k ∧ BR wr B av (bytesF (F.take k)) ∧ Below B w2 wr
/-- Where the loop over a field's bytes is: j of them stand. -/
def BytesIn (B : Nat) (l : List UInt8) (x : Int) (w2 : World) (av xv jv : Value) (wr : World) : Prop := ∃ j : Nat, j ≤ 8 ∧ jv = .int .i64 j ∧ xv = .int .u64 (quoN j x) ∧ BR wr B av (l ++ bytesN j x) ∧ Below B w2 wr
theorem rfields_list (l : List UInt8) (m : Nat) (w : World) (hl : l.length ≤ 40000) (hm : l.length / 8 + 1 = m) : Calls Try.prog 16 #[.string ⟨l.toArray⟩] w fun e w' => TextRow l m w e w' := by
  subst hm
  exact rfields_any ⟨l.toArray⟩ w hl
/-- Where the last loop is: k fields are as they should be. -/
def SameTill (G F : List Int) (w5 : World) (kv : Value) (wr : World) : Prop := ∃ k m : Nat, k ≤ F.length ∧ kv = .int .i64 k ∧ (∀ i, i < k → G.getD i 0 = F.getD i 0) ∧ wr = w5.drewN m
theorem list_same {F G : List Int} (hl : G.length = F.length) (h : ∀ i, i < F.length → G.getD i 0 = F.getD i 0) : G = F := by
  refine List.ext_getElem hl (fun i h1 h2 => ?_)
  have := h i h2
  simpa [List.getD_eq_getElem?_getD, h1, h2] using this
end Go.Proofs.Ytcbgjkedmboifab
