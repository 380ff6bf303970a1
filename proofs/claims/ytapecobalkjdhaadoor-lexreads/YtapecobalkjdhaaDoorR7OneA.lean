/-
  Layer 7, the document's own lex: a token at a place: what it needs of memory. No condition.
-/
import Derived.Test.YtapecobalkjdhaaDoorR7Text
import Derived.Test.YtapecobalkjdhaaDoorRParses
import Derived.Test.YtapecobalkjdhaaDoorRefs
import Derived.Test.YtapecobalkjdhaaDoorP7Tok
namespace Go.Proofs.YtapecobalkjdhaaDoor
open Go.ChangeShapes Go.WideShapes Go.ChangeAt Go.RowKit Go.Deep
set_option linter.unusedVariables false
set_option linter.unusedSimpArgs false
set_option maxHeartbeats 4000000
set_option maxRecDepth 20000

/-- What one tells. -/
def OneAs (T : Except Int (Tk × List UInt8)) (s : ByteArray) (i : Nat) (w : World) (e : Ending) (w' : World) : Prop :=
  match T with
  | .ok (t, r) => e = .returned (.tuple #[.agg #[.int .i64 t.kind, .int .i64 (i : Int), .int .i64 t.N, .string ⟨t.S.toArray⟩], .int .i64 ((s.size - i - r.length : Nat) : Int), .int .i64 0]) ∧ Below w.heap.size w w'
  | .error e' => (∃ a b c x, e = .returned (.tuple #[.agg #[.int .i64 a, .int .i64 b, .int .i64 c, .string x], .int .i64 0, .int .i64 e'])) ∧ Below w.heap.size w w'
theorem one_results {w : World} {p : Nat} {a b c : Int} {x : ByteArray} (h : TB w p a b c x) (tmps : Array Value) {v5 v6 : Value} (h4 : tmps.getD 4 undef = .pointer (some ⟨p, 0, none⟩)) (h5 : tmps.getD 5 undef = v5) (h6 : tmps.getD 6 undef = v6) : (results Tryd.f18 tmps).run Tryd.prog w = .ok (.tuple #[.agg #[.int .i64 a, .int .i64 b, .int .i64 c, .string x], v5, v6]) w := by
  have g4 : tmps[4]?.getD undef = .pointer (some ⟨p, 0, none⟩) := by simpa using h4
  have g5 : tmps[5]?.getD undef = v5 := by simpa using h5
  have g6 : tmps[6]?.getD undef = v6 := by simpa using h6
  unfold TB at h
  simp [results, Tryd.results18, g4, g5, g6, asAddr, run_loadVar_row w p 31 31 #[.int .i64 a, .int .i64 b, .int .i64 c, .string x] (0, 0) _ h Tryd.underlying31 rfl (by kernel_rfl)]
/-- The result's block is as it was, and nothing old has turned. -/
def Kept (w w6 : World) : Prop := Below w.heap.size w w6 ∧ TB w6 w.heap.size 0 0 0 ⟨#[]⟩
theorem Kept.set {w w6 : World} (h : Kept w w6) (o : Nat) (v : Value) : Kept w (w6.setCell ⟨w.heap.size + 1, o, none⟩ v) :=
  ⟨h.1.setCell (Nat.le_succ _) v, h.2.other (p := ⟨w.heap.size + 1, o, none⟩) (Nat.succ_ne_self _) v⟩
theorem Kept.fin {w w6 : World} (h : Kept w w6) (k i n : Int) (y : ByteArray) : TB (four w6 w.heap.size k i n y) w.heap.size k i n y ∧ Below w.heap.size w (four w6 w.heap.size k i n y) :=
  ⟨four_at h.2 k i n y, by unfold four; exact (((h.1.setCell (Nat.le_refl _) _).setCell (Nat.le_refl _) _).setCell (Nat.le_refl _) _).setCell (Nat.le_refl _) _⟩
theorem Kept.below {w w6 w7 : World} (h : Kept w w6) (b : Below w6.heap.size w6 w7) : Kept w w7 := ⟨h.1.trans (b.mono h.1.size), (b.block _ (lt_of_some h.2)).trans h.2⟩
theorem TB.below {w w' : World} {q : Nat} {a b c : Int} {x : ByteArray} (h : TB w q a b c x) (k : Below w.heap.size w w') : TB w' q a b c x := (k.block q (lt_of_some h)).trans h
theorem TB.set0 {w : World} {q : Nat} {a b c : Int} {x : ByteArray} (h : TB w q a b c x) (z : Int) : TB (w.setCell ⟨q, 0, none⟩ (.int .i64 z)) q z b c x := by
  unfold TB at h ⊢
  simp [World.setCell, Array.getElem?_modify, h]
theorem TB.set3 {w : World} {q : Nat} {a b c : Int} {x : ByteArray} (h : TB w q a b c x) (y : ByteArray) : TB (w.setCell ⟨q, 3, none⟩ (.string y)) q a b c y := by
  unfold TB at h ⊢
  simp [World.setCell, Array.getElem?_modify, h]
theorem one_start (w : World) (i : Nat) : Kept w ((w.alloc (.cells #[.int .i64 0, .int .i64 0, .int .i64 0, .string ⟨#[]⟩] 31)).alloc (.cells #[.int .i64 0, .int .i64 i, .int .i64 0, .string ⟨#[]⟩] 31)) ∧ TB ((w.alloc (.cells #[.int .i64 0, .int .i64 0, .int .i64 0, .string ⟨#[]⟩] 31)).alloc (.cells #[.int .i64 0, .int .i64 i, .int .i64 0, .string ⟨#[]⟩] 31)) (w.heap.size + 1) 0 i 0 ⟨#[]⟩ := by
  refine ⟨⟨((Below.refl _ _).alloc (Nat.le_refl _) _).alloc (by rw [nblk_alloc]; omega) _, ?_⟩, ?_⟩
  · show _ = _
    rw [blk_alloc_lt _ _ _ (by rw [nblk_alloc]; omega)]
    exact blk_alloc_new _ _
  · show _ = _
    rw [← nblk_alloc w (.cells #[.int .i64 0, .int .i64 0, .int .i64 0, .string ⟨#[]⟩] 31)]
    exact blk_alloc_new _ _
theorem one_slice {s : ByteArray} {i n : Nat} {NM : List UInt8} (n1 : i + n ≤ s.size) (h : (suf s i).take n = NM) (w' : World) : Sem.run Tryd.prog (Instr.slice 9 (.string s) (some (.int .i64 (i : Int))) (some (.int .i64 ((i : Int) + (n : Int)))) none) w' = .ok (.string ⟨NM.toArray⟩) w' := by
  rw [run_slice_string w' 9 s .i64 .i64 (i : Int) ((i : Int) + (n : Int)) Tryd.underlying9 (by omega) (by omega) (by omega), ← h]
  have e2 : s.extract (i : Int).toNat ((i : Int) + (n : Int)).toNat = s.extract i (i + n) := rfl
  rw [e2, ext_suf (by omega) n1, show i + n - i = n by omega]
theorem one_next {s : ByteArray} {i n : Nat} {d : UInt8} {NM DR : List UInt8} (hlt : i + n < s.size) (hd : s[i + n] = d) (n3 : (suf s i).take n ++ (suf s (i + n)).takeWhile nameB = NM) (n4 : (suf s (i + n)).dropWhile nameB = DR) (hn : nameB d = true) : (suf s i).take (n + 1) ++ (suf s (i + (n + 1))).takeWhile nameB = NM ∧ (suf s (i + (n + 1))).dropWhile nameB = DR := by
  have ed := suf_cons s hlt
  rw [hd] at ed
  have ET := take_next (s := s) (i := i) (k := i + n) (by omega) hlt
  rw [hd, show i + n + 1 - i = n + 1 by omega, show i + n - i = n by omega] at ET
  rw [ed, List.takeWhile_cons, hn] at n3
  rw [ed, List.dropWhile_cons, hn] at n4
  rw [ET]
  exact ⟨by simpa [Nat.add_assoc] using n3, by simpa [Nat.add_assoc] using n4⟩
theorem one_stop {s : ByteArray} {i n : Nat} {d : UInt8} {NM DR : List UInt8} (hlt : i + n < s.size) (hd : s[i + n] = d) (n3 : (suf s i).take n ++ (suf s (i + n)).takeWhile nameB = NM) (n4 : (suf s (i + n)).dropWhile nameB = DR) (hn : nameB d = false) : (suf s i).take n = NM ∧ suf s (i + n) = DR := by
  have ed := suf_cons s hlt
  rw [hd] at ed
  rw [ed, List.takeWhile_cons, hn] at n3
  rw [ed, List.dropWhile_cons, hn] at n4
  exact ⟨by simpa using n3, by rw [ed]; simpa using n4⟩
theorem one_out {s : ByteArray} {i n : Nat} {NM DR : List UInt8} (hlt : ¬ i + n < s.size) (n3 : (suf s i).take n ++ (suf s (i + n)).takeWhile nameB = NM) (n4 : (suf s (i + n)).dropWhile nameB = DR) : (suf s i).take n = NM ∧ suf s (i + n) = DR := by
  rw [suf_end hlt] at n3 n4 ⊢
  exact ⟨by simpa using n3, by simpa using n4⟩
theorem great_small {c : UInt8} (h : greatB c = true) : smallB c = false := by
  revert h
  refine all_u8 (p := fun c => greatB c = true → smallB c = false) ?_ c
  decide +kernel
end Go.Proofs.YtapecobalkjdhaaDoor
