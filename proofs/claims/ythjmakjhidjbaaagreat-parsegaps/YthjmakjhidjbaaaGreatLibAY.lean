/-
  Several small texts in one; each tells at its head what it proves, and on what condition.
-/
import Derived.Test.YthjmakjhidjbaaaGreatLibAX

/-
 Layer 7, plain: what the statements ask of the tokens that Lex tells. No program is named.
-/
namespace Go.Proofs.YthjmakjhidjbaaaGreat
set_option linter.unusedVariables false
set_option maxHeartbeats 1000000

theorem suf_zero (s : ByteArray) : suf s 0 = s.data.toList := rfl
theorem lexR_of {s : ByteArray} {ts : List (Tk × Nat)} (hs : s.size ≤ 4096) (h : Lexes docW (suf s 0) ts) : lexR s = .ok ts := by
 unfold lexR
 rw [if_neg (by omega)]
 exact (lexC_lexes docSigns).2 h
theorem lexR_lexes {s : ByteArray} {ts : List (Tk × Nat)} (h : lexR s = .ok ts) : s.size ≤ 4096 ∧ Lexes docW (suf s 0) ts := ⟨(lexR_ok h).1, (lexC_lexes docSigns).1 (lexR_ok h).2⟩
end Go.Proofs.YthjmakjhidjbaaaGreat

/-
 Layer 7, plain: sources that are joined, with a comment more, made of their tokens' texts. No program is named.
-/
namespace Go.Proofs.YthjmakjhidjbaaaGreat
set_option linter.unusedVariables false
set_option maxHeartbeats 1000000

/-- A token further on. -/
def TV.on (t : TV) (d : Int) : TV := ⟨t.kind, t.pl + d, t.N, t.S⟩
theorem len_data (s : ByteArray) : s.data.toList.length = s.size := rfl
theorem lexes_bound {s : ByteArray} {ts : List (Tk × Nat)} (h : Lexes docW (suf s 0) ts) {p : Tk × Nat} (hp : p ∈ ts) : 0 < p.2 ∧ p.2 ≤ s.size := by
 have := lexes_le docSigns h p hp
 rw [suf_len] at this
 simpa using this
theorem tvs_on {n m d : Nat} (e : m = n + d) {ts : List (Tk × Nat)} (h : ∀ p, p ∈ ts → p.2 ≤ n) : tvs m ts = (tvs n ts).map (fun t => t.on (d : Int)) := by
 unfold tvs
 rw [List.map_map]
 refine List.map_congr_left (fun p hp => ?_)
 have := h p hp
 simp only [Function.comp, TV.on]
 congr 1
 omega
theorem tvs_up {n m d : Nat} (e : m = n + d) {ts : List (Tk × Nat)} (h : ∀ p, p ∈ ts → p.2 ≤ n) : tvs m (ts.map (fun p => (p.1, p.2 + d))) = tvs n ts := by
 unfold tvs
 rw [List.map_map]
 refine List.map_congr_left (fun p hp => ?_)
 have := h p hp
 simp only [Function.comp]
 rw [show m - (p.2 + d) = n - p.2 by omega]
theorem join_law {a b c : ByteArray} {ts us : List (Tk × Nat)} (ha : lexR a = .ok ts) (hb : lexR b = .ok us) (hc : c.data.toList = a.data.toList ++ 9 :: b.data.toList) :
  c.size = a.size + 1 + b.size ∧ (4096 < c.size → lexR c = .error (4, c.size)) ∧ (c.size ≤ 4096 → ∃ vs, lexR c = .ok vs ∧ toks c vs = tvs a.size ts ++ (toks b us).map (fun t => t.on ((a.size + 1 : Nat) : Int))) := by
 obtain ⟨_, hla⟩ := lexR_lexes ha
 obtain ⟨_, hlb⟩ := lexR_lexes hb
 have hsz : c.size = a.size + 1 + b.size := by
  rw [← len_data c, hc, List.length_append, List.length_cons, len_data, len_data]
  omega
 refine ⟨hsz, fun h => by unfold lexR; rw [if_pos h], fun h => ?_⟩
 have hj := lexes_join docSigns hla (c := 9) rfl hlb
 have hlb2 : (suf b 0).length = b.size := by rw [suf_len]; omega
 rw [hlb2] at hj
 refine ⟨_, lexR_of h (by rw [suf_zero c, hc]; exact hj), ?_⟩
 unfold toks
 rw [tvs, List.map_append, ← tvs, ← tvs, tvs_up (n := a.size) (d := b.size + 1) (by omega) (fun p hp => (lexes_bound hla hp).2), tvs_on (n := b.size) (d := a.size + 1) (by omega) (fun p hp => (lexes_bound hlb hp).2), List.map_append, List.append_assoc]
 congr 2
 simp only [List.map_cons, List.map_nil]
 congr 1
 unfold endV TV.on
 congr 1
 simp
 omega
end Go.Proofs.YthjmakjhidjbaaaGreat
