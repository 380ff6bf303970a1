/-
  Layer 7, the document's own lex: a token at a place, whatever stands there. Condition: the place is within the source.
-/
import Derived.Test.YtapecobalkjdhaaDoorR7OneN
import Derived.Test.YtapecobalkjdhaaDoorR7OneD
import Derived.Test.YtapecobalkjdhaaDoorR7OneT
import Derived.Test.YtapecobalkjdhaaDoorR7OneS
namespace Go.Proofs.YtapecobalkjdhaaDoor
open Go.ChangeShapes Go.WideShapes Go.ChangeAt Go.RowKit Go.Deep

theorem one_as (s : ByteArray) (i : Nat) (w : World) (hi : i < s.size) (hs : s.size ≤ 900000) : Calls Tryd.prog 18 #[.string s, .int .i64 (i : Int)] w fun e w' => OneAs (tokAt docW (suf s i)) s i w e w' := by
  obtain ⟨c, hc⟩ : ∃ c, s[i] = c := ⟨_, rfl⟩
  by_cases hsm : (smallB c || greatB c) = true
  · cases hg : greatB c with
    | true => exact one_great s i w hi hs hc hsm hg
    | false =>
      cases hw : wordsL.contains ((suf s i).takeWhile nameB) with
      | true => exact one_word s i w hi hs hc hsm hg hw
      | false =>
        cases h95 : ((suf s i).takeWhile nameB == [95]) with
        | true => exact one_under s i w hi hs hc hsm hg hw h95
        | false => exact one_name s i w hi hs hc hsm hg hw h95
  · have hsg : smallB c = false ∧ greatB c = false := by simpa using hsm
    cases hd : digitB c with
    | true =>
      rcases parE_cases ⟨((suf s i).takeWhile nameB).toArray⟩ with h | h | h
      · exact one_num s i w hi hs hc hsg hd h
      · exact one_many s i w hi hs hc hsg hd h
      · exact one_odd s i w hi hs hc hsg hd h
    | false =>
      by_cases h34 : c = 34
      · cases hx : txtB (suf s (i + 1)) with
        | none => exact one_notext s i w hi hs hc h34 hx
        | some p =>
          obtain ⟨x, r⟩ := p
          exact one_text s i w hi hs hc h34 hx
      · exact one_sign s i w hi hs hc hsg hd h34
end Go.Proofs.YtapecobalkjdhaaDoor
