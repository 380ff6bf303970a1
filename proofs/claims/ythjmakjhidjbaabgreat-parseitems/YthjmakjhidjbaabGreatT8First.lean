/-
 Layer 8: ParseFirst, walked: it returns true. No condition but the strings' sizes.
-/
import Derived.Test.YthjmakjhidjbaabGreatX8First
namespace Go.Proofs.YthjmakjhidjbaabGreat
open Go.ChangeShapes Go.WideShapes Go.ChangeAt Go.RowKit Go.Deep
set_option linter.unusedVariables false
set_option linter.unusedSimpArgs false
set_option maxHeartbeats 2000000
set_option maxRecDepth 20000

/-- What is wrong, and where: numbers. -/
def errE (r : Except (Int × Int) (List Tr)) : Int := match r with | .error (e, _) => e | .ok _ => 0
def errP (r : Except (Int × Int) (List Tr)) : Int := match r with | .error (_, p) => p | .ok _ => 0
theorem parse_some (s : ByteArray) (w : World) (hz : s.size ≤ maxLen) : Calls Tryz.prog 6 #[.string s] w fun e w' => ∃ (k : Int) (ao : Option Addr) (n cp : Nat), e = .returned (.tuple #[.agg #[.int .i64 k, .int .i64 0, .int .i64 0, .string ⟨#[]⟩, .slice ao n cp], .int .i64 (errE (parseR s)), .int .i64 (errP (parseR s))]) ∧ Below w.heap.size w w' := by
 cases h : parseR s with
 | ok L => exact (parse_ok w h hz).mono (fun e w' ⟨ao, cp, h1, _, hb⟩ => ⟨211, ao, _, cp, h1, hb⟩)
 | error ep => exact (parse_err w h hz).mono (fun e w' ⟨h1, hb⟩ => ⟨0, none, 0, 0, h1, hb⟩)
def lexE (s : ByteArray) : Int := match lexR s with | .error (e, _) => e | .ok _ => 0
theorem lex_some (s : ByteArray) (w : World) (hz : s.size ≤ maxLen) : Calls Tryz.prog 7 #[.string s] w fun e w' => ∃ ao n c k, e = .returned (.tuple #[.slice ao n c, .int .i64 (lexE s), .int .i64 k]) ∧ Below w.heap.size w w' := by
 unfold lexE
 cases h : lexR s with
 | ok ts => exact (lexP_ok w h).mono (fun e w' ⟨ao, c, h1, _, _, hb⟩ => ⟨ao, _, c, _, h1, hb⟩)
 | error ek => exact (lexP_err w h hz).mono (fun e w' ⟨h1, hb⟩ => ⟨none, 0, 0, _, h1, hb⟩)
theorem sp_data (a b : ByteArray) : (a ++ ⟨#[32]⟩ ++ b).data.toList = a.data.toList ++ 32 :: b.data.toList := by
 rw [ByteArray.data_append, ByteArray.data_append]
 simp
theorem sp_size (a b : ByteArray) : (a ++ ⟨#[32]⟩ ++ b).size = a.size + 1 + b.size := by
 rw [← len_data, sp_data, List.length_append, List.length_cons, len_data, len_data]; omega
end Go.Proofs.YthjmakjhidjbaabGreat
