/-
  No cell of these rows narrows 'for every input' (looked for: loops, veiled, ifaces, maps, wideKeys, modest, calm, conditions, laid).
  DERIVED. THE GIVEN ROWS OF THIS SEAT. 5 by the template 'for every input the law returns true; each argument reads behind the call as it read before'; 0 by the template 'total and deterministic' (their statements: YtlhcleocdlnbdaaTotals.lean).
  GIVEN WITH THE SEED: the statements are not yours to turn. If you find one false, say at which input.
  Laid BY PROGRAM, IN A SANDBOX (cutbox-rows.mjs): the forced cells as the released guide's own fill.sh prints them over the translation bbc0c866377680af… (all of the seat's roots in one cut). By AI agents, Wed Nov 11 2026. No macro, syntax, notation, axiom, sorry.
-/
import Derived.Test.YtlhcleocdlnbdaaChecked
import GoSem.Claim
import GoSem.ClaimJoined
import GoSem.ClaimMapViews
import Derived.JoinedTies
import Derived.KernelRfl
namespace Go.Proofs.Ytlhcleocdlnbdaa
/- THE CELL 'sum', in the pinned program and in every row, IS THE sha256 OF THE DUMP (.gsa) THAT YtlhcleocdlnbdaaProg.lean LOADS. Nothing in Lean hashes anything: it is a label: what it is worth is what the hold of that sum in a sandbox is worth. -/
noncomputable def Try.pinned : Pinned := { name := "ytlhcleocdlnbdaa", sum := "bbc0c866377680affa02de1835623a89c44e929c1d8c69118bdb318acf3bae99", checked := Try.checked }
namespace Rows
def none {H : Type} : Left H := { results := [], args := [] }

/-- 'grapnellaw05.TextLays': WHATEVER THE INPUT: true; the input reads as it did. -/
def textLaysSpec : ChangeSpec := { name := "textLays", fn := fun _ => fun
  | [d1, d2, d3] => { results := [.lit (.bool true)], args := [d1, d2, d3] }
  | _ => none }
def textLaysRow : OpenClaim := { program := "ytlhcleocdlnbdaa", sum := "bbc0c866377680affa02de1835623a89c44e929c1d8c69118bdb318acf3bae99", func := "grapnel/grapnellaw05.TextLays", spec := "textLays", unfollowed := true, recurses := true, apart := false }
def TextLaysSaid : Prop := textLaysRow.holds Try.pinned (OpenSpec.ofChange textLaysSpec)

/-- ITS FALSE NEIGHBOUR: 'it returns false'. Refute it at one input. -/
def textLaysWrong : ChangeSpec := { name := "textLays", fn := fun _ => fun
  | [d1, d2, d3] => { results := [.lit (.bool false)], args := [d1, d2, d3] }
  | _ => none }
def TextLaysWrongFalsely : Prop := textLaysRow.holds Try.pinned (OpenSpec.ofChange textLaysWrong)

/-- 'grapnellaw05.TextReads': WHATEVER THE INPUT: true; the input reads as it did. -/
def textReadsSpec : ChangeSpec := { name := "textReads", fn := fun _ => fun
  | [d1, d2, d3, d4, d5] => { results := [.lit (.bool true)], args := [d1, d2, d3, d4, d5] }
  | _ => none }
def textReadsRow : OpenClaim := { program := "ytlhcleocdlnbdaa", sum := "bbc0c866377680affa02de1835623a89c44e929c1d8c69118bdb318acf3bae99", func := "grapnel/grapnellaw05.TextReads", spec := "textReads", unfollowed := true, recurses := true, apart := false }
def TextReadsSaid : Prop := textReadsRow.holds Try.pinned (OpenSpec.ofChange textReadsSpec)

/-- ITS FALSE NEIGHBOUR: 'it returns false'. Refute it at one input. -/
def textReadsWrong : ChangeSpec := { name := "textReads", fn := fun _ => fun
  | [d1, d2, d3, d4, d5] => { results := [.lit (.bool false)], args := [d1, d2, d3, d4, d5] }
  | _ => none }
def TextReadsWrongFalsely : Prop := textReadsRow.holds Try.pinned (OpenSpec.ofChange textReadsWrong)

/-- 'grapnellaw05.TextKeeps': WHATEVER THE INPUT: true; the input reads as it did. -/
def textKeepsSpec : ChangeSpec := { name := "textKeeps", fn := fun _ => fun
  | [d1, d2, d3, d4] => { results := [.lit (.bool true)], args := [d1, d2, d3, d4] }
  | _ => none }
def textKeepsRow : OpenClaim := { program := "ytlhcleocdlnbdaa", sum := "bbc0c866377680affa02de1835623a89c44e929c1d8c69118bdb318acf3bae99", func := "grapnel/grapnellaw05.TextKeeps", spec := "textKeeps", unfollowed := true, recurses := true, apart := false }
def TextKeepsSaid : Prop := textKeepsRow.holds Try.pinned (OpenSpec.ofChange textKeepsSpec)

/-- ITS FALSE NEIGHBOUR: 'it returns false'. Refute it at one input. -/
def textKeepsWrong : ChangeSpec := { name := "textKeeps", fn := fun _ => fun
  | [d1, d2, d3, d4] => { results := [.lit (.bool false)], args := [d1, d2, d3, d4] }
  | _ => none }
def TextKeepsWrongFalsely : Prop := textKeepsRow.holds Try.pinned (OpenSpec.ofChange textKeepsWrong)

/-- 'grapnellaw05.TextApart': WHATEVER THE INPUT: true; the input reads as it did. -/
def textApartSpec : ChangeSpec := { name := "textApart", fn := fun _ => fun
  | [d1, d2] => { results := [.lit (.bool true)], args := [d1, d2] }
  | _ => none }
def textApartRow : OpenClaim := { program := "ytlhcleocdlnbdaa", sum := "bbc0c866377680affa02de1835623a89c44e929c1d8c69118bdb318acf3bae99", func := "grapnel/grapnellaw05.TextApart", spec := "textApart", unfollowed := true, recurses := true, apart := false }
def TextApartSaid : Prop := textApartRow.holds Try.pinned (OpenSpec.ofChange textApartSpec)

/-- ITS FALSE NEIGHBOUR: 'it returns false'. Refute it at one input. -/
def textApartWrong : ChangeSpec := { name := "textApart", fn := fun _ => fun
  | [d1, d2] => { results := [.lit (.bool false)], args := [d1, d2] }
  | _ => none }
def TextApartWrongFalsely : Prop := textApartRow.holds Try.pinned (OpenSpec.ofChange textApartWrong)

/-- 'grapnellaw05.TextParts': WHATEVER THE INPUT: true; the input reads as it did. -/
def textPartsSpec : ChangeSpec := { name := "textParts", fn := fun _ => fun
  | [d1, d2] => { results := [.lit (.bool true)], args := [d1, d2] }
  | _ => none }
def textPartsRow : OpenClaim := { program := "ytlhcleocdlnbdaa", sum := "bbc0c866377680affa02de1835623a89c44e929c1d8c69118bdb318acf3bae99", func := "grapnel/grapnellaw05.TextParts", spec := "textParts", unfollowed := true, recurses := true, apart := false }
def TextPartsSaid : Prop := textPartsRow.holds Try.pinned (OpenSpec.ofChange textPartsSpec)

/-- ITS FALSE NEIGHBOUR: 'it returns false'. Refute it at one input. -/
def textPartsWrong : ChangeSpec := { name := "textParts", fn := fun _ => fun
  | [d1, d2] => { results := [.lit (.bool false)], args := [d1, d2] }
  | _ => none }
def TextPartsWrongFalsely : Prop := textPartsRow.holds Try.pinned (OpenSpec.ofChange textPartsWrong)

/- THE SECOND FORM. 'bulk': how many values and letters a reading holds, each counted each time it is reached (what is shared counts as often as it is met; a slice's spare places count too). A statement '..UptoSaid' is the law's where the arguments, and the package variables that the reading takes, are together of bulk at most 1048576: NARROWER than '..Said'. Prove '..Said' where nothing that the law and all that it calls make is longer than what came in: it says more and counts as full. Else prove '..UptoSaid'. A law counts once. -/
mutual
def uptoBulk {H : Type} : DataW H → Nat
  | .lit (.string bytes) => bytes.length + 1
  | .lit _ => 1
  | .nil => 1
  | .ptr d => uptoBulk d + 1
  | .slice elems spare => uptoBulkAll elems + uptoBulkAll spare + 1
  | .agg parts => uptoBulkAll parts + 1
  | .iface _ d => uptoBulk d + 1
  | .map entries => uptoBulkEntries entries + 1
  | .held _ => 1
def uptoBulkAll {H : Type} : List (DataW H) → Nat
  | [] => 0
  | d :: r => uptoBulk d + uptoBulkAll r
def uptoBulkEntries {H : Type} : List (Lit × DataW H) → Nat
  | [] => 0
  | x :: r => uptoBulkEntry x + uptoBulkEntries r
def uptoBulkEntry {H : Type} : Lit × DataW H → Nat
  | (.string bytes, d) => bytes.length + uptoBulk d + 1
  | (_, d) => uptoBulk d + 1
 end
def uptoSmall : (H : Type) → List (DataW H) → Bool := fun _ ds => decide (uptoBulkAll ds ≤ 1048576)
def OpenSpec.upto (s : _root_.Go.ChangeSpec) : _root_.Go.OpenSpec := { _root_.Go.OpenSpec.ofChange s with cond := some uptoSmall }

/-- 'grapnellaw05.TextLays', WHERE WHAT IT READS IS OF BULK AT MOST 1048576: true; the input reads as it did. -/
def textLaysUptoRow : OpenClaim := { program := "ytlhcleocdlnbdaa", sum := "bbc0c866377680affa02de1835623a89c44e929c1d8c69118bdb318acf3bae99", func := "grapnel/grapnellaw05.TextLays", spec := "textLays", unfollowed := true, recurses := true, apart := false, narrowed := true }
def TextLaysUptoSaid : Prop := textLaysUptoRow.holds Try.pinned (OpenSpec.upto textLaysSpec)

/-- 'grapnellaw05.TextReads', WHERE WHAT IT READS IS OF BULK AT MOST 1048576: true; the input reads as it did. -/
def textReadsUptoRow : OpenClaim := { program := "ytlhcleocdlnbdaa", sum := "bbc0c866377680affa02de1835623a89c44e929c1d8c69118bdb318acf3bae99", func := "grapnel/grapnellaw05.TextReads", spec := "textReads", unfollowed := true, recurses := true, apart := false, narrowed := true }
def TextReadsUptoSaid : Prop := textReadsUptoRow.holds Try.pinned (OpenSpec.upto textReadsSpec)

/-- 'grapnellaw05.TextKeeps', WHERE WHAT IT READS IS OF BULK AT MOST 1048576: true; the input reads as it did. -/
def textKeepsUptoRow : OpenClaim := { program := "ytlhcleocdlnbdaa", sum := "bbc0c866377680affa02de1835623a89c44e929c1d8c69118bdb318acf3bae99", func := "grapnel/grapnellaw05.TextKeeps", spec := "textKeeps", unfollowed := true, recurses := true, apart := false, narrowed := true }
def TextKeepsUptoSaid : Prop := textKeepsUptoRow.holds Try.pinned (OpenSpec.upto textKeepsSpec)

/-- 'grapnellaw05.TextApart', WHERE WHAT IT READS IS OF BULK AT MOST 1048576: true; the input reads as it did. -/
def textApartUptoRow : OpenClaim := { program := "ytlhcleocdlnbdaa", sum := "bbc0c866377680affa02de1835623a89c44e929c1d8c69118bdb318acf3bae99", func := "grapnel/grapnellaw05.TextApart", spec := "textApart", unfollowed := true, recurses := true, apart := false, narrowed := true }
def TextApartUptoSaid : Prop := textApartUptoRow.holds Try.pinned (OpenSpec.upto textApartSpec)

/-- 'grapnellaw05.TextParts', WHERE WHAT IT READS IS OF BULK AT MOST 1048576: true; the input reads as it did. -/
def textPartsUptoRow : OpenClaim := { program := "ytlhcleocdlnbdaa", sum := "bbc0c866377680affa02de1835623a89c44e929c1d8c69118bdb318acf3bae99", func := "grapnel/grapnellaw05.TextParts", spec := "textParts", unfollowed := true, recurses := true, apart := false, narrowed := true }
def TextPartsUptoSaid : Prop := textPartsUptoRow.holds Try.pinned (OpenSpec.upto textPartsSpec)

end Rows
end Go.Proofs.Ytlhcleocdlnbdaa
