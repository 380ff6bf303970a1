/-
  NARROWER THAN 'FOR EVERY INPUT', by the rows' own cells (each row's printed sentence says how): OrderRoom: loops · OrderParts: loops · OrderMoved: loops.
  DERIVED. THE GIVEN ROWS OF THIS SEAT. 3 by the template 'for every input the law returns true; each argument reads behind the call as it read before'; 0 by the template 'total and deterministic' (their statements: YtcbgjkedmboifabTotals.lean).
  GIVEN WITH THE SEED: the statements are not yours to turn. If you find one false, say at which input.
  Laid BY PROGRAM, IN A SANDBOX (cutbox-rows.mjs): the forced cells as the released guide's own fill.sh prints them over the translation 6d7502317e7eaacc… (all of the seat's roots in one cut). By AI agents, Wed Nov 11 2026. No macro, syntax, notation, axiom, sorry.
-/
import Derived.Test.YtcbgjkedmboifabChecked
import GoSem.Claim
import GoSem.ClaimJoined
import GoSem.ClaimMapViews
import Derived.JoinedTies
import Derived.KernelRfl
namespace Go.Proofs.Ytcbgjkedmboifab
/- THE CELL 'sum', in the pinned program and in every row, IS THE sha256 OF THE DUMP (.gsa) THAT YtcbgjkedmboifabProg.lean LOADS. Nothing in Lean hashes anything: it is a label: what it is worth is what the hold of that sum in a sandbox is worth. -/
noncomputable def Try.pinned : Pinned := { name := "ytcbgjkedmboifab", sum := "6d7502317e7eaacccc1989e8a448c85fd58343c21dca23bae3bb819585e09ba7", checked := Try.checked }
namespace Rows
def none {H : Type} : Left H := { results := [], args := [] }

/-- 'grapnellaw06.OrderRoom': WHATEVER THE INPUT: true; the input reads as it did. -/
def orderRoomSpec : ChangeSpec := { name := "orderRoom", fn := fun _ => fun
  | [d1, d2, d3, d4, d5] => { results := [.lit (.bool true)], args := [d1, d2, d3, d4, d5] }
  | _ => none }
def orderRoomRow : OpenClaim := { program := "ytcbgjkedmboifab", sum := "6d7502317e7eaacccc1989e8a448c85fd58343c21dca23bae3bb819585e09ba7", func := "grapnel/grapnellaw06.OrderRoom", spec := "orderRoom", recurses := true, loops := true, apart := false }
def OrderRoomSaid : Prop := orderRoomRow.holds Try.pinned (OpenSpec.ofChange orderRoomSpec)

/-- ITS FALSE NEIGHBOUR: 'it returns false'. Refute it at one input. -/
def orderRoomWrong : ChangeSpec := { name := "orderRoom", fn := fun _ => fun
  | [d1, d2, d3, d4, d5] => { results := [.lit (.bool false)], args := [d1, d2, d3, d4, d5] }
  | _ => none }
def OrderRoomWrongFalsely : Prop := orderRoomRow.holds Try.pinned (OpenSpec.ofChange orderRoomWrong)

/-- 'grapnellaw06.OrderParts': WHATEVER THE INPUT: true; the input reads as it did. -/
def orderPartsSpec : ChangeSpec := { name := "orderParts", fn := fun _ => fun
  | [d1, d2] => { results := [.lit (.bool true)], args := [d1, d2] }
  | _ => none }
def orderPartsRow : OpenClaim := { program := "ytcbgjkedmboifab", sum := "6d7502317e7eaacccc1989e8a448c85fd58343c21dca23bae3bb819585e09ba7", func := "grapnel/grapnellaw06.OrderParts", spec := "orderParts", recurses := true, loops := true, apart := false }
def OrderPartsSaid : Prop := orderPartsRow.holds Try.pinned (OpenSpec.ofChange orderPartsSpec)

/-- ITS FALSE NEIGHBOUR: 'it returns false'. Refute it at one input. -/
def orderPartsWrong : ChangeSpec := { name := "orderParts", fn := fun _ => fun
  | [d1, d2] => { results := [.lit (.bool false)], args := [d1, d2] }
  | _ => none }
def OrderPartsWrongFalsely : Prop := orderPartsRow.holds Try.pinned (OpenSpec.ofChange orderPartsWrong)

/-- 'grapnellaw06.OrderMoved': WHATEVER THE INPUT: true; the input reads as it did. -/
def orderMovedSpec : ChangeSpec := { name := "orderMoved", fn := fun _ => fun
  | [d1, d2] => { results := [.lit (.bool true)], args := [d1, d2] }
  | _ => none }
def orderMovedRow : OpenClaim := { program := "ytcbgjkedmboifab", sum := "6d7502317e7eaacccc1989e8a448c85fd58343c21dca23bae3bb819585e09ba7", func := "grapnel/grapnellaw06.OrderMoved", spec := "orderMoved", recurses := true, loops := true, apart := false }
def OrderMovedSaid : Prop := orderMovedRow.holds Try.pinned (OpenSpec.ofChange orderMovedSpec)

/-- ITS FALSE NEIGHBOUR: 'it returns false'. Refute it at one input. -/
def orderMovedWrong : ChangeSpec := { name := "orderMoved", fn := fun _ => fun
  | [d1, d2] => { results := [.lit (.bool false)], args := [d1, d2] }
  | _ => none }
def OrderMovedWrongFalsely : Prop := orderMovedRow.holds Try.pinned (OpenSpec.ofChange orderMovedWrong)

/- THE SECOND FORM. 'bulk': how many values and letters a reading holds, each counted each time it is reached (what is shared counts as often as it is met; a slice's spare places count too). A statement '..UptoSaid' is the law's where the arguments, and the package variables that the reading takes, are together of bulk at most 1048576: NARROWER than '..Said'. Prove '..Said' where nothing that the law and all that it calls make is longer than what came in: it says more and counts as full. Else prove '..UptoSaid'. A law counts once. -/
mutual
def uptoBulk {H : Type} : DataW H → Nat
  | .lit (.string bytes) => bytes.length + 1
  | .lit _ => 1
  | .nil => 1
  | .ptr d => uptoBulk d + 1
  | .slice elems spare => uptoBulkAll elems + uptoBulkAll spare + 1
  | .agg parts => uptoBulkAll parts + 1
  | .iface _ d => uptoBulk d + 1
  | .map entries => uptoBulkEntries entries + 1
  | .held _ => 1
def uptoBulkAll {H : Type} : List (DataW H) → Nat
  | [] => 0
  | d :: r => uptoBulk d + uptoBulkAll r
def uptoBulkEntries {H : Type} : List (Lit × DataW H) → Nat
  | [] => 0
  | x :: r => uptoBulkEntry x + uptoBulkEntries r
def uptoBulkEntry {H : Type} : Lit × DataW H → Nat
  | (.string bytes, d) => bytes.length + uptoBulk d + 1
  | (_, d) => uptoBulk d + 1
 end
def uptoSmall : (H : Type) → List (DataW H) → Bool := fun _ ds => decide (uptoBulkAll ds ≤ 1048576)
def OpenSpec.upto (s : _root_.Go.ChangeSpec) : _root_.Go.OpenSpec := { _root_.Go.OpenSpec.ofChange s with cond := some uptoSmall }

/-- 'grapnellaw06.OrderRoom', WHERE WHAT IT READS IS OF BULK AT MOST 1048576: true; the input reads as it did. -/
def orderRoomUptoRow : OpenClaim := { program := "ytcbgjkedmboifab", sum := "6d7502317e7eaacccc1989e8a448c85fd58343c21dca23bae3bb819585e09ba7", func := "grapnel/grapnellaw06.OrderRoom", spec := "orderRoom", recurses := true, loops := true, apart := false, narrowed := true }
def OrderRoomUptoSaid : Prop := orderRoomUptoRow.holds Try.pinned (OpenSpec.upto orderRoomSpec)

/-- 'grapnellaw06.OrderParts', WHERE WHAT IT READS IS OF BULK AT MOST 1048576: true; the input reads as it did. -/
def orderPartsUptoRow : OpenClaim := { program := "ytcbgjkedmboifab", sum := "6d7502317e7eaacccc1989e8a448c85fd58343c21dca23bae3bb819585e09ba7", func := "grapnel/grapnellaw06.OrderParts", spec := "orderParts", recurses := true, loops := true, apart := false, narrowed := true }
def OrderPartsUptoSaid : Prop := orderPartsUptoRow.holds Try.pinned (OpenSpec.upto orderPartsSpec)

/-- 'grapnellaw06.OrderMoved', WHERE WHAT IT READS IS OF BULK AT MOST 1048576: true; the input reads as it did. -/
def orderMovedUptoRow : OpenClaim := { program := "ytcbgjkedmboifab", sum := "6d7502317e7eaacccc1989e8a448c85fd58343c21dca23bae3bb819585e09ba7", func := "grapnel/grapnellaw06.OrderMoved", spec := "orderMoved", recurses := true, loops := true, apart := false, narrowed := true }
def OrderMovedUptoSaid : Prop := orderMovedUptoRow.holds Try.pinned (OpenSpec.upto orderMovedSpec)

end Rows
end Go.Proofs.Ytcbgjkedmboifab
