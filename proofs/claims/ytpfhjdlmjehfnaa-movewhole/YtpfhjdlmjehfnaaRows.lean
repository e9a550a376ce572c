/-
  No cell of these rows narrows 'for every input' (looked for: loops, veiled, ifaces, maps, wideKeys, modest, calm, conditions, laid).
  DERIVED. THE GIVEN ROWS OF THIS SEAT. 7 by the template 'for every input the law returns true; each argument reads behind the call as it read before'; 0 by the template 'total and deterministic' (their statements: YtpfhjdlmjehfnaaTotals.lean).
  GIVEN WITH THE SEED: the statements are not yours to turn. If you find one false, say at which input.
  Laid BY PROGRAM, IN A SANDBOX (cutbox-rows.mjs): the forced cells as the released guide's own fill.sh prints them over the translation 83a8b5226e8eb442… (all of the seat's roots in one cut). By AI agents, Wed Nov 11 2026. No macro, syntax, notation, axiom, sorry.
-/
import Derived.Test.YtpfhjdlmjehfnaaChecked
import GoSem.Claim
import GoSem.ClaimJoined
import GoSem.ClaimMapViews
import Derived.JoinedTies
import Derived.KernelRfl
namespace Go.Proofs.Ytpfhjdlmjehfnaa
/- THE CELL 'sum', in the pinned program and in every row, IS THE sha256 OF THE DUMP (.gsa) THAT YtpfhjdlmjehfnaaProg.lean LOADS. Nothing in Lean hashes anything: it is a label: what it is worth is what the hold of that sum in a sandbox is worth. -/
noncomputable def Try.pinned : Pinned := { name := "ytpfhjdlmjehfnaa", sum := "83a8b5226e8eb442e58467f98418de4de7dce7ef5a4eac9ebd3640157a9c73ef", checked := Try.checked }
namespace Rows
def none {H : Type} : Left H := { results := [], args := [] }

/-- 'switchboardlaw22.MoveBegins': WHATEVER THE INPUT: true; the input reads as it did. -/
def moveBeginsSpec : ChangeSpec := { name := "moveBegins", fn := fun _ => fun
  | [d1, d2, d3, d4, d5, d6] => { results := [.lit (.bool true)], args := [d1, d2, d3, d4, d5, d6] }
  | _ => none }
def moveBeginsRow : OpenClaim := { program := "ytpfhjdlmjehfnaa", sum := "83a8b5226e8eb442e58467f98418de4de7dce7ef5a4eac9ebd3640157a9c73ef", func := "switchboard/switchboardlaw22.MoveBegins", spec := "moveBegins", inPlace := ["internal/abi.NoEscape", "internal/bytealg.MakeNoZero", "slices.overlaps[int]"], apart := false }
def MoveBeginsSaid : Prop := moveBeginsRow.holds Try.pinned (OpenSpec.ofChange moveBeginsSpec)

/-- ITS FALSE NEIGHBOUR: 'it returns false'. Refute it at one input. -/
def moveBeginsWrong : ChangeSpec := { name := "moveBegins", fn := fun _ => fun
  | [d1, d2, d3, d4, d5, d6] => { results := [.lit (.bool false)], args := [d1, d2, d3, d4, d5, d6] }
  | _ => none }
def MoveBeginsWrongFalsely : Prop := moveBeginsRow.holds Try.pinned (OpenSpec.ofChange moveBeginsWrong)

/-- 'switchboardlaw22.MovePieces': WHATEVER THE INPUT: true; the input reads as it did. -/
def movePiecesSpec : ChangeSpec := { name := "movePieces", fn := fun _ => fun
  | [d1, d2, d3] => { results := [.lit (.bool true)], args := [d1, d2, d3] }
  | _ => none }
def movePiecesRow : OpenClaim := { program := "ytpfhjdlmjehfnaa", sum := "83a8b5226e8eb442e58467f98418de4de7dce7ef5a4eac9ebd3640157a9c73ef", func := "switchboard/switchboardlaw22.MovePieces", spec := "movePieces", inPlace := ["internal/abi.NoEscape", "internal/bytealg.MakeNoZero", "slices.overlaps[int]"], apart := false }
def MovePiecesSaid : Prop := movePiecesRow.holds Try.pinned (OpenSpec.ofChange movePiecesSpec)

/-- ITS FALSE NEIGHBOUR: 'it returns false'. Refute it at one input. -/
def movePiecesWrong : ChangeSpec := { name := "movePieces", fn := fun _ => fun
  | [d1, d2, d3] => { results := [.lit (.bool false)], args := [d1, d2, d3] }
  | _ => none }
def MovePiecesWrongFalsely : Prop := movePiecesRow.holds Try.pinned (OpenSpec.ofChange movePiecesWrong)

/-- 'switchboardlaw22.MoveEnds': WHATEVER THE INPUT: true; the input reads as it did. -/
def moveEndsSpec : ChangeSpec := { name := "moveEnds", fn := fun _ => fun
  | [d1, d2] => { results := [.lit (.bool true)], args := [d1, d2] }
  | _ => none }
def moveEndsRow : OpenClaim := { program := "ytpfhjdlmjehfnaa", sum := "83a8b5226e8eb442e58467f98418de4de7dce7ef5a4eac9ebd3640157a9c73ef", func := "switchboard/switchboardlaw22.MoveEnds", spec := "moveEnds", inPlace := ["internal/abi.NoEscape", "internal/bytealg.MakeNoZero", "slices.overlaps[int]"], apart := false }
def MoveEndsSaid : Prop := moveEndsRow.holds Try.pinned (OpenSpec.ofChange moveEndsSpec)

/-- ITS FALSE NEIGHBOUR: 'it returns false'. Refute it at one input. -/
def moveEndsWrong : ChangeSpec := { name := "moveEnds", fn := fun _ => fun
  | [d1, d2] => { results := [.lit (.bool false)], args := [d1, d2] }
  | _ => none }
def MoveEndsWrongFalsely : Prop := moveEndsRow.holds Try.pinned (OpenSpec.ofChange moveEndsWrong)

/-- 'switchboardlaw22.MoveWhole': WHATEVER THE INPUT: true; the input reads as it did. -/
def moveWholeSpec : ChangeSpec := { name := "moveWhole", fn := fun _ => fun
  | [d1, d2, d3] => { results := [.lit (.bool true)], args := [d1, d2, d3] }
  | _ => none }
def moveWholeRow : OpenClaim := { program := "ytpfhjdlmjehfnaa", sum := "83a8b5226e8eb442e58467f98418de4de7dce7ef5a4eac9ebd3640157a9c73ef", func := "switchboard/switchboardlaw22.MoveWhole", spec := "moveWhole", inPlace := ["internal/abi.NoEscape", "internal/bytealg.MakeNoZero", "slices.overlaps[int]"], apart := false }
def MoveWholeSaid : Prop := moveWholeRow.holds Try.pinned (OpenSpec.ofChange moveWholeSpec)

/-- ITS FALSE NEIGHBOUR: 'it returns false'. Refute it at one input. -/
def moveWholeWrong : ChangeSpec := { name := "moveWhole", fn := fun _ => fun
  | [d1, d2, d3] => { results := [.lit (.bool false)], args := [d1, d2, d3] }
  | _ => none }
def MoveWholeWrongFalsely : Prop := moveWholeRow.holds Try.pinned (OpenSpec.ofChange moveWholeWrong)

/-- 'switchboardlaw22.MoveWrong': WHATEVER THE INPUT: true; the input reads as it did. -/
def moveWrongSpec : ChangeSpec := { name := "moveWrong", fn := fun _ => fun
  | [d1, d2, d3, d4] => { results := [.lit (.bool true)], args := [d1, d2, d3, d4] }
  | _ => none }
def moveWrongRow : OpenClaim := { program := "ytpfhjdlmjehfnaa", sum := "83a8b5226e8eb442e58467f98418de4de7dce7ef5a4eac9ebd3640157a9c73ef", func := "switchboard/switchboardlaw22.MoveWrong", spec := "moveWrong", inPlace := ["internal/abi.NoEscape", "internal/bytealg.MakeNoZero", "slices.overlaps[int]"], apart := false }
def MoveWrongSaid : Prop := moveWrongRow.holds Try.pinned (OpenSpec.ofChange moveWrongSpec)

/-- ITS FALSE NEIGHBOUR: 'it returns false'. Refute it at one input. -/
def moveWrongWrong : ChangeSpec := { name := "moveWrong", fn := fun _ => fun
  | [d1, d2, d3, d4] => { results := [.lit (.bool false)], args := [d1, d2, d3, d4] }
  | _ => none }
def MoveWrongWrongFalsely : Prop := moveWrongRow.holds Try.pinned (OpenSpec.ofChange moveWrongWrong)

/-- 'switchboardlaw22.MoveSteps': WHATEVER THE INPUT: true; the input reads as it did. -/
def moveStepsSpec : ChangeSpec := { name := "moveSteps", fn := fun _ => fun
  | [d1, d2, d3, d4, d5] => { results := [.lit (.bool true)], args := [d1, d2, d3, d4, d5] }
  | _ => none }
def moveStepsRow : OpenClaim := { program := "ytpfhjdlmjehfnaa", sum := "83a8b5226e8eb442e58467f98418de4de7dce7ef5a4eac9ebd3640157a9c73ef", func := "switchboard/switchboardlaw22.MoveSteps", spec := "moveSteps", inPlace := ["internal/abi.NoEscape", "internal/bytealg.MakeNoZero", "slices.overlaps[int]"], apart := false }
def MoveStepsSaid : Prop := moveStepsRow.holds Try.pinned (OpenSpec.ofChange moveStepsSpec)

/-- ITS FALSE NEIGHBOUR: 'it returns false'. Refute it at one input. -/
def moveStepsWrong : ChangeSpec := { name := "moveSteps", fn := fun _ => fun
  | [d1, d2, d3, d4, d5] => { results := [.lit (.bool false)], args := [d1, d2, d3, d4, d5] }
  | _ => none }
def MoveStepsWrongFalsely : Prop := moveStepsRow.holds Try.pinned (OpenSpec.ofChange moveStepsWrong)

/-- 'switchboardlaw22.MoveMany': WHATEVER THE INPUT: true; the input reads as it did. -/
def moveManySpec : ChangeSpec := { name := "moveMany", fn := fun _ => fun
  | [d1, d2] => { results := [.lit (.bool true)], args := [d1, d2] }
  | _ => none }
def moveManyRow : OpenClaim := { program := "ytpfhjdlmjehfnaa", sum := "83a8b5226e8eb442e58467f98418de4de7dce7ef5a4eac9ebd3640157a9c73ef", func := "switchboard/switchboardlaw22.MoveMany", spec := "moveMany", inPlace := ["internal/abi.NoEscape", "internal/bytealg.MakeNoZero", "slices.overlaps[int]"], apart := false }
def MoveManySaid : Prop := moveManyRow.holds Try.pinned (OpenSpec.ofChange moveManySpec)

/-- ITS FALSE NEIGHBOUR: 'it returns false'. Refute it at one input. -/
def moveManyWrong : ChangeSpec := { name := "moveMany", fn := fun _ => fun
  | [d1, d2] => { results := [.lit (.bool false)], args := [d1, d2] }
  | _ => none }
def MoveManyWrongFalsely : Prop := moveManyRow.holds Try.pinned (OpenSpec.ofChange moveManyWrong)

/- THE SECOND FORM. 'bulk': how many values and letters a reading holds, each counted each time it is reached (what is shared counts as often as it is met; a slice's spare places count too). A statement '..UptoSaid' is the law's where the arguments, and the package variables that the reading takes, are together of bulk at most 1048576: NARROWER than '..Said'. Prove '..Said' where nothing that the law and all that it calls make is longer than what came in: it says more and counts as full. Else prove '..UptoSaid'. A law counts once. -/
mutual
def uptoBulk {H : Type} : DataW H → Nat
  | .lit (.string bytes) => bytes.length + 1
  | .lit _ => 1
  | .nil => 1
  | .ptr d => uptoBulk d + 1
  | .slice elems spare => uptoBulkAll elems + uptoBulkAll spare + 1
  | .agg parts => uptoBulkAll parts + 1
  | .iface _ d => uptoBulk d + 1
  | .map entries => uptoBulkEntries entries + 1
  | .held _ => 1
def uptoBulkAll {H : Type} : List (DataW H) → Nat
  | [] => 0
  | d :: r => uptoBulk d + uptoBulkAll r
def uptoBulkEntries {H : Type} : List (Lit × DataW H) → Nat
  | [] => 0
  | x :: r => uptoBulkEntry x + uptoBulkEntries r
def uptoBulkEntry {H : Type} : Lit × DataW H → Nat
  | (.string bytes, d) => bytes.length + uptoBulk d + 1
  | (_, d) => uptoBulk d + 1
 end
def uptoSmall : (H : Type) → List (DataW H) → Bool := fun _ ds => decide (uptoBulkAll ds ≤ 1048576)
def OpenSpec.upto (s : _root_.Go.ChangeSpec) : _root_.Go.OpenSpec := { _root_.Go.OpenSpec.ofChange s with cond := some uptoSmall }

/-- 'switchboardlaw22.MoveBegins', WHERE WHAT IT READS IS OF BULK AT MOST 1048576: true; the input reads as it did. -/
def moveBeginsUptoRow : OpenClaim := { program := "ytpfhjdlmjehfnaa", sum := "83a8b5226e8eb442e58467f98418de4de7dce7ef5a4eac9ebd3640157a9c73ef", func := "switchboard/switchboardlaw22.MoveBegins", spec := "moveBegins", inPlace := ["internal/abi.NoEscape", "internal/bytealg.MakeNoZero", "slices.overlaps[int]"], apart := false, narrowed := true }
def MoveBeginsUptoSaid : Prop := moveBeginsUptoRow.holds Try.pinned (OpenSpec.upto moveBeginsSpec)

/-- 'switchboardlaw22.MovePieces', WHERE WHAT IT READS IS OF BULK AT MOST 1048576: true; the input reads as it did. -/
def movePiecesUptoRow : OpenClaim := { program := "ytpfhjdlmjehfnaa", sum := "83a8b5226e8eb442e58467f98418de4de7dce7ef5a4eac9ebd3640157a9c73ef", func := "switchboard/switchboardlaw22.MovePieces", spec := "movePieces", inPlace := ["internal/abi.NoEscape", "internal/bytealg.MakeNoZero", "slices.overlaps[int]"], apart := false, narrowed := true }
def MovePiecesUptoSaid : Prop := movePiecesUptoRow.holds Try.pinned (OpenSpec.upto movePiecesSpec)

/-- 'switchboardlaw22.MoveEnds', WHERE WHAT IT READS IS OF BULK AT MOST 1048576: true; the input reads as it did. -/
def moveEndsUptoRow : OpenClaim := { program := "ytpfhjdlmjehfnaa", sum := "83a8b5226e8eb442e58467f98418de4de7dce7ef5a4eac9ebd3640157a9c73ef", func := "switchboard/switchboardlaw22.MoveEnds", spec := "moveEnds", inPlace := ["internal/abi.NoEscape", "internal/bytealg.MakeNoZero", "slices.overlaps[int]"], apart := false, narrowed := true }
def MoveEndsUptoSaid : Prop := moveEndsUptoRow.holds Try.pinned (OpenSpec.upto moveEndsSpec)

/-- 'switchboardlaw22.MoveWhole', WHERE WHAT IT READS IS OF BULK AT MOST 1048576: true; the input reads as it did. -/
def moveWholeUptoRow : OpenClaim := { program := "ytpfhjdlmjehfnaa", sum := "83a8b5226e8eb442e58467f98418de4de7dce7ef5a4eac9ebd3640157a9c73ef", func := "switchboard/switchboardlaw22.MoveWhole", spec := "moveWhole", inPlace := ["internal/abi.NoEscape", "internal/bytealg.MakeNoZero", "slices.overlaps[int]"], apart := false, narrowed := true }
def MoveWholeUptoSaid : Prop := moveWholeUptoRow.holds Try.pinned (OpenSpec.upto moveWholeSpec)

/-- 'switchboardlaw22.MoveWrong', WHERE WHAT IT READS IS OF BULK AT MOST 1048576: true; the input reads as it did. -/
def moveWrongUptoRow : OpenClaim := { program := "ytpfhjdlmjehfnaa", sum := "83a8b5226e8eb442e58467f98418de4de7dce7ef5a4eac9ebd3640157a9c73ef", func := "switchboard/switchboardlaw22.MoveWrong", spec := "moveWrong", inPlace := ["internal/abi.NoEscape", "internal/bytealg.MakeNoZero", "slices.overlaps[int]"], apart := false, narrowed := true }
def MoveWrongUptoSaid : Prop := moveWrongUptoRow.holds Try.pinned (OpenSpec.upto moveWrongSpec)

/-- 'switchboardlaw22.MoveSteps', WHERE WHAT IT READS IS OF BULK AT MOST 1048576: true; the input reads as it did. -/
def moveStepsUptoRow : OpenClaim := { program := "ytpfhjdlmjehfnaa", sum := "83a8b5226e8eb442e58467f98418de4de7dce7ef5a4eac9ebd3640157a9c73ef", func := "switchboard/switchboardlaw22.MoveSteps", spec := "moveSteps", inPlace := ["internal/abi.NoEscape", "internal/bytealg.MakeNoZero", "slices.overlaps[int]"], apart := false, narrowed := true }
def MoveStepsUptoSaid : Prop := moveStepsUptoRow.holds Try.pinned (OpenSpec.upto moveStepsSpec)

/-- 'switchboardlaw22.MoveMany', WHERE WHAT IT READS IS OF BULK AT MOST 1048576: true; the input reads as it did. -/
def moveManyUptoRow : OpenClaim := { program := "ytpfhjdlmjehfnaa", sum := "83a8b5226e8eb442e58467f98418de4de7dce7ef5a4eac9ebd3640157a9c73ef", func := "switchboard/switchboardlaw22.MoveMany", spec := "moveMany", inPlace := ["internal/abi.NoEscape", "internal/bytealg.MakeNoZero", "slices.overlaps[int]"], apart := false, narrowed := true }
def MoveManyUptoSaid : Prop := moveManyUptoRow.holds Try.pinned (OpenSpec.upto moveManySpec)

end Rows
end Go.Proofs.Ytpfhjdlmjehfnaa
