/-
  No cell of these rows narrows 'for every input' (looked for: loops, veiled, ifaces, maps, wideKeys, modest, calm, conditions, laid).
  DERIVED. THE GIVEN ROWS OF THIS SEAT. 5 by the template 'for every input the law returns true; each argument reads behind the call as it read before'; 0 by the template 'total and deterministic' (their statements: YtlfbponacoombaaTotals.lean).
  GIVEN WITH THE SEED: the statements are not yours to turn. If you find one false, say at which input.
  Laid BY PROGRAM, IN A SANDBOX (cutbox-rows.mjs): the forced cells as the released guide's own fill.sh prints them over the translation 9c321c270b6c7758… (all of the seat's roots in one cut). By AI agents, Wed Nov 11 2026. No macro, syntax, notation, axiom, sorry.
-/
import Derived.Test.YtlfbponacoombaaChecked
import GoSem.Claim
import GoSem.ClaimJoined
import GoSem.ClaimMapViews
import Derived.JoinedTies
import Derived.KernelRfl
namespace Go.Proofs.Ytlfbponacoombaa
/- THE CELL 'sum', in the pinned program and in every row, IS THE sha256 OF THE DUMP (.gsa) THAT YtlfbponacoombaaProg.lean LOADS. Nothing in Lean hashes anything: it is a label: what it is worth is what the hold of that sum in a sandbox is worth. -/
noncomputable def Try.pinned : Pinned := { name := "ytlfbponacoombaa", sum := "9c321c270b6c7758dddfec8ad949cbb618f13606d6c3737b338880739155f0e0", checked := Try.checked }
namespace Rows
def none {H : Type} : Left H := { results := [], args := [] }

/-- 'switchboardlaw09.WindowExact': WHATEVER THE INPUT: true; the input reads as it did. -/
def windowExactSpec : ChangeSpec := { name := "windowExact", fn := fun _ => fun
  | [d1, d2] => { results := [.lit (.bool true)], args := [d1, d2] }
  | _ => none }
def windowExactRow : OpenClaim := { program := "ytlfbponacoombaa", sum := "9c321c270b6c7758dddfec8ad949cbb618f13606d6c3737b338880739155f0e0", func := "switchboard/switchboardlaw09.WindowExact", spec := "windowExact", inPlace := ["slices.overlaps[int]"], apart := false }
def WindowExactSaid : Prop := windowExactRow.holds Try.pinned (OpenSpec.ofChange windowExactSpec)

/-- ITS FALSE NEIGHBOUR: 'it returns false'. Refute it at one input. -/
def windowExactWrong : ChangeSpec := { name := "windowExact", fn := fun _ => fun
  | [d1, d2] => { results := [.lit (.bool false)], args := [d1, d2] }
  | _ => none }
def WindowExactWrongFalsely : Prop := windowExactRow.holds Try.pinned (OpenSpec.ofChange windowExactWrong)

/-- 'switchboardlaw09.WindowOnce': WHATEVER THE INPUT: true; the input reads as it did. -/
def windowOnceSpec : ChangeSpec := { name := "windowOnce", fn := fun _ => fun
  | [d] => { results := [.lit (.bool true)], args := [d] }
  | _ => none }
def windowOnceRow : OpenClaim := { program := "ytlfbponacoombaa", sum := "9c321c270b6c7758dddfec8ad949cbb618f13606d6c3737b338880739155f0e0", func := "switchboard/switchboardlaw09.WindowOnce", spec := "windowOnce", inPlace := ["slices.overlaps[int]"], apart := false }
def WindowOnceSaid : Prop := windowOnceRow.holds Try.pinned (OpenSpec.ofChange windowOnceSpec)

/-- ITS FALSE NEIGHBOUR: 'it returns false'. Refute it at one input. -/
def windowOnceWrong : ChangeSpec := { name := "windowOnce", fn := fun _ => fun
  | [d] => { results := [.lit (.bool false)], args := [d] }
  | _ => none }
def WindowOnceWrongFalsely : Prop := windowOnceRow.holds Try.pinned (OpenSpec.ofChange windowOnceWrong)

/-- 'switchboardlaw09.WindowTurn': WHATEVER THE INPUT: true; the input reads as it did. -/
def windowTurnSpec : ChangeSpec := { name := "windowTurn", fn := fun _ => fun
  | [d1, d2] => { results := [.lit (.bool true)], args := [d1, d2] }
  | _ => none }
def windowTurnRow : OpenClaim := { program := "ytlfbponacoombaa", sum := "9c321c270b6c7758dddfec8ad949cbb618f13606d6c3737b338880739155f0e0", func := "switchboard/switchboardlaw09.WindowTurn", spec := "windowTurn", inPlace := ["slices.overlaps[int]"], apart := false }
def WindowTurnSaid : Prop := windowTurnRow.holds Try.pinned (OpenSpec.ofChange windowTurnSpec)

/-- ITS FALSE NEIGHBOUR: 'it returns false'. Refute it at one input. -/
def windowTurnWrong : ChangeSpec := { name := "windowTurn", fn := fun _ => fun
  | [d1, d2] => { results := [.lit (.bool false)], args := [d1, d2] }
  | _ => none }
def WindowTurnWrongFalsely : Prop := windowTurnRow.holds Try.pinned (OpenSpec.ofChange windowTurnWrong)

/-- 'switchboardlaw09.WindowWrong': WHATEVER THE INPUT: true; the input reads as it did. -/
def windowWrongSpec : ChangeSpec := { name := "windowWrong", fn := fun _ => fun
  | [d1, d2] => { results := [.lit (.bool true)], args := [d1, d2] }
  | _ => none }
def windowWrongRow : OpenClaim := { program := "ytlfbponacoombaa", sum := "9c321c270b6c7758dddfec8ad949cbb618f13606d6c3737b338880739155f0e0", func := "switchboard/switchboardlaw09.WindowWrong", spec := "windowWrong", inPlace := ["slices.overlaps[int]"], apart := false }
def WindowWrongSaid : Prop := windowWrongRow.holds Try.pinned (OpenSpec.ofChange windowWrongSpec)

/-- ITS FALSE NEIGHBOUR: 'it returns false'. Refute it at one input. -/
def windowWrongWrong : ChangeSpec := { name := "windowWrong", fn := fun _ => fun
  | [d1, d2] => { results := [.lit (.bool false)], args := [d1, d2] }
  | _ => none }
def WindowWrongWrongFalsely : Prop := windowWrongRow.holds Try.pinned (OpenSpec.ofChange windowWrongWrong)

/-- 'switchboardlaw09.WindowGap': WHATEVER THE INPUT: true; the input reads as it did. -/
def windowGapSpec : ChangeSpec := { name := "windowGap", fn := fun _ => fun
  | [d1, d2] => { results := [.lit (.bool true)], args := [d1, d2] }
  | _ => none }
def windowGapRow : OpenClaim := { program := "ytlfbponacoombaa", sum := "9c321c270b6c7758dddfec8ad949cbb618f13606d6c3737b338880739155f0e0", func := "switchboard/switchboardlaw09.WindowGap", spec := "windowGap", inPlace := ["slices.overlaps[int]"], apart := false }
def WindowGapSaid : Prop := windowGapRow.holds Try.pinned (OpenSpec.ofChange windowGapSpec)

/-- ITS FALSE NEIGHBOUR: 'it returns false'. Refute it at one input. -/
def windowGapWrong : ChangeSpec := { name := "windowGap", fn := fun _ => fun
  | [d1, d2] => { results := [.lit (.bool false)], args := [d1, d2] }
  | _ => none }
def WindowGapWrongFalsely : Prop := windowGapRow.holds Try.pinned (OpenSpec.ofChange windowGapWrong)

/- THE SECOND FORM. 'bulk': how many values and letters a reading holds, each counted each time it is reached (what is shared counts as often as it is met; a slice's spare places count too). A statement '..UptoSaid' is the law's where the arguments, and the package variables that the reading takes, are together of bulk at most 1048576: NARROWER than '..Said'. Prove '..Said' where nothing that the law and all that it calls make is longer than what came in: it says more and counts as full. Else prove '..UptoSaid'. A law counts once. -/
mutual
def uptoBulk {H : Type} : DataW H → Nat
  | .lit (.string bytes) => bytes.length + 1
  | .lit _ => 1
  | .nil => 1
  | .ptr d => uptoBulk d + 1
  | .slice elems spare => uptoBulkAll elems + uptoBulkAll spare + 1
  | .agg parts => uptoBulkAll parts + 1
  | .iface _ d => uptoBulk d + 1
  | .map entries => uptoBulkEntries entries + 1
  | .held _ => 1
def uptoBulkAll {H : Type} : List (DataW H) → Nat
  | [] => 0
  | d :: r => uptoBulk d + uptoBulkAll r
def uptoBulkEntries {H : Type} : List (Lit × DataW H) → Nat
  | [] => 0
  | x :: r => uptoBulkEntry x + uptoBulkEntries r
def uptoBulkEntry {H : Type} : Lit × DataW H → Nat
  | (.string bytes, d) => bytes.length + uptoBulk d + 1
  | (_, d) => uptoBulk d + 1
 end
def uptoSmall : (H : Type) → List (DataW H) → Bool := fun _ ds => decide (uptoBulkAll ds ≤ 1048576)
def OpenSpec.upto (s : _root_.Go.ChangeSpec) : _root_.Go.OpenSpec := { _root_.Go.OpenSpec.ofChange s with cond := some uptoSmall }

/-- 'switchboardlaw09.WindowExact', WHERE WHAT IT READS IS OF BULK AT MOST 1048576: true; the input reads as it did. -/
def windowExactUptoRow : OpenClaim := { program := "ytlfbponacoombaa", sum := "9c321c270b6c7758dddfec8ad949cbb618f13606d6c3737b338880739155f0e0", func := "switchboard/switchboardlaw09.WindowExact", spec := "windowExact", inPlace := ["slices.overlaps[int]"], apart := false, narrowed := true }
def WindowExactUptoSaid : Prop := windowExactUptoRow.holds Try.pinned (OpenSpec.upto windowExactSpec)

/-- 'switchboardlaw09.WindowOnce', WHERE WHAT IT READS IS OF BULK AT MOST 1048576: true; the input reads as it did. -/
def windowOnceUptoRow : OpenClaim := { program := "ytlfbponacoombaa", sum := "9c321c270b6c7758dddfec8ad949cbb618f13606d6c3737b338880739155f0e0", func := "switchboard/switchboardlaw09.WindowOnce", spec := "windowOnce", inPlace := ["slices.overlaps[int]"], apart := false, narrowed := true }
def WindowOnceUptoSaid : Prop := windowOnceUptoRow.holds Try.pinned (OpenSpec.upto windowOnceSpec)

/-- 'switchboardlaw09.WindowTurn', WHERE WHAT IT READS IS OF BULK AT MOST 1048576: true; the input reads as it did. -/
def windowTurnUptoRow : OpenClaim := { program := "ytlfbponacoombaa", sum := "9c321c270b6c7758dddfec8ad949cbb618f13606d6c3737b338880739155f0e0", func := "switchboard/switchboardlaw09.WindowTurn", spec := "windowTurn", inPlace := ["slices.overlaps[int]"], apart := false, narrowed := true }
def WindowTurnUptoSaid : Prop := windowTurnUptoRow.holds Try.pinned (OpenSpec.upto windowTurnSpec)

/-- 'switchboardlaw09.WindowWrong', WHERE WHAT IT READS IS OF BULK AT MOST 1048576: true; the input reads as it did. -/
def windowWrongUptoRow : OpenClaim := { program := "ytlfbponacoombaa", sum := "9c321c270b6c7758dddfec8ad949cbb618f13606d6c3737b338880739155f0e0", func := "switchboard/switchboardlaw09.WindowWrong", spec := "windowWrong", inPlace := ["slices.overlaps[int]"], apart := false, narrowed := true }
def WindowWrongUptoSaid : Prop := windowWrongUptoRow.holds Try.pinned (OpenSpec.upto windowWrongSpec)

/-- 'switchboardlaw09.WindowGap', WHERE WHAT IT READS IS OF BULK AT MOST 1048576: true; the input reads as it did. -/
def windowGapUptoRow : OpenClaim := { program := "ytlfbponacoombaa", sum := "9c321c270b6c7758dddfec8ad949cbb618f13606d6c3737b338880739155f0e0", func := "switchboard/switchboardlaw09.WindowGap", spec := "windowGap", inPlace := ["slices.overlaps[int]"], apart := false, narrowed := true }
def WindowGapUptoSaid : Prop := windowGapUptoRow.holds Try.pinned (OpenSpec.upto windowGapSpec)

end Rows
end Go.Proofs.Ytlfbponacoombaa
