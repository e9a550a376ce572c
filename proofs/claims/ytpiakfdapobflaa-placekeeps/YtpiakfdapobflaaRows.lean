/-
  No cell of these rows narrows 'for every input' (looked for: loops, veiled, ifaces, maps, wideKeys, modest, calm, conditions, laid).
  DERIVED. THE GIVEN ROWS OF THIS SEAT. 6 by the template 'for every input the law returns true; each argument reads behind the call as it read before'; 0 by the template 'total and deterministic' (their statements: YtpiakfdapobflaaTotals.lean).
  GIVEN WITH THE SEED: the statements are not yours to turn. If you find one false, say at which input.
  Laid BY PROGRAM, IN A SANDBOX (cutbox-rows.mjs): the forced cells as the released guide's own fill.sh prints them over the translation a37f3bfefac6661a… (all of the seat's roots in one cut). By AI agents, Wed Nov 11 2026. No macro, syntax, notation, axiom, sorry.
-/
import Derived.Test.YtpiakfdapobflaaChecked
import GoSem.Claim
import GoSem.ClaimJoined
import GoSem.ClaimMapViews
import Derived.JoinedTies
import Derived.KernelRfl
namespace Go.Proofs.Ytpiakfdapobflaa
/- THE CELL 'sum', in the pinned program and in every row, IS THE sha256 OF THE DUMP (.gsa) THAT YtpiakfdapobflaaProg.lean LOADS. Nothing in Lean hashes anything: it is a label: what it is worth is what the hold of that sum in a sandbox is worth. -/
noncomputable def Try.pinned : Pinned := { name := "ytpiakfdapobflaa", sum := "a37f3bfefac6661a7a19b6e30291ce814e8af03ce26d64c5ac7c4daa5994ba75", checked := Try.checked }
namespace Rows
def none {H : Type} : Left H := { results := [], args := [] }

/-- 'switchboardlaw17.PlaceTurns': WHATEVER THE INPUT: true; the input reads as it did. -/
def placeTurnsSpec : ChangeSpec := { name := "placeTurns", fn := fun _ => fun
  | [d1, d2, d3] => { results := [.lit (.bool true)], args := [d1, d2, d3] }
  | _ => none }
def placeTurnsRow : OpenClaim := { program := "ytpiakfdapobflaa", sum := "a37f3bfefac6661a7a19b6e30291ce814e8af03ce26d64c5ac7c4daa5994ba75", func := "switchboard/switchboardlaw17.PlaceTurns", spec := "placeTurns", inPlace := ["slices.overlaps[int]"], apart := false }
def PlaceTurnsSaid : Prop := placeTurnsRow.holds Try.pinned (OpenSpec.ofChange placeTurnsSpec)

/-- ITS FALSE NEIGHBOUR: 'it returns false'. Refute it at one input. -/
def placeTurnsWrong : ChangeSpec := { name := "placeTurns", fn := fun _ => fun
  | [d1, d2, d3] => { results := [.lit (.bool false)], args := [d1, d2, d3] }
  | _ => none }
def PlaceTurnsWrongFalsely : Prop := placeTurnsRow.holds Try.pinned (OpenSpec.ofChange placeTurnsWrong)

/-- 'switchboardlaw17.PlacePicks': WHATEVER THE INPUT: true; the input reads as it did. -/
def placePicksSpec : ChangeSpec := { name := "placePicks", fn := fun _ => fun
  | [d1, d2, d3, d4] => { results := [.lit (.bool true)], args := [d1, d2, d3, d4] }
  | _ => none }
def placePicksRow : OpenClaim := { program := "ytpiakfdapobflaa", sum := "a37f3bfefac6661a7a19b6e30291ce814e8af03ce26d64c5ac7c4daa5994ba75", func := "switchboard/switchboardlaw17.PlacePicks", spec := "placePicks", inPlace := ["slices.overlaps[int]"], apart := false }
def PlacePicksSaid : Prop := placePicksRow.holds Try.pinned (OpenSpec.ofChange placePicksSpec)

/-- ITS FALSE NEIGHBOUR: 'it returns false'. Refute it at one input. -/
def placePicksWrong : ChangeSpec := { name := "placePicks", fn := fun _ => fun
  | [d1, d2, d3, d4] => { results := [.lit (.bool false)], args := [d1, d2, d3, d4] }
  | _ => none }
def PlacePicksWrongFalsely : Prop := placePicksRow.holds Try.pinned (OpenSpec.ofChange placePicksWrong)

/-- 'switchboardlaw17.PlaceKeeps': WHATEVER THE INPUT: true; the input reads as it did. -/
def placeKeepsSpec : ChangeSpec := { name := "placeKeeps", fn := fun _ => fun
  | [d] => { results := [.lit (.bool true)], args := [d] }
  | _ => none }
def placeKeepsRow : OpenClaim := { program := "ytpiakfdapobflaa", sum := "a37f3bfefac6661a7a19b6e30291ce814e8af03ce26d64c5ac7c4daa5994ba75", func := "switchboard/switchboardlaw17.PlaceKeeps", spec := "placeKeeps", inPlace := ["slices.overlaps[int]"], apart := false }
def PlaceKeepsSaid : Prop := placeKeepsRow.holds Try.pinned (OpenSpec.ofChange placeKeepsSpec)

/-- ITS FALSE NEIGHBOUR: 'it returns false'. Refute it at one input. -/
def placeKeepsWrong : ChangeSpec := { name := "placeKeeps", fn := fun _ => fun
  | [d] => { results := [.lit (.bool false)], args := [d] }
  | _ => none }
def PlaceKeepsWrongFalsely : Prop := placeKeepsRow.holds Try.pinned (OpenSpec.ofChange placeKeepsWrong)

/-- 'switchboardlaw17.PlaceBack': WHATEVER THE INPUT: true; the input reads as it did. -/
def placeBackSpec : ChangeSpec := { name := "placeBack", fn := fun _ => fun
  | [d1, d2, d3] => { results := [.lit (.bool true)], args := [d1, d2, d3] }
  | _ => none }
def placeBackRow : OpenClaim := { program := "ytpiakfdapobflaa", sum := "a37f3bfefac6661a7a19b6e30291ce814e8af03ce26d64c5ac7c4daa5994ba75", func := "switchboard/switchboardlaw17.PlaceBack", spec := "placeBack", inPlace := ["slices.overlaps[int]"], apart := false }
def PlaceBackSaid : Prop := placeBackRow.holds Try.pinned (OpenSpec.ofChange placeBackSpec)

/-- ITS FALSE NEIGHBOUR: 'it returns false'. Refute it at one input. -/
def placeBackWrong : ChangeSpec := { name := "placeBack", fn := fun _ => fun
  | [d1, d2, d3] => { results := [.lit (.bool false)], args := [d1, d2, d3] }
  | _ => none }
def PlaceBackWrongFalsely : Prop := placeBackRow.holds Try.pinned (OpenSpec.ofChange placeBackWrong)

/-- 'switchboardlaw17.PlaceAll': WHATEVER THE INPUT: true; the input reads as it did. -/
def placeAllSpec : ChangeSpec := { name := "placeAll", fn := fun _ => fun
  | [d1, d2, d3] => { results := [.lit (.bool true)], args := [d1, d2, d3] }
  | _ => none }
def placeAllRow : OpenClaim := { program := "ytpiakfdapobflaa", sum := "a37f3bfefac6661a7a19b6e30291ce814e8af03ce26d64c5ac7c4daa5994ba75", func := "switchboard/switchboardlaw17.PlaceAll", spec := "placeAll", inPlace := ["slices.overlaps[int]"], apart := false }
def PlaceAllSaid : Prop := placeAllRow.holds Try.pinned (OpenSpec.ofChange placeAllSpec)

/-- ITS FALSE NEIGHBOUR: 'it returns false'. Refute it at one input. -/
def placeAllWrong : ChangeSpec := { name := "placeAll", fn := fun _ => fun
  | [d1, d2, d3] => { results := [.lit (.bool false)], args := [d1, d2, d3] }
  | _ => none }
def PlaceAllWrongFalsely : Prop := placeAllRow.holds Try.pinned (OpenSpec.ofChange placeAllWrong)

/-- 'switchboardlaw17.PlaceOthers': WHATEVER THE INPUT: true; the input reads as it did. -/
def placeOthersSpec : ChangeSpec := { name := "placeOthers", fn := fun _ => fun
  | [d1, d2, d3] => { results := [.lit (.bool true)], args := [d1, d2, d3] }
  | _ => none }
def placeOthersRow : OpenClaim := { program := "ytpiakfdapobflaa", sum := "a37f3bfefac6661a7a19b6e30291ce814e8af03ce26d64c5ac7c4daa5994ba75", func := "switchboard/switchboardlaw17.PlaceOthers", spec := "placeOthers", inPlace := ["slices.overlaps[int]"], apart := false }
def PlaceOthersSaid : Prop := placeOthersRow.holds Try.pinned (OpenSpec.ofChange placeOthersSpec)

/-- ITS FALSE NEIGHBOUR: 'it returns false'. Refute it at one input. -/
def placeOthersWrong : ChangeSpec := { name := "placeOthers", fn := fun _ => fun
  | [d1, d2, d3] => { results := [.lit (.bool false)], args := [d1, d2, d3] }
  | _ => none }
def PlaceOthersWrongFalsely : Prop := placeOthersRow.holds Try.pinned (OpenSpec.ofChange placeOthersWrong)

/- THE SECOND FORM. 'bulk': how many values and letters a reading holds, each counted each time it is reached (what is shared counts as often as it is met; a slice's spare places count too). A statement '..UptoSaid' is the law's where the arguments, and the package variables that the reading takes, are together of bulk at most 1048576: NARROWER than '..Said'. Prove '..Said' where nothing that the law and all that it calls make is longer than what came in: it says more and counts as full. Else prove '..UptoSaid'. A law counts once. -/
mutual
def uptoBulk {H : Type} : DataW H → Nat
  | .lit (.string bytes) => bytes.length + 1
  | .lit _ => 1
  | .nil => 1
  | .ptr d => uptoBulk d + 1
  | .slice elems spare => uptoBulkAll elems + uptoBulkAll spare + 1
  | .agg parts => uptoBulkAll parts + 1
  | .iface _ d => uptoBulk d + 1
  | .map entries => uptoBulkEntries entries + 1
  | .held _ => 1
def uptoBulkAll {H : Type} : List (DataW H) → Nat
  | [] => 0
  | d :: r => uptoBulk d + uptoBulkAll r
def uptoBulkEntries {H : Type} : List (Lit × DataW H) → Nat
  | [] => 0
  | x :: r => uptoBulkEntry x + uptoBulkEntries r
def uptoBulkEntry {H : Type} : Lit × DataW H → Nat
  | (.string bytes, d) => bytes.length + uptoBulk d + 1
  | (_, d) => uptoBulk d + 1
 end
def uptoSmall : (H : Type) → List (DataW H) → Bool := fun _ ds => decide (uptoBulkAll ds ≤ 1048576)
def OpenSpec.upto (s : _root_.Go.ChangeSpec) : _root_.Go.OpenSpec := { _root_.Go.OpenSpec.ofChange s with cond := some uptoSmall }

/-- 'switchboardlaw17.PlaceTurns', WHERE WHAT IT READS IS OF BULK AT MOST 1048576: true; the input reads as it did. -/
def placeTurnsUptoRow : OpenClaim := { program := "ytpiakfdapobflaa", sum := "a37f3bfefac6661a7a19b6e30291ce814e8af03ce26d64c5ac7c4daa5994ba75", func := "switchboard/switchboardlaw17.PlaceTurns", spec := "placeTurns", inPlace := ["slices.overlaps[int]"], apart := false, narrowed := true }
def PlaceTurnsUptoSaid : Prop := placeTurnsUptoRow.holds Try.pinned (OpenSpec.upto placeTurnsSpec)

/-- 'switchboardlaw17.PlacePicks', WHERE WHAT IT READS IS OF BULK AT MOST 1048576: true; the input reads as it did. -/
def placePicksUptoRow : OpenClaim := { program := "ytpiakfdapobflaa", sum := "a37f3bfefac6661a7a19b6e30291ce814e8af03ce26d64c5ac7c4daa5994ba75", func := "switchboard/switchboardlaw17.PlacePicks", spec := "placePicks", inPlace := ["slices.overlaps[int]"], apart := false, narrowed := true }
def PlacePicksUptoSaid : Prop := placePicksUptoRow.holds Try.pinned (OpenSpec.upto placePicksSpec)

/-- 'switchboardlaw17.PlaceKeeps', WHERE WHAT IT READS IS OF BULK AT MOST 1048576: true; the input reads as it did. -/
def placeKeepsUptoRow : OpenClaim := { program := "ytpiakfdapobflaa", sum := "a37f3bfefac6661a7a19b6e30291ce814e8af03ce26d64c5ac7c4daa5994ba75", func := "switchboard/switchboardlaw17.PlaceKeeps", spec := "placeKeeps", inPlace := ["slices.overlaps[int]"], apart := false, narrowed := true }
def PlaceKeepsUptoSaid : Prop := placeKeepsUptoRow.holds Try.pinned (OpenSpec.upto placeKeepsSpec)

/-- 'switchboardlaw17.PlaceBack', WHERE WHAT IT READS IS OF BULK AT MOST 1048576: true; the input reads as it did. -/
def placeBackUptoRow : OpenClaim := { program := "ytpiakfdapobflaa", sum := "a37f3bfefac6661a7a19b6e30291ce814e8af03ce26d64c5ac7c4daa5994ba75", func := "switchboard/switchboardlaw17.PlaceBack", spec := "placeBack", inPlace := ["slices.overlaps[int]"], apart := false, narrowed := true }
def PlaceBackUptoSaid : Prop := placeBackUptoRow.holds Try.pinned (OpenSpec.upto placeBackSpec)

/-- 'switchboardlaw17.PlaceAll', WHERE WHAT IT READS IS OF BULK AT MOST 1048576: true; the input reads as it did. -/
def placeAllUptoRow : OpenClaim := { program := "ytpiakfdapobflaa", sum := "a37f3bfefac6661a7a19b6e30291ce814e8af03ce26d64c5ac7c4daa5994ba75", func := "switchboard/switchboardlaw17.PlaceAll", spec := "placeAll", inPlace := ["slices.overlaps[int]"], apart := false, narrowed := true }
def PlaceAllUptoSaid : Prop := placeAllUptoRow.holds Try.pinned (OpenSpec.upto placeAllSpec)

/-- 'switchboardlaw17.PlaceOthers', WHERE WHAT IT READS IS OF BULK AT MOST 1048576: true; the input reads as it did. -/
def placeOthersUptoRow : OpenClaim := { program := "ytpiakfdapobflaa", sum := "a37f3bfefac6661a7a19b6e30291ce814e8af03ce26d64c5ac7c4daa5994ba75", func := "switchboard/switchboardlaw17.PlaceOthers", spec := "placeOthers", inPlace := ["slices.overlaps[int]"], apart := false, narrowed := true }
def PlaceOthersUptoSaid : Prop := placeOthersUptoRow.holds Try.pinned (OpenSpec.upto placeOthersSpec)

end Rows
end Go.Proofs.Ytpiakfdapobflaa
