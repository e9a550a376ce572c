/- 2 texts as one, in their order: Sy, PlcG. -/
import Derived.Test.YtokfcjgfpchffaaGreatDoorKe
import Derived.Test.YtokfcjgfpchffaaGreatDoorKb
import Derived.Test.YtokfcjgfpchffaaGreatDoorPlcC
import Derived.Test.YtokfcjgfpchffaaGreatDoorPlcD
import Derived.Test.YtokfcjgfpchffaaGreatDoorJm

/- 'Same' of rows and of rows of rows, told both ways. -/
namespace Go.Proofs.YtokfcjgfpchffaaGreatDoor
open Go.ChangeShapes Go.WideShapes Go.ChangeAt Go.RowKit
end Go.Proofs.YtokfcjgfpchffaaGreatDoor

/- Add and Retire over whatever maps, and the fixed answer of layer 17's statements. -/
namespace Go.Proofs.YtokfcjgfpchffaaGreatDoor
open Go.ChangeShapes Go.WideShapes Go.ChangeAt Go.RowKit

theorem Pl.one_right {e : Int} {l : List Int} (he : 0 ≤ e ∧ e ≤ 2147483647) (hl : l ∈ Pl.rows) : Pl.Right e [l] := ⟨he, by simp, fun k hk => by rw [List.mem_singleton.1 hk]; exact Pl.rows_ok hl⟩
end Go.Proofs.YtokfcjgfpchffaaGreatDoor
