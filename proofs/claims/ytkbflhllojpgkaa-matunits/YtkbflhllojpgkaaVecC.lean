/- What the functions of package vec and the document's answers for layer 2 do when called (third part: Add, Scale and Relu of the document). -/
import Derived.Test.YtkbflhllojpgkaaVecB
import Derived.Deep.RegionLaw
namespace Go.Proofs.Ytkbflhllojpgkaa
open Go.ChangeShapes Go.WideShapes Go.ChangeAt Go.RowKit

theorem Try.infoInt : (Try.prog.info? 3).map (fun i => (i.zero, i.size, i.bytes)) = some (some (.int .i64 0), 1, 8) := by kernel_rfl

/-- One number more at the end of a row that the call owns. -/
theorem own_snoc {w1 : World} {base n : Nat} {v' : Value} {l l' : List Int} {x : Int} (h : w1.ownsRow base 3 1 v' (n + 1) (l.map (Value.int .i64) ++ [.int .i64 x])) (e : l' = l ++ [x]) :
    w1.ownsRow base 3 1 v' (n + 1) (l'.map (Value.int .i64)) := by rw [e, List.map_append]; exact h

end Go.Proofs.Ytkbflhllojpgkaa
