/- A model of one layer with one expert, which literals lay (out of MdlW). -/
import Derived.Test.YtokfcjgfpchffaaGreatDoorMdlA
import Derived.Test.YtokfcjgfpchffaaGreatDoorKe
namespace Go.Proofs.YtokfcjgfpchffaaGreatDoor
open Go.ChangeShapes Go.WideShapes Go.ChangeAt Go.RowKit

namespace Md
def lyA : Ly := ([[65536]], [([[65536]], [[65536]], ())], 1, ())
theorem oneRight : Mx.Right [[65536]] 1 1 := ⟨rfl, fun l hl => by rw [List.mem_singleton.1 hl]; exact ⟨rfl, fun n hn => by rw [List.mem_singleton.1 hn]; rfl⟩⟩
theorem lyA_right : LRight lyA 1 := ⟨by decide, by decide, oneRight, by decide, by decide, fun x hx => by rw [List.mem_singleton.1 hx]; exact ⟨by decide, by decide, oneRight, oneRight⟩⟩
theorem modA_right : Right 1 [lyA] := ⟨by decide, by decide, by decide, by decide, fun l hl => by rw [List.mem_singleton.1 hl]; exact lyA_right⟩
theorem tokA_right : TRight 1 [[7]] := ⟨by decide, by decide, rfl, fun l hl => by rw [List.mem_singleton.1 hl]; exact ⟨rfl, fun n hn => by rw [List.mem_singleton.1 hn]; rfl⟩⟩
end Md

end Go.Proofs.YtokfcjgfpchffaaGreatDoor
