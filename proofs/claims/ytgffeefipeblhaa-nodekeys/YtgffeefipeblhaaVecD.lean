/- What the functions of package vec and the document's answers for layer 2 do when called (fourth part: Add). -/
import Derived.Test.YtgffeefipeblhaaVecC
namespace Go.Proofs.Ytgffeefipeblhaa
open Go.ChangeShapes Go.WideShapes Go.ChangeAt Go.RowKit

theorem wrap_sum (x y : Int) : IntKind.i64.wrap (Fx.hold x + Fx.hold y) = Fx.hold x + Fx.hold y := by
  have := Fx.hold_lo x; have := Fx.hold_hi x; have := Fx.hold_lo y; have := Fx.hold_hi y
  rw [IntKind.wrap_i64]; omega

end Go.Proofs.Ytgffeefipeblhaa
