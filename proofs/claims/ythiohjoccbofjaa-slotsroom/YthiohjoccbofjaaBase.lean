/- The program's table, as far as the walks want it. -/
import Derived.Test.YthiohjoccbofjaaRows
import Derived.Test.YthiohjoccbofjaaKit
namespace Go.Proofs.Ythiohjoccbofjaa
open Go.ChangeShapes Go.WideShapes Go.ChangeAt Go.RowKit

theorem Try.infoInt : (Try.prog.info? 3).map (fun i => (i.zero, i.size, i.bytes)) = some (some (.int .i64 0), 1, 8) := by kernel_rfl

end Go.Proofs.Ythiohjoccbofjaa
