/- The program's table, as far as the walks want it. -/
import Derived.Test.YtfidgcanolegfaaGreatRows
import Derived.Test.YtfidgcanolegfaaGreatJa
namespace Go.Proofs.YtfidgcanolegfaaGreat
open Go.ChangeShapes Go.WideShapes Go.ChangeAt Go.RowKit

theorem Tryz.infoInt : (Tryz.prog.info? 3).map (fun i => (i.zero, i.size, i.bytes)) = some (some (.int .i64 0), 1, 8) := by kernel_rfl

theorem Tryz.infoRow : (Tryz.prog.info? 42).map (fun i => (i.zero, i.size, i.bytes)) = some (some (.slice none 0 0), 1, 24) := by kernel_rfl

end Go.Proofs.YtfidgcanolegfaaGreat
