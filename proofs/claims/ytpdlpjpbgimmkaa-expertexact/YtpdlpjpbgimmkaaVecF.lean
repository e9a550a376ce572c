/- The fixed answer of the laws of layer 2. -/
import Derived.Test.YtpdlpjpbgimmkaaVecE
namespace Go.Proofs.Ytpdlpjpbgimmkaa
open Go.ChangeShapes Go.WideShapes Go.ChangeAt Go.RowKit

end Go.Proofs.Ytpdlpjpbgimmkaa
