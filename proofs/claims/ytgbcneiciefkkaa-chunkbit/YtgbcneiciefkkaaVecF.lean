/- The fixed answer of the laws of layer 2. -/
import Derived.Test.YtgbcneiciefkkaaVecE
namespace Go.Proofs.Ytgbcneiciefkkaa
open Go.ChangeShapes Go.WideShapes Go.ChangeAt Go.RowKit

end Go.Proofs.Ytgbcneiciefkkaa
