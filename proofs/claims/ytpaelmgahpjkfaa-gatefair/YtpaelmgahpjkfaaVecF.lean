/- The fixed answer of the laws of layer 2. -/
import Derived.Test.YtpaelmgahpjkfaaVecE
namespace Go.Proofs.Ytpaelmgahpjkfaa
open Go.ChangeShapes Go.WideShapes Go.ChangeAt Go.RowKit

end Go.Proofs.Ytpaelmgahpjkfaa
