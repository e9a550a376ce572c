/- The fixed answer of the laws of layer 2. -/
import Derived.Test.YtmechoeoaadfeaaVecE
namespace Go.Proofs.Ytmechoeoaadfeaa
open Go.ChangeShapes Go.WideShapes Go.ChangeAt Go.RowKit

end Go.Proofs.Ytmechoeoaadfeaa
