/- What the functions of package vec and the document's answers for layer 2 do when called (third part: Add, Scale and Relu of the document). -/
import Derived.Test.YtgbcneiciefkkaaVecB
namespace Go.Proofs.Ytgbcneiciefkkaa
open Go.ChangeShapes Go.WideShapes Go.ChangeAt Go.RowKit

end Go.Proofs.Ytgbcneiciefkkaa
