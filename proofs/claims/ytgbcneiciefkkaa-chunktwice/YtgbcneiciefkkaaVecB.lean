/- What the functions of package vec and the document's answers for layer 2 do when called (second part: Dot). -/
import Derived.Test.YtgbcneiciefkkaaVecA
namespace Go.Proofs.Ytgbcneiciefkkaa
open Go.ChangeShapes Go.WideShapes Go.ChangeAt Go.RowKit

end Go.Proofs.Ytgbcneiciefkkaa
