/- What the functions of package vec do when called (fifth part: Scale and Relu), and the laws' fixed answer. -/
import Derived.Test.YtgbcneiciefkkaaVecD
namespace Go.Proofs.Ytgbcneiciefkkaa
open Go.ChangeShapes Go.WideShapes Go.ChangeAt Go.RowKit

end Go.Proofs.Ytgbcneiciefkkaa
