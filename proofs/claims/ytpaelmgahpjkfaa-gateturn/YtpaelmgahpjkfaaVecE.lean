/- What the functions of package vec do when called (fifth part: Scale and Relu), and the laws' fixed answer. -/
import Derived.Test.YtpaelmgahpjkfaaVecD
namespace Go.Proofs.Ytpaelmgahpjkfaa
open Go.ChangeShapes Go.WideShapes Go.ChangeAt Go.RowKit

end Go.Proofs.Ytpaelmgahpjkfaa
