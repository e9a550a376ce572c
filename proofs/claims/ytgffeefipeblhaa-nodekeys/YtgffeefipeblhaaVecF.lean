/- The fixed answer of the laws of layer 2. -/
import Derived.Test.YtgffeefipeblhaaVecE
namespace Go.Proofs.Ytgffeefipeblhaa
open Go.ChangeShapes Go.WideShapes Go.ChangeAt Go.RowKit

end Go.Proofs.Ytgffeefipeblhaa
