/- The fixed answer of the laws of layer 2. -/
import Derived.Test.YtokkhkhipgopbaaVecE
namespace Go.Proofs.Ytokkhkhipgopbaa
open Go.ChangeShapes Go.WideShapes Go.ChangeAt Go.RowKit

end Go.Proofs.Ytokkhkhipgopbaa
