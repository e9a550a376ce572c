/- What the functions of package vec and the document's answers for layer 2 do when called (third part: Add, Scale and Relu of the document). -/
import Derived.Test.YtokkhkhipgopbaaVecB
namespace Go.Proofs.Ytokkhkhipgopbaa
open Go.ChangeShapes Go.WideShapes Go.ChangeAt Go.RowKit

end Go.Proofs.Ytokkhkhipgopbaa
