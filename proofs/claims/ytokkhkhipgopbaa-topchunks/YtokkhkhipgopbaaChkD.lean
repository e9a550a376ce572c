/- What the document's Export of layer 16 does when called; rows and experts that are the same, or not. -/
import Derived.Test.YtokkhkhipgopbaaChkC
import Derived.Test.YtokkhkhipgopbaaSy
namespace Go.Proofs.Ytokkhkhipgopbaa
open Go.ChangeShapes Go.WideShapes Go.ChangeAt Go.RowKit

end Go.Proofs.Ytokkhkhipgopbaa
