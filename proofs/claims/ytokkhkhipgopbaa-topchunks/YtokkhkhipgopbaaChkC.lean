/- What the document's at, four, all and Export of layer 16 do when called. -/
import Derived.Test.YtokkhkhipgopbaaChkB
import Derived.Test.YtokkhkhipgopbaaTk
namespace Go.Proofs.Ytokkhkhipgopbaa
open Go.ChangeShapes Go.WideShapes Go.ChangeAt Go.RowKit

end Go.Proofs.Ytokkhkhipgopbaa
