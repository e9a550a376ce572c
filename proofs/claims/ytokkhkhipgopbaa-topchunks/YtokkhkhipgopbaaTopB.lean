/- What the document's answers for layer 4 do when called, and the fixed answer of the laws of layer 4. -/
import Derived.Test.YtokkhkhipgopbaaTopA
namespace Go.Proofs.Ytokkhkhipgopbaa
open Go.ChangeShapes Go.WideShapes Go.ChangeAt Go.RowKit



end Go.Proofs.Ytokkhkhipgopbaa
