/- What the functions of package fix, the document's answers for layer 1, and the laws' fixed answer do when called: the integer functions of Fx, the world as it was, for every int. -/
import Derived.Test.YtfbghicknaldcaaBase
import Derived.Test.YtfbghicknaldcaaFx
namespace Go.Proofs.Ytfbghicknaldcaa
open Go.ChangeShapes Go.WideShapes Go.ChangeAt Go.RowKit

end Go.Proofs.Ytfbghicknaldcaa
