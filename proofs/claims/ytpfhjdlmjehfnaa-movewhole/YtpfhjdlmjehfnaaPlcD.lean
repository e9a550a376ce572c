/- What Retire of package place does when called. -/
import Derived.Test.YtpfhjdlmjehfnaaPlcB
namespace Go.Proofs.Ytpfhjdlmjehfnaa
open Go.ChangeShapes Go.WideShapes Go.ChangeAt Go.RowKit

end Go.Proofs.Ytpfhjdlmjehfnaa
