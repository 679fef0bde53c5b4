/- A text as a slice of bytes of the call's own. -/
import Derived.Test.YtoecikeleoaecaaGreatKBase
namespace Go.Proofs.YtoecikeleoaecaaGreat
set_option maxRecDepth 4000
open Go.ChangeShapes Go.WideShapes Go.ChangeAt Go.RowKit
set_option linter.unusedVariables false

end Go.Proofs.YtoecikeleoaecaaGreat
