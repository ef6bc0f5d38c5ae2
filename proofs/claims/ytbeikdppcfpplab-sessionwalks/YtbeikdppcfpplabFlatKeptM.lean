/- The law folder's helper Kept at a kind of flat structs: a list that was made by Own is as it was. No condition. -/
import Derived.Test.YtbeikdppcfpplabFlatFnM
import Derived.Test.YtbeikdppcfpplabHeld
namespace Go.Proofs.Ytbeikdppcfpplab
namespace FnM
open Go.ChangeShapes Go.WideShapes Go.ChangeAt Go.RowKit Sn
set_option linter.unusedVariables false

end FnM
end Go.Proofs.Ytbeikdppcfpplab
