/- The law folder's helper Kept at a kind of flat structs: a list that was made by Own is as it was. No condition. -/
import Derived.Test.YtfolpnjndlklkabFlatFnH
import Derived.Test.YtfolpnjndlklkabHeld
namespace Go.Proofs.Ytfolpnjndlklkab
namespace FnH
open Go.ChangeShapes Go.WideShapes Go.ChangeAt Go.RowKit Ao
set_option linter.unusedVariables false

end FnH
end Go.Proofs.Ytfolpnjndlklkab
