/- The law folder's helper Kept at a kind of flat structs: a list that was made by Own is as it was. No condition. -/
import Derived.Test.YtjcbhgkfbilifabFFlatFnR
import Derived.Test.YtjcbhgkfbilifabJV
namespace Go.Proofs.Ytjcbhgkfbilifab
namespace FnR
open Go.ChangeShapes Go.WideShapes Go.ChangeAt Go.RowKit Lg
set_option linter.unusedVariables false

end FnR
end Go.Proofs.Ytjcbhgkfbilifab
