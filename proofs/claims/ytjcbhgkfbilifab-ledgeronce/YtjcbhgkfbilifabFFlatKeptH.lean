/- The law folder's helper Kept at a kind of flat structs: a list that was made by Own is as it was. No condition. -/
import Derived.Test.YtjcbhgkfbilifabFFlatFnH
import Derived.Test.YtjcbhgkfbilifabJV
namespace Go.Proofs.Ytjcbhgkfbilifab
namespace FnH
open Go.ChangeShapes Go.WideShapes Go.ChangeAt Go.RowKit Ao
set_option linter.unusedVariables false

end FnH
end Go.Proofs.Ytjcbhgkfbilifab
