/- What Add answers: the landed code. Condition: the account can be read. -/
import Derived.Test.YtjcbhgkfbilifabFAcoMade
import Derived.Laws.Tables
namespace Go.Proofs.Ytjcbhgkfbilifab
open Go.ChangeShapes Go.WideShapes Go.ChangeAt Go.RowKit Ao
set_option linter.unusedVariables false

end Go.Proofs.Ytjcbhgkfbilifab
