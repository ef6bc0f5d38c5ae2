/- A list of holders with one set in: the landed code. Condition: the list can be read, and is in order. -/
import Derived.Test.YtjcbhgkfbilifabAcoOwn
import Derived.Test.YtjcbhgkfbilifabAcoPlace
import Derived.Test.YtjcbhgkfbilifabAcoFind
import Derived.Test.YtjcbhgkfbilifabFlatInsH
namespace Go.Proofs.Ytjcbhgkfbilifab
open Go.ChangeShapes Go.WideShapes Go.ChangeAt Go.RowKit Ao
set_option linter.unusedVariables false

theorem set4 (w : World) (g o : Nat) (m : Hd) : w.setCells g o (henc m) = (((w.setCell ⟨g, o, none⟩ (.int .i64 m.nd)).setCell ⟨g, o + 1, none⟩ (.int .i64 m.ls)).setCell ⟨g, o + 2, none⟩ (.int .i64 m.up)).setCell ⟨g, o + 3, none⟩ (.int .i64 m.dn) := rfl
end Go.Proofs.Ytjcbhgkfbilifab
