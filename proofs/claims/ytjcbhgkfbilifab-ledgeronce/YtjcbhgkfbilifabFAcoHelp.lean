/- The law folder's Account of two that hold the same answers true; lists with marks behind them. No condition but that the lists can be read. -/
import Derived.Test.YtjcbhgkfbilifabFAcoMade
import Derived.Test.YtjcbhgkfbilifabFFlatKeptH
namespace Go.Proofs.Ytjcbhgkfbilifab
open Go.ChangeShapes Go.WideShapes Go.ChangeAt Go.RowKit Ao
set_option linter.unusedVariables false

def mk71 : Hd := ⟨71, 0, 0, 0⟩
/-- what Own makes: the list, in a row with two marks behind it -/
structure Owned (w : World) (B g len : Nat) (l : List Hd) : Prop where
  row : w.ownsRow B 33 4 (.slice (some ⟨g, 0, none⟩) (len + 2) (len + 2)) (len + 2) (fcells henc (l ++ [mk71, mk71]))
  ms : Hs w (some ⟨g, 0, none⟩) len l
theorem Owned.below {w w' : World} {B g len : Nat} {l : List Hd} (h : Owned w B g len l) (hb : Below w.heap.size w w') : Owned w' B g len l := ⟨row_keeps h.row hb, h.ms.below hb⟩
end Go.Proofs.Ytjcbhgkfbilifab
