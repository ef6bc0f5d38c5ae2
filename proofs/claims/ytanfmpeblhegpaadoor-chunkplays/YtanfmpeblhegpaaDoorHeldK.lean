/- A region whose order Go leaves open, walked once in the text's order: worlds of any class that its calls keep, in which some cells hold. No condition. -/
import Derived.Test.YtanfmpeblhegpaaDoorHeld
namespace Go.Proofs.YtanfmpeblhegpaaDoor
open Go.ChangeShapes Go.WideShapes Go.ChangeAt Go.RowKit

/-- worlds of the class K in which these cells hold these values -/
structure HeldK (K : World → Prop) (l : List (Addr × Value)) where
  x : World
  ok : K x
  cells : ∀ p ∈ l, x.cell? p.1 = some p.2
theorem HeldK.call {P : Program} {f : FuncId} {args : Array Value} {v : Value} {K : World → Prop} {l : List (Addr × Value)} (y : HeldK K l)
    (h : Calls P f args y.x fun e w' => e = .returned v ∧ K w' ∧ AllCells w' l) : Calls P f args y.x fun e w'' => e = .returned v ∧ ∃ m : HeldK K l, w'' = m.x :=
  h.mono fun _ w' ⟨he, hk, hc⟩ => ⟨he, ⟨w', hk, of_allCells hc⟩, rfl⟩
theorem wp_region_heldK {P : Program} {id : Nat} {Q : Exit → Act → World → Prop} {a : Act} {w : World} {ops : List Oper} (K : World → Prop) (l : List (Addr × Value))
    (hm : P.follows .mixedOrders = true) (hB : Region.lexB .any ops.toArray = true) (hk : K w.drew) (hc : AllCells w l)
    (h : Nonempty (HeldK K l) → (∀ y : HeldK K l, AllCells y.x l) → wpQuiet P ops.toArray (fun x => ∃ y : HeldK K l, x = y.x) (fun a' => ∀ w', (∃ y : HeldK K l, w' = y.x) → Q .normal a' w') ops a) :
    (Code.region id ops.toArray true).wp P Q a w :=
  wp_region_quiet (C := fun x => ∃ y : HeldK K l, x = y.x) hm hB ⟨⟨w.drew, hk, fun p hp => of_allCells hc p hp⟩, rfl⟩ (by simpa using h ⟨⟨w.drew, hk, fun p hp => of_allCells hc p hp⟩⟩ fun y => allCells_of y.cells)
end Go.Proofs.YtanfmpeblhegpaaDoor
