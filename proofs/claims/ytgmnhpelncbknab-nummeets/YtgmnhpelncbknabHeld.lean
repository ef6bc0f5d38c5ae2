/- A region whose order Go leaves open, that reads cells which stay and calls what only makes new memory, is walked once: a class of worlds for the library's quiet walk. No condition. -/
import Derived.Test.YtgmnhpelncbknabChecked
import Derived.WalkKit
import Derived.ProofKit
import Derived.Below
import Derived.BigQuiet
import Derived.Deep.RegionHeld
namespace Go.Proofs.Ytgmnhpelncbknab
open Go.ChangeShapes Go.WideShapes Go.ChangeAt Go.RowKit

/-- worlds in which these cells hold these values, and nothing that lay in w0 has turned -/
structure Held (w0 : World) (l : List (Addr × Value)) where
  x : World
  below : Below w0.heap.size w0 x
  cells : ∀ p ∈ l, x.cell? p.1 = some p.2

def AllCells (x : World) : List (Addr × Value) → Prop
  | [] => True
  | p :: r => x.cell? p.1 = some p.2 ∧ AllCells x r

theorem allCells_of {x : World} : ∀ {l : List (Addr × Value)}, (∀ p ∈ l, x.cell? p.1 = some p.2) → AllCells x l
  | [], _ => trivial
  | p :: _, h => ⟨h p (by simp), allCells_of fun q hq => h q (by simp [hq])⟩

theorem of_allCells {x : World} : ∀ {l : List (Addr × Value)}, AllCells x l → ∀ p ∈ l, x.cell? p.1 = some p.2
  | [], _ => fun _ h => absurd h (by simp)
  | _ :: _, h => fun q hq => by
    rcases List.mem_cons.1 hq with rfl | hq
    · exact h.1
    · exact of_allCells h.2 q hq

def Held.later {w0 : World} {l : List (Addr × Value)} (y : Held w0 l) (w' : World) (hb : Below y.x.heap.size y.x w') : Held w0 l :=
  ⟨w', y.below.trans (hb.mono y.below.size), fun p hp => (hb.cell (World.block_lt_of_cell? y.x p.1 (y.cells p hp))).trans (y.cells p hp)⟩

theorem Held.call {P : Program} {f : FuncId} {args : Array Value} {v : Value} {w0 : World} {l : List (Addr × Value)} (y : Held w0 l)
    (h : Calls P f args y.x fun e w' => e = .returned v ∧ Below y.x.heap.size y.x w') : Calls P f args y.x fun e w'' => e = .returned v ∧ ∃ m : Held w0 l, w'' = m.x :=
  h.mono fun _ w' ⟨he, hb⟩ => ⟨he, y.later w' hb, rfl⟩

theorem Held.call_alloc {P : Program} {f : FuncId} {args : Array Value} {v : Value} {o : Obj} {w0 : World} {l : List (Addr × Value)} (y : Held w0 l)
    (h : Calls P f args y.x fun e w' => e = .returned v ∧ w' = y.x.alloc o) : Calls P f args y.x fun e w'' => e = .returned v ∧ ∃ m : Held w0 l, w'' = m.x :=
  h.mono fun _ w' ⟨he, hw⟩ => ⟨he, y.later w' (by rw [hw]; exact Below.alloc (Below.refl _ _) (Nat.le_refl _) _), rfl⟩

theorem wp_region_cells {P : Program} {id : Nat} {Q : Exit → Act → World → Prop} {a : Act} {w : World} {ops : List Oper} (w0 : World) (l : List (Addr × Value))
    (hm : P.follows .mixedOrders = true) (hB : Region.lexB .any ops.toArray = true) (hb : Below w0.heap.size w0 w) (hc : AllCells w l)
    (h : Nonempty (Held w0 l) → (∀ y : Held w0 l, AllCells y.x l) → wpQuiet P ops.toArray (fun x => ∃ y : Held w0 l, x = y.x) (fun a' => ∀ w', (∃ y : Held w0 l, w' = y.x) → Q .normal a' w') ops a) :
    (Code.region id ops.toArray true).wp P Q a w :=
  wp_region_quiet (C := fun x => ∃ y : Held w0 l, x = y.x) hm hB ⟨⟨w.drew, hb.drew, fun p hp => of_allCells hc p hp⟩, rfl⟩ (by simpa using h ⟨⟨w, hb, fun p hp => of_allCells hc p hp⟩⟩ fun y => allCells_of y.cells)
end Go.Proofs.Ytgmnhpelncbknab
