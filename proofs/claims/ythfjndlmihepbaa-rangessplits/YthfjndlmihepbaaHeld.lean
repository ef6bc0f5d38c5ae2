/- A region whose order Go leaves open, that reads cells which stay and calls what only makes new memory, is walked once: a class of worlds for the library's quiet walk. No condition. -/
import Derived.Test.YthfjndlmihepbaaChecked
import Derived.WalkKit
import Derived.ProofKit
import Derived.Below
import Derived.BigQuiet
import Derived.Deep.RegionHeld
namespace Go.Proofs.Ythfjndlmihepbaa
open Go.ChangeShapes Go.WideShapes Go.ChangeAt Go.RowKit

/-- worlds in which these cells hold these values, and nothing that lay in w0 has turned -/
structure Held (w0 : World) (l : List (Addr × Value)) where
  x : World
  below : Below w0.heap.size w0 x
  cells : ∀ p ∈ l, x.cell? p.1 = some p.2

def AllCells (x : World) : List (Addr × Value) → Prop
  | [] => True
  | p :: r => x.cell? p.1 = some p.2 ∧ AllCells x r

theorem allCells_of {x : World} : ∀ {l : List (Addr × Value)}, (∀ p ∈ l, x.cell? p.1 = some p.2) → AllCells x l
  | [], _ => trivial
  | p :: _, h => ⟨h p (by simp), allCells_of fun q hq => h q (by simp [hq])⟩

theorem of_allCells {x : World} : ∀ {l : List (Addr × Value)}, AllCells x l → ∀ p ∈ l, x.cell? p.1 = some p.2
  | [], _ => fun _ h => absurd h (by simp)
  | _ :: _, h => fun q hq => by
    rcases List.mem_cons.1 hq with rfl | hq
    · exact h.1
    · exact of_allCells h.2 q hq

theorem allCells_below {W w1 : World} (hb : Below W.heap.size W w1) : ∀ {l : List (Addr × Value)}, AllCells W l → AllCells w1 l
  | [], _ => trivial
  | p :: _, h => ⟨(hb.cell (World.block_lt_of_cell? W p.1 h.1)).trans h.1, allCells_below hb h.2⟩
theorem allCells_alloc {W : World} (o : Obj) {l : List (Addr × Value)} (h : AllCells W l) : AllCells (W.alloc o) l :=
  allCells_below (Below.alloc (Below.refl _ _) (Nat.le_refl _) o) h
theorem allCells_new2 (W : World) (a b : Value) (t : TypeId) : AllCells (W.alloc (.cells #[a, b] t)) [(⟨W.heap.size, 0, none⟩, a), (⟨W.heap.size, 1, none⟩, b)] :=
  ⟨by simp, by simp, trivial⟩
theorem allCells_append {W : World} : ∀ {l r : List (Addr × Value)}, AllCells W l → AllCells W r → AllCells W (l ++ r)
  | [], _, _, hr => hr
  | _ :: _, _, hl, hr => ⟨hl.1, allCells_append hl.2 hr⟩
theorem below_step {w W w1 : World} (h : Below w.heap.size w W) (hb : Below W.heap.size W w1) : Below w.heap.size w w1 := h.trans (hb.mono h.size)
theorem below_alloc {w W : World} (h : Below w.heap.size w W) (o : Obj) : Below w.heap.size w (W.alloc o) := h.alloc h.size o

def Held.later {w0 : World} {l : List (Addr × Value)} (y : Held w0 l) (w' : World) (hb : Below y.x.heap.size y.x w') : Held w0 l :=
  ⟨w', y.below.trans (hb.mono y.below.size), fun p hp => (hb.cell (World.block_lt_of_cell? y.x p.1 (y.cells p hp))).trans (y.cells p hp)⟩

theorem Held.call {P : Program} {f : FuncId} {args : Array Value} {v : Value} {w0 : World} {l : List (Addr × Value)} (y : Held w0 l)
    (h : Calls P f args y.x fun e w' => e = .returned v ∧ Below y.x.heap.size y.x w') : Calls P f args y.x fun e w'' => e = .returned v ∧ ∃ m : Held w0 l, w'' = m.x :=
  h.mono fun _ w' ⟨he, hb⟩ => ⟨he, y.later w' hb, rfl⟩

theorem Held.call_alloc {P : Program} {f : FuncId} {args : Array Value} {v : Value} {o : Obj} {w0 : World} {l : List (Addr × Value)} (y : Held w0 l)
    (h : Calls P f args y.x fun e w' => e = .returned v ∧ w' = y.x.alloc o) : Calls P f args y.x fun e w'' => e = .returned v ∧ ∃ m : Held w0 l, w'' = m.x :=
  h.mono fun _ w' ⟨he, hw⟩ => ⟨he, y.later w' (by rw [hw]; exact Below.alloc (Below.refl _ _) (Nat.le_refl _) _), rfl⟩

theorem wp_region_cells {P : Program} {id : Nat} {Q : Exit → Act → World → Prop} {a : Act} {w : World} {ops : List Oper} (w0 : World) (l : List (Addr × Value))
    (hm : P.follows .mixedOrders = true) (hB : Region.lexB .any ops.toArray = true) (hb : Below w0.heap.size w0 w) (hc : AllCells w l)
    (h : Nonempty (Held w0 l) → (∀ y : Held w0 l, AllCells y.x l) → wpQuiet P ops.toArray (fun x => ∃ y : Held w0 l, x = y.x) (fun a' => ∀ w', (∃ y : Held w0 l, w' = y.x) → Q .normal a' w') ops a) :
    (Code.region id ops.toArray true).wp P Q a w :=
  wp_region_quiet (C := fun x => ∃ y : Held w0 l, x = y.x) hm hB ⟨⟨w.drew, hb.drew, fun p hp => of_allCells hc p hp⟩, rfl⟩ (by simpa using h ⟨⟨w, hb, fun p hp => of_allCells hc p hp⟩⟩ fun y => allCells_of y.cells)
end Go.Proofs.Ythfjndlmihepbaa
