/- A region whose order Go leaves open, that reads cells which stay and calls what only makes new memory, is walked once: a class of worlds for the library's quiet walk. No condition. A region that draws its order, walked in an order of one's own: some operations are taken first, at the others nothing else may come up; a condition on the worlds may begin in the midst of it. No condition. A region that draws its order, walked as a tree: some operations are taken first, at others each that may come up has its way. No condition. -/
import Derived.Test.YtjcbhgkfbilifaaChecked
import Derived.WalkKit
import Derived.ProofKit
import Derived.Below
import Derived.BigQuiet
import Derived.Deep.RegionHeld
import Derived.Test.YtjcbhgkfbilifaaJA
import Derived.OrdersHeld
import Derived.RegionTactic
namespace Go.Proofs.Ytjcbhgkfbilifaa
open Go.ChangeShapes Go.WideShapes Go.ChangeAt Go.RowKit

/-- worlds in which these cells hold these values, and nothing that lay in w0 has turned -/
structure Held (w0 : World) (l : List (Addr × Value)) where
  x : World
  below : Below w0.heap.size w0 x
  cells : ∀ p ∈ l, x.cell? p.1 = some p.2

def AllCells (x : World) : List (Addr × Value) → Prop
  | [] => True
  | p :: r => x.cell? p.1 = some p.2 ∧ AllCells x r

theorem allCells_of {x : World} : ∀ {l : List (Addr × Value)}, (∀ p ∈ l, x.cell? p.1 = some p.2) → AllCells x l
  | [], _ => trivial
  | p :: _, h => ⟨h p (by simp), allCells_of fun q hq => h q (by simp [hq])⟩

theorem of_allCells {x : World} : ∀ {l : List (Addr × Value)}, AllCells x l → ∀ p ∈ l, x.cell? p.1 = some p.2
  | [], _ => fun _ h => absurd h (by simp)
  | _ :: _, h => fun q hq => by
    rcases List.mem_cons.1 hq with rfl | hq
    · exact h.1
    · exact of_allCells h.2 q hq

theorem allCells_below {W w1 : World} (hb : Below W.heap.size W w1) : ∀ {l : List (Addr × Value)}, AllCells W l → AllCells w1 l
  | [], _ => trivial
  | p :: _, h => ⟨(hb.cell (World.block_lt_of_cell? W p.1 h.1)).trans h.1, allCells_below hb h.2⟩
theorem allCells_alloc {W : World} (o : Obj) {l : List (Addr × Value)} (h : AllCells W l) : AllCells (W.alloc o) l :=
  allCells_below (Below.alloc (Below.refl _ _) (Nat.le_refl _) o) h
theorem allCells_new2 (W : World) (a b : Value) (t : TypeId) : AllCells (W.alloc (.cells #[a, b] t)) [(⟨W.heap.size, 0, none⟩, a), (⟨W.heap.size, 1, none⟩, b)] :=
  ⟨by simp, by simp, trivial⟩
theorem allCells_append {W : World} : ∀ {l r : List (Addr × Value)}, AllCells W l → AllCells W r → AllCells W (l ++ r)
  | [], _, _, hr => hr
  | _ :: _, _, hl, hr => ⟨hl.1, allCells_append hl.2 hr⟩
theorem below_step {w W w1 : World} (h : Below w.heap.size w W) (hb : Below W.heap.size W w1) : Below w.heap.size w w1 := h.trans (hb.mono h.size)
theorem below_alloc {w W : World} (h : Below w.heap.size w W) (o : Obj) : Below w.heap.size w (W.alloc o) := h.alloc h.size o

def Held.later {w0 : World} {l : List (Addr × Value)} (y : Held w0 l) (w' : World) (hb : Below y.x.heap.size y.x w') : Held w0 l :=
  ⟨w', y.below.trans (hb.mono y.below.size), fun p hp => (hb.cell (World.block_lt_of_cell? y.x p.1 (y.cells p hp))).trans (y.cells p hp)⟩

theorem Held.call {P : Program} {f : FuncId} {args : Array Value} {v : Value} {w0 : World} {l : List (Addr × Value)} (y : Held w0 l)
    (h : Calls P f args y.x fun e w' => e = .returned v ∧ Below y.x.heap.size y.x w') : Calls P f args y.x fun e w'' => e = .returned v ∧ ∃ m : Held w0 l, w'' = m.x :=
  h.mono fun _ w' ⟨he, hb⟩ => ⟨he, y.later w' hb, rfl⟩

theorem Held.call_alloc {P : Program} {f : FuncId} {args : Array Value} {v : Value} {o : Obj} {w0 : World} {l : List (Addr × Value)} (y : Held w0 l)
    (h : Calls P f args y.x fun e w' => e = .returned v ∧ w' = y.x.alloc o) : Calls P f args y.x fun e w'' => e = .returned v ∧ ∃ m : Held w0 l, w'' = m.x :=
  h.mono fun _ w' ⟨he, hw⟩ => ⟨he, y.later w' (by rw [hw]; exact Below.alloc (Below.refl _ _) (Nat.le_refl _) _), rfl⟩

theorem wp_region_cells {P : Program} {id : Nat} {Q : Exit → Act → World → Prop} {a : Act} {w : World} {ops : List Oper} (w0 : World) (l : List (Addr × Value))
    (hm : P.follows .mixedOrders = true) (hB : Region.lexB .any ops.toArray = true) (hb : Below w0.heap.size w0 w) (hc : AllCells w l)
    (h : Nonempty (Held w0 l) → (∀ y : Held w0 l, AllCells y.x l) → wpQuiet P ops.toArray (fun x => ∃ y : Held w0 l, x = y.x) (fun a' => ∀ w', (∃ y : Held w0 l, w' = y.x) → Q .normal a' w') ops a) :
    (Code.region id ops.toArray true).wp P Q a w :=
  wp_region_quiet (C := fun x => ∃ y : Held w0 l, x = y.x) hm hB ⟨⟨w.drew, hb.drew, fun p hp => of_allCells hc p hp⟩, rfl⟩ (by simpa using h ⟨⟨w, hb, fun p hp => of_allCells hc p hp⟩⟩ fun y => allCells_of y.cells)
end Go.Proofs.Ytjcbhgkfbilifaa

namespace Go.Proofs.Ytjcbhgkfbilifaa
open Go.ChangeShapes Go.WideShapes Go.ChangeAt Go.RowKit
set_option linter.unusedVariables false

section
variable {P : Program} {md : Region.Mode} {ops : Array Oper} {Q : Exit → Act → World → Prop} {S : World → Prop}
/-- is it an order: (i, true): i may be taken first; (i, false): i alone may come up -/
def ordB (md : Region.Mode) (ops : Array Oper) : List (Nat × Bool) → Array Bool → Bool
  | [], _ => true
  | (i, true) :: r, listed => (Region.ready md ops listed).contains i && Region.free md ops listed i && ordB md ops r (listed.setIfInBounds i true)
  | (i, false) :: r, listed => decide (Region.ready md ops listed = [i]) && ordB md ops r (listed.setIfInBounds i true)
/-- what has come up behind it -/
def ordL : List (Nat × Bool) → Array Bool → Array Bool
  | [], listed => listed
  | (i, _) :: r, listed => ordL r (listed.setIfInBounds i true)
def wpOrd (P : Program) (ops : Array Oper) (Q : Exit → Act → World → Prop) (S : World → Prop) (K : Act → World → Prop) : List (Nat × Bool) → Act → World → Prop
  | [], a, w => K a w
  | (i, true) :: r, a, w => ∃ o v, ops[i]? = some o ∧ YieldsIf P ops S o v a ∧ S w ∧ (∀ c a w, Q (.panic c) (a.put o.dst v) w → Q (.panic c) a w) ∧ wpOrd P ops Q S K r (a.put o.dst v) w
  | (i, false) :: r, a, w => wpOp P ops Q i (fun a' w' => S w' ∧ wpOrd P ops Q S K r a' w') a w
theorem ord_take {K : Act → World → Prop} {i : Nat} {r : List (Nat × Bool)} {a : Act} {w : World} {o : Oper} {v : Value} (ho : ops[i]? = some o) (hQ : ∀ c a w, Q (.panic c) (a.put o.dst v) w → Q (.panic c) a w) (hw : Region.wanted o (yielded ops a.tmps) = true) (hS : S w) (hy : ∀ w, S w → (execOp a.eval o).run P w = .ok (.value v) w) (h : wpOrd P ops Q S K r (a.put o.dst v) w) : wpOrd P ops Q S K ((i, true) :: r) a w :=
  ⟨o, v, ho, .inl ⟨hw, hy⟩, hS, hQ, h⟩
theorem ord_only {K : Act → World → Prop} {i : Nat} {r : List (Nat × Bool)} {a : Act} {w : World} {o : Oper} (ho : ops[i]? = some o)
    (h : ∀ K' : Act → World → Prop, (∀ a w, (S w ∧ wpOrd P ops Q S K r a w) → K' a w) → if Region.wanted o (yielded ops a.tmps) = true then Oper.wp P o a w K' Q else K' (a.put o.dst undef) w) : wpOrd P ops Q S K ((i, false) :: r) a w :=
  wpOp_step ho h
theorem wpAnyH_ord (hs : Region.noSelect ops = true) {K : Act → World → Prop} {g : Nat} : ∀ (ord : List (Nat × Bool)) (listed : Array Bool) (a : Act) (w : World), ordB md ops ord listed = true → (∀ a w, K a w → wpAnyH P md ops Q S g (ordL ord listed) a w) → wpOrd P ops Q S K ord a w → wpAnyH P md ops Q S (ord.length + g) listed a w
  | [], listed, a, w, _, hK, h => by
    rw [List.length_nil, Nat.zero_add]
    exact hK a w h
  | (i, true) :: r, listed, a, w, hB, hK, h => by
    obtain ⟨o, v, ho, hy, hS, hQ, hr⟩ := h
    simp only [ordB, Bool.and_eq_true] at hB
    rw [List.length_cons, Nat.add_right_comm]
    exact wpAnyH_take ho hs hB.1.2 hB.1.1 hQ hy hS (wpAnyH_ord hs r _ _ _ hB.2 hK hr)
  | (i, false) :: r, listed, a, w, hB, hK, h => by
    simp only [ordB, Bool.and_eq_true, decide_eq_true_eq] at hB
    rw [List.length_cons, Nat.add_right_comm]
    refine wpAnyH_all hB.1 (by simp) fun j hj => ?_
    obtain rfl := List.mem_singleton.1 hj
    exact wpOp_mono (fun a' w' h' => ⟨h'.1, wpAnyH_ord hs r _ _ _ hB.2 hK h'.2⟩) h
/-- the whole region: the first part under no condition, the second under S -/
theorem ord_next {o2 : List (Nat × Bool)} {a : Act} {w : World} (S : World → Prop) (h : wpOrd P ops Q S (Q .normal) o2 a w) : wpOrd P ops Q (fun _ => True) (fun a w => ∃ S, wpOrd P ops Q S (Q .normal) o2 a w) [] a w := ⟨S, h⟩
theorem ord_done {a : Act} {w : World} (h : Q .normal a w) : wpOrd P ops Q S (Q .normal) [] a w := h
theorem region_ord {id : Nat} {a : Act} {w : World} (o1 o2 : List (Nat × Bool)) (hm : P.follows .mixedOrders = true) (hs : Region.noSelect ops = true)
    (h1 : ordB .any ops o1 (Array.replicate ops.size false) = true) (h2 : ordB .any ops o2 (ordL o1 (Array.replicate ops.size false)) = true) (h3 : Region.ready .any ops (ordL o2 (ordL o1 (Array.replicate ops.size false))) = []) (hn : o1.length + (o2.length + 0) = ops.size)
    (h : wpOrd P ops Q (fun _ => True) (fun a w => ∃ S, wpOrd P ops Q S (Q .normal) o2 a w) o1 a w.drew) : (Code.region id ops true).wp P Q a w := by
  refine wp_region_any hm ?_
  have mono : ∀ (S : World → Prop) (fuel : Nat) (listed : Array Bool) (a : Act) (w : World), wpAnyH P .any ops Q S fuel listed a w → wpAnyH P .any ops Q (fun _ => True) fuel listed a w := by
    intro S fuel
    induction fuel with
    | zero => exact fun _ _ _ h => h
    | succ fuel ih => exact fun listed a w h => ⟨h.1, fun i hi => wpOp_mono (fun a' w' h' => ⟨trivial, ih _ _ _ h'.2⟩) (h.2 i hi)⟩
  have key := wpAnyH_ord (P := P) (md := .any) (ops := ops) (Q := Q) (S := fun _ => True) (g := o2.length + 0) hs o1 _ a w.drew h1 (fun a' w' ⟨S, h'⟩ => mono S _ _ _ _ (wpAnyH_ord hs o2 _ a' w' h2 (fun a2 w2 h2' => ⟨h3, h2'⟩) h')) h
  rw [hn] at key
  exact wpAny_of_held _ _ _ _ key
end
end Go.Proofs.Ytjcbhgkfbilifaa

namespace Go.Proofs.Ytjcbhgkfbilifaa
open Go.ChangeShapes Go.WideShapes Go.ChangeAt Go.RowKit
set_option linter.unusedVariables false

section
variable {P : Program} {ops : Array Oper} {Q : Exit → Act → World → Prop} {S : World → Prop} {listed : Array Bool} {g : Nat} {a : Act} {w : World}
theorem any_take (i : Nat) {o : Oper} {v : Value} (hs : Region.noSelect ops = true) (h1 : (Region.ready .any ops listed).contains i = true) (h2 : Region.free .any ops listed i = true) (ho : ops[i]? = some o) (hQ : ∀ c a w, Q (.panic c) (a.put o.dst v) w → Q (.panic c) a w) (hw : Region.wanted o (yielded ops a.tmps) = true) (hS : S w) (hy : ∀ w, S w → (execOp a.eval o).run P w = .ok (.value v) w) (h : wpAnyH P .any ops Q S g (listed.setIfInBounds i true) (a.put o.dst v) w) : wpAnyH P .any ops Q S (g + 1) listed a w :=
  wpAnyH_take ho hs h2 h1 hQ (.inl ⟨hw, hy⟩) hS h
theorem any_fork (l : List Nat) (hr : Region.ready .any ops listed = l) (hne : l ≠ []) (h : ∀ j ∈ l, wpOp P ops Q j (fun a' w' => S w' ∧ wpAnyH P .any ops Q S g (listed.setIfInBounds j true) a' w') a w) : wpAnyH P .any ops Q S (g + 1) listed a w :=
  wpAnyH_all hr hne h
theorem fork_one {p : Nat → Prop} {i : Nat} (h : p i) : ∀ j ∈ [i], p j := fun j hj => by
  obtain rfl := List.mem_singleton.1 hj
  exact h
theorem fork_more {p : Nat → Prop} {i : Nat} {l : List Nat} (h : p i) (h' : ∀ j ∈ l, p j) : ∀ j ∈ i :: l, p j := fun j hj => by
  rcases List.mem_cons.1 hj with rfl | hj
  · exact h
  · exact h' j hj
theorem any_op {i : Nat} {K : Act → World → Prop} {o : Oper} (ho : ops[i]? = some o) (h : ∀ K' : Act → World → Prop, (∀ a w, K a w → K' a w) → if Region.wanted o (yielded ops a.tmps) = true then Oper.wp P o a w K' Q else K' (a.put o.dst undef) w) : wpOp P ops Q i K a w :=
  wpOp_step ho h
theorem any_append {i : Nat} {K : Act → World → Prop} {o : Oper} (ho : ops[i]? = some o) (hg : o.guard = none) (s x : Operand) (t : TypeId)
    (hop : o.op = Op.call { callee := Callee.builtin Builtin.append, args := #[s, x], argTypes := #[t, t] }) {v : Value} {w' : World} (hr : (Builtin.append_ #[t, t] o.type #[a.eval s, a.eval x]).run P w = .ok v w') (h : K (a.put o.dst v) w') : wpOp P ops Q i K a w :=
  wpOp_step ho (fun K' hK => by
    have hw : Region.wanted o (yielded ops a.tmps) = true := by simp [Region.wanted, hg]
    rw [if_pos hw]
    unfold Oper.wp execOp
    simp only [hop, resolve, invoke, builtin, Sem.run_bind, Sem.run_pure, Result.andThen_ok, List.map_toArray, List.map_cons, List.map_nil, hr]
    exact hK _ _ h)
theorem any_done (hr : Region.ready .any ops listed = []) (h : Q .normal a w) : wpAnyH P .any ops Q S 0 listed a w := ⟨hr, h⟩
theorem region_tree {id n : Nat} (S : World → Prop) (hm : P.follows .mixedOrders = true) (hn : ops.size = n) (h : wpAnyH P .any ops Q S n (Array.replicate n false) a w.drew) : (Code.region id ops true).wp P Q a w := by
  refine wp_region_any hm ?_
  subst hn
  have mono : ∀ (fuel : Nat) (listed : Array Bool) (a : Act) (w : World), wpAnyH P .any ops Q S fuel listed a w → wpAnyH P .any ops Q (fun _ => True) fuel listed a w := by
    intro fuel
    induction fuel with
    | zero => exact fun _ _ _ h => h
    | succ fuel ih => exact fun listed a w h => ⟨h.1, fun i hi => wpOp_mono (fun a' w' h' => ⟨trivial, ih _ _ _ h'.2⟩) (h.2 i hi)⟩
  exact wpAny_of_held _ _ _ _ h
end
end Go.Proofs.Ytjcbhgkfbilifaa
