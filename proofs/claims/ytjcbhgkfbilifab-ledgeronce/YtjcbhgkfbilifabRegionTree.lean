/- A region that draws its order, walked as a tree: some operations are taken first, at others each that may come up has its way. No condition. -/
import Derived.Test.YtjcbhgkfbilifabRegionOrd
namespace Go.Proofs.Ytjcbhgkfbilifab
open Go.ChangeShapes Go.WideShapes Go.ChangeAt Go.RowKit
set_option linter.unusedVariables false

section
variable {P : Program} {ops : Array Oper} {Q : Exit → Act → World → Prop} {S : World → Prop} {listed : Array Bool} {g : Nat} {a : Act} {w : World}
theorem any_take (i : Nat) {o : Oper} {v : Value} (hs : Region.noSelect ops = true) (h1 : (Region.ready .any ops listed).contains i = true) (h2 : Region.free .any ops listed i = true) (ho : ops[i]? = some o) (hQ : ∀ c a w, Q (.panic c) (a.put o.dst v) w → Q (.panic c) a w) (hw : Region.wanted o (yielded ops a.tmps) = true) (hS : S w) (hy : ∀ w, S w → (execOp a.eval o).run P w = .ok (.value v) w) (h : wpAnyH P .any ops Q S g (listed.setIfInBounds i true) (a.put o.dst v) w) : wpAnyH P .any ops Q S (g + 1) listed a w :=
  wpAnyH_take ho hs h2 h1 hQ (.inl ⟨hw, hy⟩) hS h
theorem any_fork (l : List Nat) (hr : Region.ready .any ops listed = l) (hne : l ≠ []) (h : ∀ j ∈ l, wpOp P ops Q j (fun a' w' => S w' ∧ wpAnyH P .any ops Q S g (listed.setIfInBounds j true) a' w') a w) : wpAnyH P .any ops Q S (g + 1) listed a w :=
  wpAnyH_all hr hne h
theorem fork_one {p : Nat → Prop} {i : Nat} (h : p i) : ∀ j ∈ [i], p j := fun j hj => by
  obtain rfl := List.mem_singleton.1 hj
  exact h
theorem fork_more {p : Nat → Prop} {i : Nat} {l : List Nat} (h : p i) (h' : ∀ j ∈ l, p j) : ∀ j ∈ i :: l, p j := fun j hj => by
  rcases List.mem_cons.1 hj with rfl | hj
  · exact h
  · exact h' j hj
theorem any_op {i : Nat} {K : Act → World → Prop} {o : Oper} (ho : ops[i]? = some o) (h : ∀ K' : Act → World → Prop, (∀ a w, K a w → K' a w) → if Region.wanted o (yielded ops a.tmps) = true then Oper.wp P o a w K' Q else K' (a.put o.dst undef) w) : wpOp P ops Q i K a w :=
  wpOp_step ho h
theorem any_append {i : Nat} {K : Act → World → Prop} {o : Oper} (ho : ops[i]? = some o) (hg : o.guard = none) (s x : Operand) (t : TypeId)
    (hop : o.op = Op.call { callee := Callee.builtin Builtin.append, args := #[s, x], argTypes := #[t, t] }) {v : Value} {w' : World} (hr : (Builtin.append_ #[t, t] o.type #[a.eval s, a.eval x]).run P w = .ok v w') (h : K (a.put o.dst v) w') : wpOp P ops Q i K a w :=
  wpOp_step ho (fun K' hK => by
    have hw : Region.wanted o (yielded ops a.tmps) = true := by simp [Region.wanted, hg]
    rw [if_pos hw]
    unfold Oper.wp execOp
    simp only [hop, resolve, invoke, builtin, Sem.run_bind, Sem.run_pure, Result.andThen_ok, List.map_toArray, List.map_cons, List.map_nil, hr]
    exact hK _ _ h)
theorem any_done (hr : Region.ready .any ops listed = []) (h : Q .normal a w) : wpAnyH P .any ops Q S 0 listed a w := ⟨hr, h⟩
theorem region_tree {id n : Nat} (S : World → Prop) (hm : P.follows .mixedOrders = true) (hn : ops.size = n) (h : wpAnyH P .any ops Q S n (Array.replicate n false) a w.drew) : (Code.region id ops true).wp P Q a w := by
  refine wp_region_any hm ?_
  subst hn
  have mono : ∀ (fuel : Nat) (listed : Array Bool) (a : Act) (w : World), wpAnyH P .any ops Q S fuel listed a w → wpAnyH P .any ops Q (fun _ => True) fuel listed a w := by
    intro fuel
    induction fuel with
    | zero => exact fun _ _ _ h => h
    | succ fuel ih => exact fun listed a w h => ⟨h.1, fun i hi => wpOp_mono (fun a' w' h' => ⟨trivial, ih _ _ _ h'.2⟩) (h.2 i hi)⟩
  exact wpAny_of_held _ _ _ _ h
end
end Go.Proofs.Ytjcbhgkfbilifab
