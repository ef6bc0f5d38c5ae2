/- A region that draws its order, walked in an order of one's own: some operations are taken first, at the others nothing else may come up; a condition on the worlds may begin in the midst of it. No condition. -/
import Derived.Test.YtjcbhgkfbilifabBase
import Derived.OrdersHeld
import Derived.RegionTactic
namespace Go.Proofs.Ytjcbhgkfbilifab
open Go.ChangeShapes Go.WideShapes Go.ChangeAt Go.RowKit
set_option linter.unusedVariables false

section
variable {P : Program} {md : Region.Mode} {ops : Array Oper} {Q : Exit → Act → World → Prop} {S : World → Prop}
/-- is it an order: (i, true): i may be taken first; (i, false): i alone may come up -/
def ordB (md : Region.Mode) (ops : Array Oper) : List (Nat × Bool) → Array Bool → Bool
  | [], _ => true
  | (i, true) :: r, listed => (Region.ready md ops listed).contains i && Region.free md ops listed i && ordB md ops r (listed.setIfInBounds i true)
  | (i, false) :: r, listed => decide (Region.ready md ops listed = [i]) && ordB md ops r (listed.setIfInBounds i true)
/-- what has come up behind it -/
def ordL : List (Nat × Bool) → Array Bool → Array Bool
  | [], listed => listed
  | (i, _) :: r, listed => ordL r (listed.setIfInBounds i true)
def wpOrd (P : Program) (ops : Array Oper) (Q : Exit → Act → World → Prop) (S : World → Prop) (K : Act → World → Prop) : List (Nat × Bool) → Act → World → Prop
  | [], a, w => K a w
  | (i, true) :: r, a, w => ∃ o v, ops[i]? = some o ∧ YieldsIf P ops S o v a ∧ S w ∧ (∀ c a w, Q (.panic c) (a.put o.dst v) w → Q (.panic c) a w) ∧ wpOrd P ops Q S K r (a.put o.dst v) w
  | (i, false) :: r, a, w => wpOp P ops Q i (fun a' w' => S w' ∧ wpOrd P ops Q S K r a' w') a w
theorem ord_take {K : Act → World → Prop} {i : Nat} {r : List (Nat × Bool)} {a : Act} {w : World} {o : Oper} {v : Value} (ho : ops[i]? = some o) (hQ : ∀ c a w, Q (.panic c) (a.put o.dst v) w → Q (.panic c) a w) (hw : Region.wanted o (yielded ops a.tmps) = true) (hS : S w) (hy : ∀ w, S w → (execOp a.eval o).run P w = .ok (.value v) w) (h : wpOrd P ops Q S K r (a.put o.dst v) w) : wpOrd P ops Q S K ((i, true) :: r) a w :=
  ⟨o, v, ho, .inl ⟨hw, hy⟩, hS, hQ, h⟩
theorem ord_only {K : Act → World → Prop} {i : Nat} {r : List (Nat × Bool)} {a : Act} {w : World} {o : Oper} (ho : ops[i]? = some o)
    (h : ∀ K' : Act → World → Prop, (∀ a w, (S w ∧ wpOrd P ops Q S K r a w) → K' a w) → if Region.wanted o (yielded ops a.tmps) = true then Oper.wp P o a w K' Q else K' (a.put o.dst undef) w) : wpOrd P ops Q S K ((i, false) :: r) a w :=
  wpOp_step ho h
theorem wpAnyH_ord (hs : Region.noSelect ops = true) {K : Act → World → Prop} {g : Nat} : ∀ (ord : List (Nat × Bool)) (listed : Array Bool) (a : Act) (w : World), ordB md ops ord listed = true → (∀ a w, K a w → wpAnyH P md ops Q S g (ordL ord listed) a w) → wpOrd P ops Q S K ord a w → wpAnyH P md ops Q S (ord.length + g) listed a w
  | [], listed, a, w, _, hK, h => by
    rw [List.length_nil, Nat.zero_add]
    exact hK a w h
  | (i, true) :: r, listed, a, w, hB, hK, h => by
    obtain ⟨o, v, ho, hy, hS, hQ, hr⟩ := h
    simp only [ordB, Bool.and_eq_true] at hB
    rw [List.length_cons, Nat.add_right_comm]
    exact wpAnyH_take ho hs hB.1.2 hB.1.1 hQ hy hS (wpAnyH_ord hs r _ _ _ hB.2 hK hr)
  | (i, false) :: r, listed, a, w, hB, hK, h => by
    simp only [ordB, Bool.and_eq_true, decide_eq_true_eq] at hB
    rw [List.length_cons, Nat.add_right_comm]
    refine wpAnyH_all hB.1 (by simp) fun j hj => ?_
    obtain rfl := List.mem_singleton.1 hj
    exact wpOp_mono (fun a' w' h' => ⟨h'.1, wpAnyH_ord hs r _ _ _ hB.2 hK h'.2⟩) h
/-- the whole region: the first part under no condition, the second under S -/
theorem ord_next {o2 : List (Nat × Bool)} {a : Act} {w : World} (S : World → Prop) (h : wpOrd P ops Q S (Q .normal) o2 a w) : wpOrd P ops Q (fun _ => True) (fun a w => ∃ S, wpOrd P ops Q S (Q .normal) o2 a w) [] a w := ⟨S, h⟩
theorem ord_done {a : Act} {w : World} (h : Q .normal a w) : wpOrd P ops Q S (Q .normal) [] a w := h
theorem region_ord {id : Nat} {a : Act} {w : World} (o1 o2 : List (Nat × Bool)) (hm : P.follows .mixedOrders = true) (hs : Region.noSelect ops = true)
    (h1 : ordB .any ops o1 (Array.replicate ops.size false) = true) (h2 : ordB .any ops o2 (ordL o1 (Array.replicate ops.size false)) = true) (h3 : Region.ready .any ops (ordL o2 (ordL o1 (Array.replicate ops.size false))) = []) (hn : o1.length + (o2.length + 0) = ops.size)
    (h : wpOrd P ops Q (fun _ => True) (fun a w => ∃ S, wpOrd P ops Q S (Q .normal) o2 a w) o1 a w.drew) : (Code.region id ops true).wp P Q a w := by
  refine wp_region_any hm ?_
  have mono : ∀ (S : World → Prop) (fuel : Nat) (listed : Array Bool) (a : Act) (w : World), wpAnyH P .any ops Q S fuel listed a w → wpAnyH P .any ops Q (fun _ => True) fuel listed a w := by
    intro S fuel
    induction fuel with
    | zero => exact fun _ _ _ h => h
    | succ fuel ih => exact fun listed a w h => ⟨h.1, fun i hi => wpOp_mono (fun a' w' h' => ⟨trivial, ih _ _ _ h'.2⟩) (h.2 i hi)⟩
  have key := wpAnyH_ord (P := P) (md := .any) (ops := ops) (Q := Q) (S := fun _ => True) (g := o2.length + 0) hs o1 _ a w.drew h1 (fun a' w' ⟨S, h'⟩ => mono S _ _ _ _ (wpAnyH_ord hs o2 _ a' w' h2 (fun a2 w2 h2' => ⟨h3, h2'⟩) h')) h
  rw [hn] at key
  exact wpAny_of_held _ _ _ _ key
end
end Go.Proofs.Ytjcbhgkfbilifab
