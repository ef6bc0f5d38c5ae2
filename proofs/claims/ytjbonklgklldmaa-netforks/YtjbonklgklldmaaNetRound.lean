/- A region that draws its order inside a round of a range over a function: walked once, in the order of the text. No condition. -/
import Derived.Test.YtjbonklgklldmaaHeld
import Derived.OrdersIn
import Derived.TacticsIn
import Derived.RangeFuncCalls
namespace Go.Proofs.Ytjbonklgklldmaa
open Go.ChangeShapes Go.WideShapes Go.ChangeAt Go.RowKit
set_option linter.unusedVariables false

theorem rows_round {l n : Nat} {P : Program} {row : String} {args : Array Value} {w : World} {R : Value → World → Prop} (h : Rows P row args w R) : RowsIn (Fence.wide.inRound l) n P row args w R :=
  fun c cs _ => let ⟨v, w', r, s⟩ := h c cs; ⟨v, w', r, stepsIn_wide.2 s⟩
theorem upon_round {l n : Nat} {P : Program} {o : Oper} {a : Act} {next : Act → World → Prop} {Q : Exit → Act → World → Prop} {res : Result Next} (h : o.upon P a next Q res) : o.uponIn (Fence.wide.inRound l) n P a next Q res := by
  cases res with
  | ok x w' =>
    cases x with
    | value v => exact h
    | skip => exact h
    | defer d => exact h
    | enter f args => exact ⟨(fun hx => by cases hx), CallsIn.inRound l (callsIn_wide.2 h)⟩
    | row r args => exact ⟨(fun hx => by cases hx), rows_round h⟩
    | _ => first | exact h.elim | exact h
  | halt x w' => cases x <;> first | exact h | exact h.elim
theorem wpAny_round {l n : Nat} {P : Program} {md : Region.Mode} {ops : Array Oper} {Q : Exit → Act → World → Prop} (hd : ∀ (i : Nat) (o : Oper), ops[i]? = some o → ∀ c, o.op ≠ .defer c) (hq : ¬ LetsOut Q) :
    ∀ (fuel : Nat) (listed : Array Bool) (a : Act) (w : World), wpAny P md ops Q fuel listed a w → wpAnyIn (Fence.wide.inRound l) n P md ops Q fuel listed a w
  | 0, _, _, _, h => h
  | fuel + 1, listed, a, w, h => ⟨h.1, fun i hi => by
    have h2 := h.2 i hi
    unfold wpOp at h2
    unfold wpOpIn
    cases ho : ops[i]? with
    | none =>
      simp only [ho] at h2 ⊢
      exact wpAny_round hd hq fuel _ _ _ h2
    | some o =>
      simp only [ho] at h2 ⊢
      by_cases hw : Region.wanted o (yielded ops a.tmps) = true
      · rw [if_pos hw] at h2 ⊢
        rcases h2 with h2 | h2
        · refine Oper.wpIn_mono (fun a w => wpAny_round hd hq fuel _ a w) ⟨fun _ _ => trivial, ?_⟩
          have e : o.semAt (Fence.wide.inRound l).round a.eval = execOp a.eval o := Oper.semAt_some l a.eval o (hd i o ho)
          rw [e]
          exact upon_round h2
        · exact absurd h2.2 hq
      · rw [if_neg hw] at h2 ⊢
        exact ⟨fun _ _ => trivial, wpAny_round hd hq fuel _ _ _ h2⟩⟩
def isDefer (o : Op) : Bool := match o with | .defer _ => true | _ => false
theorem region_round {l n : Nat} {P : Program} {id : Nat} {Q : Exit → Act → World → Prop} {a : Act} {w : World} {ops : List Oper} (w0 : World) (cl : List (Addr × Value))
    (hm : P.follows .mixedOrders = true) (hB : Region.lexB .any ops.toArray = true) (hd : (ops.all fun o => !isDefer o.op) = true) (hq : ¬ LetsOut Q) (hb : Below w0.heap.size w0 w) (hc : AllCells w cl)
    (h : Nonempty (Held w0 cl) → (∀ y : Held w0 cl, AllCells y.x cl) → wpQuiet P ops.toArray (fun x => ∃ y : Held w0 cl, x = y.x) (fun a' => ∀ w', (∃ y : Held w0 cl, w' = y.x) → Q .normal a' w') ops a) :
    (Code.region id ops.toArray true).wpIn (Fence.wide.inRound l) n P Q a w := by
  have hd' : ∀ (i : Nat) (o : Oper), ops.toArray[i]? = some o → ∀ c, o.op ≠ .defer c := fun i o ho c e => by
    have h1 : o ∈ ops := List.mem_of_getElem? (by simpa using ho)
    have h2 := List.all_eq_true.1 hd o h1
    rw [e] at h2
    simp [isDefer] at h2
  simp only [Region.lexB, Bool.and_eq_true] at hB
  refine wpIn_region_any hm (wpAny_round hd' hq _ _ _ _ (wpAny_of_quiet (C := fun x => ∃ y : Held w0 cl, x = y.x) (Q := fun a' => ∀ w', (∃ y : Held w0 cl, w' = y.x) → Q .normal a' w') (fun _ w' hw' h => h w' hw') _ _ _ _ ⟨⟨w.drew, hb.drew, fun p hp => of_allCells hc p hp⟩, rfl⟩ ?_))
  have := wpAnyQ_lex (C := fun x => ∃ y : Held w0 cl, x = y.x) (md := .any) hB.1 ops.toArray.toList 0 (Array.replicate ops.toArray.size false) a (by simp) (by simpa using hB.2) (by simpa using h ⟨⟨w, hb, fun p hp => of_allCells hc p hp⟩⟩ fun y => allCells_of y.cells)
  simpa using this
end Go.Proofs.Ytjbonklgklldmaa
