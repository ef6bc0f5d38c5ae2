/- What Meet of package num returns, at the landed code. No condition. -/
import Derived.Test.YtgmnhpelncbknaaNumRoom
namespace Go.Proofs.Ytgmnhpelncbknaa
open Go.ChangeShapes Go.WideShapes Go.ChangeAt Go.RowKit
set_option linter.unusedVariables false

theorem meet_yes (la ha lb hb lo hi : Int) (w : World) (hl : (lo = la ∧ lb ≤ la) ∨ (lo = lb ∧ la < lb)) (hh : (hi = ha ∧ ha ≤ hb) ∨ (hi = hb ∧ hb < ha)) (h : lo ≤ hi) :
    Calls Try.prog 20 #[.agg #[.int .i64 la, .int .i64 ha], .agg #[.int .i64 lb, .int .i64 hb]] w fun e w' => e = .returned (.tuple #[.agg #[.int .i64 lo, .int .i64 hi], .bool true]) ∧ Below w.heap.size w w' := by
  have c1 : decide (lo ≤ hi) = true := by simpa using h
  rcases hl with ⟨rfl, h1⟩ | ⟨rfl, h1⟩ <;> rcases hh with ⟨rfl, h2⟩ | ⟨rfl, h2⟩
  all_goals
    go_enter Try.func20, Try.ntmps20
    go_wp2_with fail
    refine (may_any lo hi _).mono ?_
    rintro e w' ⟨rfl, rfl⟩
    go_wp2_with fail
    refine bodyPost_ret (v := .tuple #[.agg #[.int .i64 lo, .int .i64 hi], .bool true]) (by simp [results, Try.results20, go_sem]) rfl ⟨rfl, ?_⟩
    repeat (first | exact Below.refl _ _ | refine Below.drew ?_ | refine Below.setCell ?_ (by simp <;> omega) _ | refine Below.alloc ?_ (by simp <;> omega) _)

theorem meet_no (la ha lb hb lo hi : Int) (w : World) (hl : (lo = la ∧ lb ≤ la) ∨ (lo = lb ∧ la < lb)) (hh : (hi = ha ∧ ha ≤ hb) ∨ (hi = hb ∧ hb < ha)) (h : ¬ lo ≤ hi) :
    Calls Try.prog 20 #[.agg #[.int .i64 la, .int .i64 ha], .agg #[.int .i64 lb, .int .i64 hb]] w fun e w' => e = .returned (.tuple #[.agg #[.int .i64 0, .int .i64 0], .bool false]) ∧ Below w.heap.size w w' := by
  have c1 : decide (lo ≤ hi) = false := by simpa using h
  rcases hl with ⟨rfl, h1⟩ | ⟨rfl, h1⟩ <;> rcases hh with ⟨rfl, h2⟩ | ⟨rfl, h2⟩
  all_goals
    go_enter Try.func20, Try.ntmps20
    go_wp2_with fail
    refine (may_any lo hi _).mono ?_
    rintro e w' ⟨rfl, rfl⟩
    go_wp2_with fail
    refine bodyPost_ret (v := .tuple #[.agg #[.int .i64 0, .int .i64 0], .bool false]) (by simp [results, Try.results20, go_sem]) rfl ⟨rfl, ?_⟩
    repeat (first | exact Below.refl _ _ | refine Below.drew ?_ | refine Below.setCell ?_ (by simp <;> omega) _ | refine Below.alloc ?_ (by simp <;> omega) _)
end Go.Proofs.Ytgmnhpelncbknaa
