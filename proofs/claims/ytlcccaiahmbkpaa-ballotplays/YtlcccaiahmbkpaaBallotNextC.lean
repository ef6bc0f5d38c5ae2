/- What Next of package ballot, and the document's own, return, at the landed code. No condition but that the numbers are ints. -/
import Derived.Test.YtlcccaiahmbkpaaBallotCalls
import Derived.Handy
namespace Go.Proofs.Ytlcccaiahmbkpaa
open Go.ChangeShapes Go.WideShapes Go.ChangeAt Go.RowKit
set_option linter.unusedVariables false

abbrev NextC (r n node R N E : Int) : Prop := ∀ w : World, Calls Try.prog 9 #[.agg #[.int .i64 r, .int .i64 n], .int .i64 node] w fun e w' => e = .returned (.tuple #[.agg #[.int .i64 R, .int .i64 N], .int .i64 E]) ∧ Below w.heap.size w w'
abbrev RNextC (r n node R N E : Int) : Prop := ∀ w : World, Calls Try.prog 10 #[.agg #[.int .i64 r, .int .i64 n], .int .i64 node] w fun e w' => e = .returned (.tuple #[.agg #[.int .i64 R, .int .i64 N], .int .i64 E]) ∧ Below w.heap.size w w'

theorem next_arg (r n node : Int) (h : ¬ (1 ≤ node ∧ node ≤ 5)) : NextC r n node 0 0 1 := by
  intro w
  have hm := hide (fun w => among_lit (amongB_false h) w)
  clear h
  go_enter Try.func9, Try.ntmps9
  go_wp2_with (go_at_call 26; refine (hm.out _).mono ?_; rintro e w' ⟨rfl, rfl⟩)
  go_returns
  exact ⟨rfl, by go_grown⟩
theorem next_over (r n node : Int) (h : 1 ≤ node ∧ node ≤ 5) (hr : r = 9223372036854775807) : NextC r n node 0 0 10 := by
  intro w
  have hm := hide (fun w => among_lit (amongB_true h) w)
  clear h
  subst hr
  go_enter Try.func9, Try.ntmps9
  go_wp2_with (go_at_call 26; refine (hm.out _).mono ?_; rintro e w' ⟨rfl, rfl⟩)
  go_returns
  exact ⟨rfl, by go_grown⟩
theorem next_up (r n node : Int) (h : 1 ≤ node ∧ node ≤ 5) (hr : r < 9223372036854775807) (h0 : 0 ≤ r) : NextC r n node (r + 1) node 0 := by
  intro w
  have hm := hide (fun w => among_lit (amongB_true h) w)
  clear h
  go_enter Try.func9, Try.ntmps9
  go_wp2_with (go_at_call 26; refine (hm.out _).mono ?_; rintro e w' ⟨rfl, rfl⟩)
  go_returns
  exact ⟨rfl, by go_grown⟩
theorem next_one (r n node : Int) (h : 1 ≤ node ∧ node ≤ 5) (h0 : r < 0) : NextC r n node 1 node 0 := by
  intro w
  have hm := hide (fun w => among_lit (amongB_true h) w)
  clear h
  go_enter Try.func9, Try.ntmps9
  go_wp2_with (go_at_call 26; refine (hm.out _).mono ?_; rintro e w' ⟨rfl, rfl⟩)
  go_returns
  exact ⟨rfl, by go_grown⟩
theorem rnext_arg (r n node : Int) (h : ¬ (1 ≤ node ∧ node ≤ 5)) : RNextC r n node 0 0 1 := by
  intro w
  have hm := hide (fun w => nodes_lit (amongB_false h) w)
  clear h
  go_enter Try.func10, Try.ntmps10
  go_wp2_with (go_at_call 27; refine (hm.out _).mono ?_; rintro e w' ⟨rfl, rfl⟩)
  go_returns
  exact ⟨rfl, by go_grown⟩
theorem rnext_over (r n node : Int) (h : 1 ≤ node ∧ node ≤ 5) (hr : r = 9223372036854775807) : RNextC r n node 0 0 10 := by
  intro w
  have hm := hide (fun w => nodes_lit (amongB_true h) w)
  clear h
  subst hr
  go_enter Try.func10, Try.ntmps10
  go_wp2_with (go_at_call 27; refine (hm.out _).mono ?_; rintro e w' ⟨rfl, rfl⟩)
  go_returns
  exact ⟨rfl, by go_grown⟩
theorem rnext_up0 (r n node : Int) (h : 1 ≤ node ∧ node ≤ 5) (hr : r < 9223372036854775807) (h0 : 0 < r) : RNextC r n node (r + 1) node 0 := by
  intro w
  have hm := hide (fun w => nodes_lit (amongB_true h) w)
  clear h
  go_enter Try.func10, Try.ntmps10
  go_wp2_with (go_at_call 27; refine (hm.out _).mono ?_; rintro e w' ⟨rfl, rfl⟩)
  go_returns
  exact ⟨rfl, by go_grown⟩
theorem rnext_zero (n node : Int) (h : 1 ≤ node ∧ node ≤ 5) : RNextC 0 n node 1 node 0 := by
  intro w
  have hm := hide (fun w => nodes_lit (amongB_true h) w)
  clear h
  go_enter Try.func10, Try.ntmps10
  go_wp2_with (go_at_call 27; refine (hm.out _).mono ?_; rintro e w' ⟨rfl, rfl⟩)
  go_returns
  exact ⟨rfl, by go_grown⟩
theorem rnext_up (r n node : Int) (h : 1 ≤ node ∧ node ≤ 5) (hr : r < 9223372036854775807) (h0 : 0 ≤ r) : RNextC r n node (r + 1) node 0 := by
  by_cases e : r = 0
  · subst e
    exact rnext_zero n node h
  · exact rnext_up0 r n node h hr (by omega)
theorem rnext_one (r n node : Int) (hl : -9223372036854775808 ≤ r) (h : 1 ≤ node ∧ node ≤ 5) (h0 : r < 0) : RNextC r n node 1 node 0 := by
  intro w
  have hm := hide (fun w => nodes_lit (amongB_true h) w)
  clear h
  go_enter Try.func10, Try.ntmps10
  go_wp2_with (go_at_call 27; refine (hm.out _).mono ?_; rintro e w' ⟨rfl, rfl⟩)
  go_returns
  exact ⟨rfl, by go_grown⟩

/-- what Next tells: the ballot (R, N), or that there is none -/
def Nx (r node R N E : Int) : Prop := (E ≠ 0 ∧ R = 0 ∧ N = 0 ∧ (node < 1 ∨ 5 < node ∨ r = 9223372036854775807)) ∨ (E = 0 ∧ N = node ∧ 1 ≤ node ∧ node ≤ 5 ∧ (r < 0 ∧ R = 1 ∨ 0 ≤ r ∧ r < 9223372036854775807 ∧ R = r + 1))
theorem next_ex (r node : Int) (hr : -9223372036854775808 ≤ r ∧ r ≤ 9223372036854775807) : ∃ R N E, Nx r node R N E ∧ (∀ n, NextC r n node R N E) ∧ (∀ n, RNextC r n node R N E) := by
  by_cases h : 1 ≤ node ∧ node ≤ 5
  · by_cases h1 : r = 9223372036854775807
    · exact ⟨0, 0, 10, .inl ⟨by decide, rfl, rfl, by omega⟩, fun n => next_over r n node h h1, fun n => rnext_over r n node h h1⟩
    · by_cases h2 : 0 ≤ r
      · exact ⟨r + 1, node, 0, .inr ⟨rfl, rfl, h.1, h.2, by omega⟩, fun n => next_up r n node h (by omega) h2, fun n => rnext_up r n node h (by omega) h2⟩
      · exact ⟨1, node, 0, .inr ⟨rfl, rfl, h.1, h.2, by omega⟩, fun n => next_one r n node h (by omega), fun n => rnext_one r n node hr.1 h (by omega)⟩
  · exact ⟨0, 0, 1, .inl ⟨by decide, rfl, rfl, by omega⟩, fun n => next_arg r n node h, fun n => rnext_arg r n node h⟩
end Go.Proofs.Ytlcccaiahmbkpaa
