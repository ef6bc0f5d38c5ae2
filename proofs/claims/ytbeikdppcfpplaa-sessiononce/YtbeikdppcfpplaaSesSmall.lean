/- Which clients and marks may be, which says more: the landed code's small calls. No condition. -/
import Derived.Test.YtbeikdppcfpplaaSesMem
import Derived.Handy
namespace Go.Proofs.Ytbeikdppcfpplaa
open Go.ChangeShapes Go.WideShapes Go.ChangeAt Go.RowKit Sn
set_option linter.unusedVariables false

theorem client_any (c : Int) (w : World) : Calls Try.prog 27 #[.int .i64 c] w fun e w' => e = .returned (.bool (cliB c)) ∧ w' = w := by
  go_enter Try.func27, Try.ntmps27
  go_wp2_with fail
  all_goals
    go_ret
    refine ⟨?_, rfl⟩
    congr 2
    simp [cliB]
    first | done | omega
theorem may_any (m : Mk) (w : World) : Calls Try.prog 35 #[mval m] w fun e w' => e = .returned (.bool (mayB m)) ∧ Below w.heap.size w w' := by
  have C := fun W => hide (client_any m.c W)
  unfold mval
  have HM : Hid (mayB m = (cliB m.c && decide (0 ≤ m.s ∧ m.s ≤ 4611686018427387904) && (!m.o || (decide (0 < m.s) && decide (m.a = an0))))) := rfl
  rw [HM.out]
  clear HM
  generalize cliB m.c = b at C
  have HA : Hid (m.a = ⟨m.a.e, m.a.v, m.a.lo, m.a.hi⟩) := rfl
  rw [HA.out]
  clear HA
  generalize m.a.e = e; generalize m.a.v = v; generalize m.a.lo = lo; generalize m.a.hi = hi; generalize m.s = s; generalize m.o = o; generalize m.c = c at C
  cases b <;> cases o
  all_goals
    go_enter Try.func35, Try.ntmps35
    go_wp2_with (go_at_call 27; refine (C _).out.mono ?_; rintro e w' ⟨rfl, hw⟩; rw [hw])
    all_goals
      go_returns
      refine ⟨?_, by go_grown⟩
      clear C
      show Ending.returned (.bool _) = _
      congr 2
      all_goals
        rw [Bool.eq_iff_iff]
        simp [an0]
        try omega
theorem ahead_any (m n : Mk) (w : World) : Calls Try.prog 37 #[mval m, mval n] w fun e w' => e = .returned (.bool (aheadB m n)) ∧ Below w.heap.size w w' := by
  unfold mval
  by_cases h : m.s = n.s
  · have HM : Hid (aheadB m n = (n.o && !m.o)) := by show _ = _; unfold aheadB; rw [if_pos h]
    rw [HM.out, h]
    clear HM h
    generalize m.o = o; generalize n.o = o'
    cases o' <;> cases o
    all_goals
      go_enter Try.func37, Try.ntmps37
      go_wp2_with fail
      go_returns
      exact ⟨rfl, by go_grown⟩
  · have HM : Hid (aheadB m n = decide (n.s < m.s)) := by show _ = _; unfold aheadB; rw [if_neg h]
    rw [HM.out]
    clear HM
    go_enter Try.func37, Try.ntmps37
    go_wp2_with fail
    go_returns
    exact ⟨rfl, by go_grown⟩
end Go.Proofs.Ytbeikdppcfpplaa
