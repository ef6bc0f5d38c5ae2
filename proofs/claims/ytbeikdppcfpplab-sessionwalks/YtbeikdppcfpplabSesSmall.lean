/- Which clients and marks may be, which says more: the landed code's small calls. No condition. -/
import Derived.Test.YtbeikdppcfpplabSesMem
import Derived.Handy
namespace Go.Proofs.Ytbeikdppcfpplab
open Go.ChangeShapes Go.WideShapes Go.ChangeAt Go.RowKit Sn
set_option linter.unusedVariables false

theorem client_any (c : Int) (w : World) : Calls Try.prog 14 #[.int .i64 c] w fun e w' => e = .returned (.bool (cliB c)) ∧ w' = w := by
  go_enter Try.func14, Try.ntmps14
  go_wp2_with fail
  all_goals
    go_ret
    refine ⟨?_, rfl⟩
    congr 2
    simp [cliB]
    first | done | omega
theorem may_any (m : Mk) (w : World) : Calls Try.prog 10 #[mval m] w fun e w' => e = .returned (.bool (mayB m)) ∧ Below w.heap.size w w' := by
  have C := fun W => hide (client_any m.c W)
  unfold mval
  have HM : Hid (mayB m = (cliB m.c && decide (0 ≤ m.s ∧ m.s ≤ 4611686018427387904) && (!m.o || (decide (0 < m.s) && decide (m.a = an0))))) := rfl
  rw [HM.out]
  clear HM
  generalize cliB m.c = b at C
  have HA : Hid (m.a = ⟨m.a.e, m.a.v, m.a.lo, m.a.hi⟩) := rfl
  rw [HA.out]
  clear HA
  generalize m.a.e = e; generalize m.a.v = v; generalize m.a.lo = lo; generalize m.a.hi = hi; generalize m.s = s; generalize m.o = o; generalize m.c = c at C
  cases b <;> cases o
  all_goals
    go_enter Try.func10, Try.ntmps10
    go_wp2_with (go_at_call 14; refine (C _).out.mono ?_; rintro e w' ⟨rfl, hw⟩; rw [hw])
    all_goals
      go_returns
      refine ⟨?_, by go_grown⟩
      clear C
      show Ending.returned (.bool _) = _
      congr 2
      all_goals
        rw [Bool.eq_iff_iff]
        simp [an0]
        try omega
end Go.Proofs.Ytbeikdppcfpplab
