/- What Has and Room of package num return, at the landed code. No condition but that the numbers are ints. -/
import Derived.Test.YtgmnhpelncbknaaNumWalks
import Derived.BigQuiet
namespace Go.Proofs.Ytgmnhpelncbknaa
open Go.ChangeShapes Go.WideShapes Go.ChangeAt Go.RowKit
set_option linter.unusedVariables false

theorem ret1 {k : IntKind} {a b : Int} (h : a = b) : Ending.returned (.int k a) = .returned (.int k b) := by rw [h]
theorem ret2 {k k' : IntKind} {a b c d : Int} (h : a = b) (h' : c = d) : Ending.returned (.tuple #[.int k a, .int k' c]) = .returned (.tuple #[.int k b, .int k' d]) := by rw [h, h']
theorem sub_wrap (a b : Int) (h1 : 0 ≤ a - b) (h2 : a - b ≤ 18446744073709551615) : IntKind.u64.wrap (IntKind.u64.wrap a - IntKind.u64.wrap b) = a - b := by
  rw [wrapU, wrapU, wrapU]; omega

theorem has_yes (lo hi v : Int) (w : World) (h1 : lo ≤ v) (h2 : v ≤ hi) :
    Calls Try.prog 25 #[.agg #[.int .i64 lo, .int .i64 hi], .int .i64 v] w fun e w' => e = .returned (.bool true) ∧ w' = w.alloc (.cells #[.int .i64 lo, .int .i64 hi] 34) := by
  go_enter Try.func25, Try.ntmps25
  go_wp2
  go_ret
  exact ⟨rfl, rfl⟩

theorem has_no (lo hi v : Int) (w : World) (h : ¬ (lo ≤ v ∧ v ≤ hi)) :
    Calls Try.prog 25 #[.agg #[.int .i64 lo, .int .i64 hi], .int .i64 v] w fun e w' => e = .returned (.bool false) ∧ w' = w.alloc (.cells #[.int .i64 lo, .int .i64 hi] 34) := by
  by_cases h1 : lo ≤ v
  · have h2 : ¬ v ≤ hi := fun x => h ⟨h1, x⟩
    clear h
    go_enter Try.func25, Try.ntmps25
    go_wp2
    go_ret
    exact ⟨rfl, rfl⟩
  · clear h
    go_enter Try.func25, Try.ntmps25
    go_wp2
    go_ret
    exact ⟨rfl, rfl⟩

/-- whether lo to hi has v -/
def hasB (lo hi v : Int) : Bool := decide (lo ≤ v ∧ v ≤ hi)
theorem hasB_true {lo hi v : Int} (h : lo ≤ v ∧ v ≤ hi) : hasB lo hi v = true := by unfold hasB; exact decide_eq_true h
theorem hasB_false {lo hi v : Int} (h : ¬ (lo ≤ v ∧ v ≤ hi)) : hasB lo hi v = false := by unfold hasB; exact decide_eq_false h
theorem has_any (lo hi v : Int) (w : World) :
    Calls Try.prog 25 #[.agg #[.int .i64 lo, .int .i64 hi], .int .i64 v] w fun e w' => e = .returned (.bool (hasB lo hi v)) ∧ w' = w.alloc (.cells #[.int .i64 lo, .int .i64 hi] 34) := by
  by_cases h : lo ≤ v ∧ v ≤ hi
  · rw [hasB_true h]; exact has_yes lo hi v w h.1 h.2
  · rw [hasB_false h]; exact has_no lo hi v w h

theorem has_lit {lo hi v : Int} {b : Bool} (h : hasB lo hi v = b) (w : World) :
    Calls Try.prog 25 #[.agg #[.int .i64 lo, .int .i64 hi], .int .i64 v] w fun e w' => e = .returned (.bool b) ∧ w' = w.alloc (.cells #[.int .i64 lo, .int .i64 hi] 34) := by
  rw [← h]; exact has_any lo hi v w

theorem room_yes (lo hi v : Int) (w : World) (a1 : -9223372036854775808 ≤ lo) (a2 : lo ≤ 9223372036854775807) (b1 : -9223372036854775808 ≤ hi) (b2 : hi ≤ 9223372036854775807) (h1 : lo ≤ v) (h2 : v ≤ hi) :
    Calls Try.prog 18 #[.agg #[.int .i64 lo, .int .i64 hi], .int .i64 v] w fun e w' => e = .returned (.tuple #[.int .u64 (v - lo), .int .u64 (hi - v)]) ∧ w' = ((w.alloc (.cells #[.int .i64 lo, .int .i64 hi] 34)).alloc (.cells #[.int .i64 lo, .int .i64 hi] 34)).drew := by
  go_enter Try.func18, Try.ntmps18
  go_wp2_with fail
  refine (has_yes lo hi v _ h1 h2).mono ?_
  rintro e w' ⟨rfl, rfl⟩
  go_wp2_with fail
  go_region
  all_goals go_wp2
  go_ret2
  exact ⟨ret2 (sub_wrap v lo (by omega) (by omega)) (sub_wrap hi v (by omega) (by omega)), rfl⟩

theorem room_no (lo hi v : Int) (w : World) (h : ¬ (lo ≤ v ∧ v ≤ hi)) :
    Calls Try.prog 18 #[.agg #[.int .i64 lo, .int .i64 hi], .int .i64 v] w fun e w' => e = .returned (.tuple #[.int .u64 0, .int .u64 0]) ∧ w' = (w.alloc (.cells #[.int .i64 lo, .int .i64 hi] 34)).alloc (.cells #[.int .i64 lo, .int .i64 hi] 34) := by
  have H := hide h
  clear h
  go_enter Try.func18, Try.ntmps18
  go_wp2_with fail
  refine (has_no lo hi v _ H.out).mono ?_
  rintro e w' ⟨rfl, rfl⟩
  go_wp2_with fail
  go_ret2
  exact ⟨rfl, rfl⟩
end Go.Proofs.Ytgmnhpelncbknaa
