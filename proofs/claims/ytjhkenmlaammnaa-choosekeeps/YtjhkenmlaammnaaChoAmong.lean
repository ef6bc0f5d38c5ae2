/- What among, Nodes and Quorum of package ballot and of the document's own return, at the landed code. No condition but that the numbers are ints. -/
import Derived.Test.YtjhkenmlaammnaaBase
import Derived.Test.YtjhkenmlaammnaaHeld
import Derived.BigQuiet
namespace Go.Proofs.Ytjhkenmlaammnaa
open Go.ChangeShapes Go.WideShapes Go.ChangeAt Go.RowKit
set_option linter.unusedVariables false

/-- is n from 1 to top? -/
def amongB (n top : Int) : Bool := decide (1 ≤ n ∧ n ≤ top)
theorem amongB_true {n top : Int} (h : 1 ≤ n ∧ n ≤ top) : amongB n top = true := decide_eq_true h
theorem amongB_false {n top : Int} (h : ¬ (1 ≤ n ∧ n ≤ top)) : amongB n top = false := decide_eq_false h
theorem among_any (n top : Int) (w : World) :
    Calls Try.prog 48 #[.int .i64 n, .int .i64 top] w fun e w' => e = .returned (.bool (amongB n top)) ∧ w' = w := by
  by_cases h1 : 1 ≤ n
  · by_cases h2 : n ≤ top
    · rw [amongB_true ⟨h1, h2⟩]
      go_enter Try.func48, Try.ntmps48
      go_wp2
      go_ret
      exact ⟨rfl, rfl⟩
    · rw [amongB_false (fun x => h2 x.2)]
      go_enter Try.func48, Try.ntmps48
      go_wp2
      go_ret
      exact ⟨rfl, rfl⟩
  · rw [amongB_false (fun x => h1 x.1)]
    go_enter Try.func48, Try.ntmps48
    go_wp2
    go_ret
    exact ⟨rfl, rfl⟩
theorem among_lit {n top : Int} {b : Bool} (h : amongB n top = b) (w : World) :
    Calls Try.prog 48 #[.int .i64 n, .int .i64 top] w fun e w' => e = .returned (.bool b) ∧ w' = w := h ▸ among_any n top w

theorem nodes_any (n : Int) (w : World) :
    Calls Try.prog 40 #[.int .i64 n] w fun e w' => e = .returned (.bool (amongB n 5)) ∧ w' = w := by
  by_cases h1 : 1 ≤ n
  · by_cases h2 : n ≤ 5
    · rw [amongB_true ⟨h1, h2⟩]
      go_enter Try.func40, Try.ntmps40
      go_wp2
      go_ret
      exact ⟨rfl, rfl⟩
    · rw [amongB_false (fun x => h2 x.2)]
      go_enter Try.func40, Try.ntmps40
      go_wp2
      go_ret
      exact ⟨rfl, rfl⟩
  · rw [amongB_false (fun x => h1 x.1)]
    go_enter Try.func40, Try.ntmps40
    go_wp2
    go_ret
    exact ⟨rfl, rfl⟩
theorem nodes_lit {n : Int} {b : Bool} (h : amongB n 5 = b) (w : World) :
    Calls Try.prog 40 #[.int .i64 n] w fun e w' => e = .returned (.bool b) ∧ w' = w := h ▸ nodes_any n w

/-- more than half of so many -/
def quoV (n : Int) : Int := if 1 ≤ n ∧ n ≤ 5 then n / 2 + 1 else 0
theorem quorum_any (n : Int) (w : World) :
    Calls Try.prog 28 #[.int .i64 n] w fun e w' => e = .returned (.int .i64 (quoV n)) ∧ w' = w := by
  by_cases h : 1 ≤ n ∧ n ≤ 5
  · have hm := hide (fun w => among_lit (amongB_true h) w)
    have e : quoV n = n / 2 + 1 := if_pos h
    have q : n.tdiv 2 = n / 2 := Int.tdiv_eq_ediv_of_nonneg (by omega)
    have h1 : 1 ≤ n := h.1
    have h2 : n ≤ 5 := h.2
    rw [e]
    clear h e
    go_enter Try.func28, Try.ntmps28
    go_wp2_with (go_at_call 48; refine (hm.out _).mono ?_; rintro e w' ⟨rfl, rfl⟩)
    go_ret
    exact ⟨rfl, rfl⟩
  · have hm := hide (fun w => among_lit (amongB_false h) w)
    have e : quoV n = 0 := if_neg h
    rw [e]
    clear h e
    go_enter Try.func28, Try.ntmps28
    go_wp2_with (go_at_call 48; refine (hm.out _).mono ?_; rintro e w' ⟨rfl, rfl⟩)
    go_ret
    exact ⟨rfl, rfl⟩

end Go.Proofs.Ytjhkenmlaammnaa
