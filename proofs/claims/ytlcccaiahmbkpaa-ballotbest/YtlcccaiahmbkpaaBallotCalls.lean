/- What the small calls of package ballot, of the document's own, and the law folder's awake return, at the landed code. No condition but that the numbers are ints. -/
import Derived.Test.YtlcccaiahmbkpaaBase
import Derived.Test.YtlcccaiahmbkpaaHeld
import Derived.BigQuiet
namespace Go.Proofs.Ytlcccaiahmbkpaa
open Go.ChangeShapes Go.WideShapes Go.ChangeAt Go.RowKit
set_option linter.unusedVariables false

/-- is n from 1 to top? -/
def amongB (n top : Int) : Bool := decide (1 ≤ n ∧ n ≤ top)
theorem amongB_true {n top : Int} (h : 1 ≤ n ∧ n ≤ top) : amongB n top = true := decide_eq_true h
theorem amongB_false {n top : Int} (h : ¬ (1 ≤ n ∧ n ≤ top)) : amongB n top = false := decide_eq_false h
theorem among_any (n top : Int) (w : World) :
    Calls Try.prog 26 #[.int .i64 n, .int .i64 top] w fun e w' => e = .returned (.bool (amongB n top)) ∧ w' = w := by
  by_cases h1 : 1 ≤ n
  · by_cases h2 : n ≤ top
    · rw [amongB_true ⟨h1, h2⟩]
      go_enter Try.func26, Try.ntmps26
      go_wp2
      go_ret
      exact ⟨rfl, rfl⟩
    · rw [amongB_false (fun x => h2 x.2)]
      go_enter Try.func26, Try.ntmps26
      go_wp2
      go_ret
      exact ⟨rfl, rfl⟩
  · rw [amongB_false (fun x => h1 x.1)]
    go_enter Try.func26, Try.ntmps26
    go_wp2
    go_ret
    exact ⟨rfl, rfl⟩
theorem among_lit {n top : Int} {b : Bool} (h : amongB n top = b) (w : World) :
    Calls Try.prog 26 #[.int .i64 n, .int .i64 top] w fun e w' => e = .returned (.bool b) ∧ w' = w := h ▸ among_any n top w

theorem nodes_any (n : Int) (w : World) :
    Calls Try.prog 27 #[.int .i64 n] w fun e w' => e = .returned (.bool (amongB n 5)) ∧ w' = w := by
  by_cases h1 : 1 ≤ n
  · by_cases h2 : n ≤ 5
    · rw [amongB_true ⟨h1, h2⟩]
      go_enter Try.func27, Try.ntmps27
      go_wp2
      go_ret
      exact ⟨rfl, rfl⟩
    · rw [amongB_false (fun x => h2 x.2)]
      go_enter Try.func27, Try.ntmps27
      go_wp2
      go_ret
      exact ⟨rfl, rfl⟩
  · rw [amongB_false (fun x => h1 x.1)]
    go_enter Try.func27, Try.ntmps27
    go_wp2
    go_ret
    exact ⟨rfl, rfl⟩
theorem nodes_lit {n : Int} {b : Bool} (h : amongB n 5 = b) (w : World) :
    Calls Try.prog 27 #[.int .i64 n] w fun e w' => e = .returned (.bool b) ∧ w' = w := h ▸ nodes_any n w

/-- is the ballot (a, b) below (c, d)? -/
def lessB (a b c d : Int) : Bool := decide (a < c ∨ a = c ∧ b < d)
theorem lessB_true {a b c d : Int} (h : a < c ∨ a = c ∧ b < d) : lessB a b c d = true := decide_eq_true h
theorem lessB_false {a b c d : Int} (h : ¬ (a < c ∨ a = c ∧ b < d)) : lessB a b c d = false := decide_eq_false h
theorem less_any (a b c d : Int) (w : World) :
    Calls Try.prog 14 #[.agg #[.int .i64 a, .int .i64 b], .agg #[.int .i64 c, .int .i64 d]] w fun e w' => e = .returned (.bool (lessB a b c d)) ∧ w' = (w.alloc (.cells #[.int .i64 a, .int .i64 b] 23)).alloc (.cells #[.int .i64 c, .int .i64 d] 23) := by
  by_cases h : a = c
  · subst h
    have e : lessB a b a d = decide (b < d) := by unfold lessB; simp
    rw [e]
    go_enter Try.func14, Try.ntmps14
    go_wp2
    go_ret
    exact ⟨rfl, rfl⟩
  · have e : lessB a b c d = decide (a < c) := by unfold lessB; simp [h]
    rw [e]
    go_enter Try.func14, Try.ntmps14
    go_wp2
    go_ret
    exact ⟨rfl, rfl⟩
theorem less_lit {a b c d : Int} {x : Bool} (h : lessB a b c d = x) (w : World) :
    Calls Try.prog 14 #[.agg #[.int .i64 a, .int .i64 b], .agg #[.int .i64 c, .int .i64 d]] w fun e w' => e = .returned (.bool x) ∧ Below w.heap.size w w' :=
  h ▸ (less_any a b c d w).mono fun e w' ⟨he, hw⟩ => ⟨he, by rw [hw]; exact below_alloc (below_alloc (Below.refl _ _) _) _⟩
theorem rless_any (a b c d : Int) (w : World) :
    Calls Try.prog 15 #[.agg #[.int .i64 a, .int .i64 b], .agg #[.int .i64 c, .int .i64 d]] w fun e w' => e = .returned (.bool (lessB a b c d)) ∧ w' = (w.alloc (.cells #[.int .i64 a, .int .i64 b] 23)).alloc (.cells #[.int .i64 c, .int .i64 d] 23) := by
  by_cases h : a = c
  · subst h
    have e : lessB a b a d = decide (b < d) := by unfold lessB; simp
    rw [e]
    go_enter Try.func15, Try.ntmps15
    go_wp2
    go_ret
    exact ⟨rfl, rfl⟩
  · have e : lessB a b c d = decide (a < c) := by unfold lessB; simp [h]
    rw [e]
    go_enter Try.func15, Try.ntmps15
    go_wp2
    go_ret
    exact ⟨rfl, rfl⟩
theorem rless_lit {a b c d : Int} {x : Bool} (h : lessB a b c d = x) (w : World) :
    Calls Try.prog 15 #[.agg #[.int .i64 a, .int .i64 b], .agg #[.int .i64 c, .int .i64 d]] w fun e w' => e = .returned (.bool x) ∧ Below w.heap.size w w' :=
  h ▸ (rless_any a b c d w).mono fun e w' ⟨he, hw⟩ => ⟨he, by rw [hw]; exact below_alloc (below_alloc (Below.refl _ _) _) _⟩

/-- more than half of so many -/
def quoV (n : Int) : Int := if 1 ≤ n ∧ n ≤ 5 then n / 2 + 1 else 0
theorem quorum_any (n : Int) (w : World) :
    Calls Try.prog 18 #[.int .i64 n] w fun e w' => e = .returned (.int .i64 (quoV n)) ∧ w' = w := by
  by_cases h : 1 ≤ n ∧ n ≤ 5
  · have hm := hide (fun w => among_lit (amongB_true h) w)
    have e : quoV n = n / 2 + 1 := if_pos h
    have q : n.tdiv 2 = n / 2 := Int.tdiv_eq_ediv_of_nonneg (by omega)
    have h1 : 1 ≤ n := h.1
    have h2 : n ≤ 5 := h.2
    rw [e]
    clear h e
    go_enter Try.func18, Try.ntmps18
    go_wp2_with (go_at_call 26; refine (hm.out _).mono ?_; rintro e w' ⟨rfl, rfl⟩)
    go_ret
    exact ⟨rfl, rfl⟩
  · have hm := hide (fun w => among_lit (amongB_false h) w)
    have e : quoV n = 0 := if_neg h
    rw [e]
    clear h e
    go_enter Try.func18, Try.ntmps18
    go_wp2_with (go_at_call 26; refine (hm.out _).mono ?_; rintro e w' ⟨rfl, rfl⟩)
    go_ret
    exact ⟨rfl, rfl⟩

theorem awake_any (w : World) :
    Calls Try.prog 11 #[] w fun e w' => e = .returned (.bool true) ∧ Below w.heap.size w w' := by
  have hq := hide (fun w => quorum_any 5 w)
  rw [show quoV 5 = 3 from rfl] at hq
  have hl := hide (fun w => less_any 1 1 1 2 w)
  rw [show lessB 1 1 1 2 = true from rfl] at hl
  go_enter Try.func11, Try.ntmps11
  go_wp2_with (first | (go_at_call 18; refine (hq.out _).mono ?_; rintro e w' ⟨rfl, rfl⟩) | (go_at_call 14; refine (hl.out _).mono ?_; rintro e w' ⟨rfl, rfl⟩))
  go_ret
  exact ⟨rfl, below_alloc (below_alloc (Below.refl _ _) _) _⟩
end Go.Proofs.Ytlcccaiahmbkpaa
