/- What the calls of package num return: addTurns, Add, Sub, Fit, Share, Has, Room, at the landed code. No condition but that the numbers are of their kinds. -/
import Derived.Test.YtjcbhgkfbilifabBase
import Derived.BigQuiet
namespace Go.Proofs.Ytjcbhgkfbilifab
open Go.ChangeShapes Go.WideShapes Go.ChangeAt Go.RowKit
set_option linter.unusedVariables false

/-- how often the sum goes round the ints -/
def turns (a b : Int) : Int := if 9223372036854775807 < a + b then 1 else if a + b < -9223372036854775808 then -1 else 0

theorem turns_zero (a b : Int) (h1 : a + b ≤ 9223372036854775807) (h2 : -9223372036854775808 ≤ a + b) : turns a b = 0 := by
  unfold turns; rw [if_neg (by omega), if_neg (by omega)]
theorem turns_one (a b : Int) (h1 : 9223372036854775807 < a + b) : turns a b = 1 := by
  unfold turns; rw [if_pos h1]
theorem turns_neg (a b : Int) (h1 : a + b < -9223372036854775808) : turns a b = -1 := by
  unfold turns; rw [if_neg (by omega), if_pos h1]

theorem addTurns_any (a b : Int) (w : World) (a1 : -9223372036854775808 ≤ a) (a2 : a ≤ 9223372036854775807) (b1 : -9223372036854775808 ≤ b) (b2 : b ≤ 9223372036854775807) :
    Calls Try.prog 44 #[.int .i64 a, .int .i64 b] w fun e w' => e = .returned (.int .i64 (turns a b)) ∧ w' = w := by
  by_cases hb : 0 ≤ b
  · by_cases hs : a + b ≤ 9223372036854775807
    · rw [turns_zero a b hs (by omega)]
      go_enter Try.func44, Try.ntmps44
      go_wp2
      go_ret
      exact ⟨rfl, rfl⟩
    · have hw : wrap64 (a + b) < a := by unfold wrap64; omega
      rw [turns_one a b (by omega)]
      go_enter Try.func44, Try.ntmps44
      go_wp2
      go_ret
      exact ⟨rfl, rfl⟩
  · by_cases hs : -9223372036854775808 ≤ a + b
    · rw [turns_zero a b (by omega) hs]
      go_enter Try.func44, Try.ntmps44
      go_wp2
      go_ret
      exact ⟨rfl, rfl⟩
    · have hw : a < wrap64 (a + b) := by unfold wrap64; omega
      rw [turns_neg a b (by omega)]
      go_enter Try.func44, Try.ntmps44
      go_wp2
      go_ret
      exact ⟨rfl, rfl⟩

/-- Add, where the sum is an int -/
theorem add_yes (a b : Int) (w : World) (a1 : -9223372036854775808 ≤ a) (a2 : a ≤ 9223372036854775807) (b1 : -9223372036854775808 ≤ b) (b2 : b ≤ 9223372036854775807)
    (h1 : -9223372036854775808 ≤ a + b) (h2 : a + b ≤ 9223372036854775807) :
    Calls Try.prog 25 #[.int .i64 a, .int .i64 b] w fun e w' => e = .returned (.tuple #[.int .i64 (a + b), .int .i64 0]) ∧ w' = w := by
  have ht := addTurns_any a b w a1 a2 b1 b2
  rw [turns_zero a b h2 h1] at ht
  have H := hide ht
  clear ht
  go_enter Try.func25, Try.ntmps25
  go_wp2_with (go_at_call 44; refine H.out.mono ?_; rintro e w' ⟨rfl, rfl⟩)
  go_ret2
  exact ⟨rfl, rfl⟩

/-- Add, where it is none -/
theorem add_no (a b : Int) (w : World) (a1 : -9223372036854775808 ≤ a) (a2 : a ≤ 9223372036854775807) (b1 : -9223372036854775808 ≤ b) (b2 : b ≤ 9223372036854775807)
    (h : 9223372036854775807 < a + b ∨ a + b < -9223372036854775808) :
    Calls Try.prog 25 #[.int .i64 a, .int .i64 b] w fun e w' => e = .returned (.tuple #[.int .i64 0, .int .i64 10]) ∧ w' = w := by
  have ht := addTurns_any a b w a1 a2 b1 b2
  rcases h with h | h
  · rw [turns_one a b h] at ht
    have H := hide ht
    clear ht
    go_enter Try.func25, Try.ntmps25
    go_wp2_with (go_at_call 44; refine H.out.mono ?_; rintro e w' ⟨rfl, rfl⟩)
    go_ret2
    exact ⟨rfl, rfl⟩
  · rw [turns_neg a b h] at ht
    have H := hide ht
    clear ht
    go_enter Try.func25, Try.ntmps25
    go_wp2_with (go_at_call 44; refine H.out.mono ?_; rintro e w' ⟨rfl, rfl⟩)
    go_ret2
    exact ⟨rfl, rfl⟩


theorem sub_yes (a b : Int) (w : World) (a1 : -9223372036854775808 ≤ a) (a2 : a ≤ 9223372036854775807) (b1 : -9223372036854775808 ≤ b) (b2 : b ≤ 9223372036854775807)
    (h1 : -9223372036854775808 ≤ a - b) (h2 : a - b ≤ 9223372036854775807) :
    Calls Try.prog 64 #[.int .i64 a, .int .i64 b] w fun e w' => e = .returned (.tuple #[.int .i64 (a - b), .int .i64 0]) ∧ w' = w := by
  by_cases hb : 0 ≤ b
  · have hd : a - b ≤ a := by omega
    go_enter Try.func64, Try.ntmps64
    go_wp2
    go_ret2
    exact ⟨rfl, rfl⟩
  · have hd : ¬ a - b ≤ a := by omega
    go_enter Try.func64, Try.ntmps64
    go_wp2
    go_ret2
    exact ⟨rfl, rfl⟩

theorem sub_no (a b : Int) (w : World) (a1 : -9223372036854775808 ≤ a) (a2 : a ≤ 9223372036854775807) (b1 : -9223372036854775808 ≤ b) (b2 : b ≤ 9223372036854775807)
    (h : 9223372036854775807 < a - b ∨ a - b < -9223372036854775808) :
    Calls Try.prog 64 #[.int .i64 a, .int .i64 b] w fun e w' => e = .returned (.tuple #[.int .i64 0, .int .i64 10]) ∧ w' = w := by
  by_cases hb : 0 ≤ b
  · have hd : ¬ wrap64 (a - b) ≤ a := by unfold wrap64; omega
    clear h
    go_enter Try.func64, Try.ntmps64
    go_wp2
    go_ret2
    exact ⟨rfl, rfl⟩
  · have hd : wrap64 (a - b) ≤ a := by unfold wrap64; omega
    clear h
    go_enter Try.func64, Try.ntmps64
    go_wp2
    go_ret2
    exact ⟨rfl, rfl⟩

def fitv (n : Int) : Int := if n ≤ 9223372036854775807 then n else 9223372036854775807
theorem fitv_in (n : Int) (h : n ≤ 9223372036854775807) : fitv n = n := by unfold fitv; rw [if_pos h]
theorem fitv_out (n : Int) (h : ¬ n ≤ 9223372036854775807) : fitv n = 9223372036854775807 := by unfold fitv; rw [if_neg h]

/-- the part number i of n in p parts -/
def sharev (n p i : Int) : Int := if p < 1 ∨ i < 0 ∨ p ≤ i then 0 else if i < n % p then n / p + 1 else n / p
theorem sharev_no (n p i : Int) (h : p < 1 ∨ i < 0 ∨ p ≤ i) : sharev n p i = 0 := by unfold sharev; rw [if_pos h]
theorem sharev_more (n p i : Int) (h1 : 1 ≤ p) (h2 : 0 ≤ i) (h3 : i < p) (h : i < n % p) : sharev n p i = n / p + 1 := by unfold sharev; rw [if_neg (by omega), if_pos h]
theorem sharev_less (n p i : Int) (h1 : 1 ≤ p) (h2 : 0 ≤ i) (h3 : i < p) (h : ¬ i < n % p) : sharev n p i = n / p := by unfold sharev; rw [if_neg (by omega), if_neg h]

theorem quo_bd (n p : Int) (n0 : 0 ≤ n) (h1 : 1 ≤ p) : 0 ≤ n / p ∧ n / p ≤ n ∧ 0 ≤ n % p ∧ n % p < p :=
  ⟨Int.ediv_nonneg n0 (by omega), Int.ediv_le_self p n0, Int.emod_nonneg n (by omega), Int.emod_lt_of_pos n (by omega)⟩
theorem quo_more (n p : Int) (n0 : 0 ≤ n) (h1 : 1 ≤ p) (h : 0 < n % p) : n / p + 1 ≤ n := by
  have h2 := Int.mul_ediv_add_emod n p
  have h3 := quo_bd n p n0 h1
  by_cases hp : p = 1
  · subst hp; omega
  · by_cases hq : n / p = 0
    · rw [hq] at h2 ⊢; omega
    · have h4 : 2 * (n / p) ≤ p * (n / p) := Int.mul_le_mul_of_nonneg_right (by omega) h3.1
      omega

theorem sub_wrap (a b : Int) (h1 : 0 ≤ a - b) (h2 : a - b ≤ 18446744073709551615) : IntKind.u64.wrap (IntKind.u64.wrap a - IntKind.u64.wrap b) = a - b := by
  rw [wrapU, wrapU, wrapU]; omega

theorem has_yes (lo hi v : Int) (w : World) (h1 : lo ≤ v) (h2 : v ≤ hi) :
    Calls Try.prog 45 #[.agg #[.int .i64 lo, .int .i64 hi], .int .i64 v] w fun e w' => e = .returned (.bool true) ∧ w' = w.alloc (.cells #[.int .i64 lo, .int .i64 hi] 23) := by
  go_enter Try.func45, Try.ntmps45
  go_wp2
  go_ret
  exact ⟨rfl, rfl⟩

theorem has_no (lo hi v : Int) (w : World) (h : ¬ (lo ≤ v ∧ v ≤ hi)) :
    Calls Try.prog 45 #[.agg #[.int .i64 lo, .int .i64 hi], .int .i64 v] w fun e w' => e = .returned (.bool false) ∧ w' = w.alloc (.cells #[.int .i64 lo, .int .i64 hi] 23) := by
  by_cases h1 : lo ≤ v
  · have h2 : ¬ v ≤ hi := fun x => h ⟨h1, x⟩
    clear h
    go_enter Try.func45, Try.ntmps45
    go_wp2
    go_ret
    exact ⟨rfl, rfl⟩
  · clear h
    go_enter Try.func45, Try.ntmps45
    go_wp2
    go_ret
    exact ⟨rfl, rfl⟩

/-- whether lo to hi has v -/
def hasB (lo hi v : Int) : Bool := decide (lo ≤ v ∧ v ≤ hi)
theorem hasB_true {lo hi v : Int} (h : lo ≤ v ∧ v ≤ hi) : hasB lo hi v = true := by unfold hasB; exact decide_eq_true h
theorem hasB_false {lo hi v : Int} (h : ¬ (lo ≤ v ∧ v ≤ hi)) : hasB lo hi v = false := by unfold hasB; exact decide_eq_false h
theorem has_any (lo hi v : Int) (w : World) :
    Calls Try.prog 45 #[.agg #[.int .i64 lo, .int .i64 hi], .int .i64 v] w fun e w' => e = .returned (.bool (hasB lo hi v)) ∧ w' = w.alloc (.cells #[.int .i64 lo, .int .i64 hi] 23) := by
  by_cases h : lo ≤ v ∧ v ≤ hi
  · rw [hasB_true h]; exact has_yes lo hi v w h.1 h.2
  · rw [hasB_false h]; exact has_no lo hi v w h

theorem has_lit {lo hi v : Int} {b : Bool} (h : hasB lo hi v = b) (w : World) :
    Calls Try.prog 45 #[.agg #[.int .i64 lo, .int .i64 hi], .int .i64 v] w fun e w' => e = .returned (.bool b) ∧ w' = w.alloc (.cells #[.int .i64 lo, .int .i64 hi] 23) := by
  rw [← h]; exact has_any lo hi v w

end Go.Proofs.Ytjcbhgkfbilifab
