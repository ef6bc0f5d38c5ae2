/- What Share of package num returns, at the landed code. No condition but that the numbers are of their kinds. -/
import Derived.Test.YtgmnhpelncbknabNumWalks
import Derived.BigQuiet
namespace Go.Proofs.Ytgmnhpelncbknab
open Go.ChangeShapes Go.WideShapes Go.ChangeAt Go.RowKit
set_option linter.unusedVariables false

/-- the part number i of n in p parts -/
def sharev (n p i : Int) : Int := if p < 1 ∨ i < 0 ∨ p ≤ i then 0 else if i < n % p then n / p + 1 else n / p
theorem sharev_no (n p i : Int) (h : p < 1 ∨ i < 0 ∨ p ≤ i) : sharev n p i = 0 := by unfold sharev; rw [if_pos h]
theorem sharev_more (n p i : Int) (h1 : 1 ≤ p) (h2 : 0 ≤ i) (h3 : i < p) (h : i < n % p) : sharev n p i = n / p + 1 := by unfold sharev; rw [if_neg (by omega), if_pos h]
theorem sharev_less (n p i : Int) (h1 : 1 ≤ p) (h2 : 0 ≤ i) (h3 : i < p) (h : ¬ i < n % p) : sharev n p i = n / p := by unfold sharev; rw [if_neg (by omega), if_neg h]

theorem share_no (n p i : Int) (w : World) (n0 : 0 ≤ n) (n1 : n ≤ 18446744073709551615) (h : p < 1 ∨ i < 0 ∨ p ≤ i) :
    Calls Try.prog 10 #[.int .u64 n, .int .i64 p, .int .i64 i] w fun e w' => e = .returned (.int .u64 (sharev n p i)) ∧ ∃ k, w' = w.drewN k := by
  rw [sharev_no n p i h]
  by_cases h1 : p < 1
  · clear h
    go_enter Try.func10, Try.ntmps10
    go_wp2
    go_ret
    exact ⟨rfl, 0, rfl⟩
  · by_cases h2 : i < 0
    · clear h
      go_enter Try.func10, Try.ntmps10
      go_wp2
      go_ret
      exact ⟨rfl, 0, rfl⟩
    · have h3 : p ≤ i := by omega
      clear h
      go_enter Try.func10, Try.ntmps10
      go_wp2
      go_ret
      exact ⟨rfl, 0, rfl⟩

theorem quo_bd (n p : Int) (n0 : 0 ≤ n) (h1 : 1 ≤ p) : 0 ≤ n / p ∧ n / p ≤ n ∧ 0 ≤ n % p ∧ n % p < p :=
  ⟨Int.ediv_nonneg n0 (by omega), Int.ediv_le_self p n0, Int.emod_nonneg n (by omega), Int.emod_lt_of_pos n (by omega)⟩
theorem quo_more (n p : Int) (n0 : 0 ≤ n) (h1 : 1 ≤ p) (h : 0 < n % p) : n / p + 1 ≤ n := by
  have h2 := Int.mul_ediv_add_emod n p
  have h3 := quo_bd n p n0 h1
  by_cases hp : p = 1
  · subst hp; omega
  · by_cases hq : n / p = 0
    · rw [hq] at h2 ⊢; omega
    · have h4 : 2 * (n / p) ≤ p * (n / p) := Int.mul_le_mul_of_nonneg_right (by omega) h3.1
      omega

theorem share_more (n p i : Int) (w : World) (n0 : 0 ≤ n) (n1 : n ≤ 18446744073709551615) (h1 : 1 ≤ p) (p1 : p ≤ 9223372036854775807) (h2 : 0 ≤ i) (h3 : i < p) (h : i < n % p) :
    Calls Try.prog 10 #[.int .u64 n, .int .i64 p, .int .i64 i] w fun e w' => e = .returned (.int .u64 (sharev n p i)) ∧ ∃ k, w' = w.drewN k := by
  rw [sharev_more n p i h1 h2 h3 h]
  have hb := quo_bd n p n0 h1
  have hc := quo_more n p n0 h1 (by omega)
  obtain ⟨q0, q1, r0, r1⟩ := hb
  go_enter Try.func10, Try.ntmps10
  go_wp2
  go_region
  all_goals go_wp2
  go_ret
  exact ⟨rfl, 1, rfl⟩
theorem share_less (n p i : Int) (w : World) (n0 : 0 ≤ n) (n1 : n ≤ 18446744073709551615) (h1 : 1 ≤ p) (p1 : p ≤ 9223372036854775807) (h2 : 0 ≤ i) (h3 : i < p) (h : ¬ i < n % p) :
    Calls Try.prog 10 #[.int .u64 n, .int .i64 p, .int .i64 i] w fun e w' => e = .returned (.int .u64 (sharev n p i)) ∧ ∃ k, w' = w.drewN k := by
  rw [sharev_less n p i h1 h2 h3 h]
  have hb := quo_bd n p n0 h1
  obtain ⟨q0, q1, r0, r1⟩ := hb
  go_enter Try.func10, Try.ntmps10
  go_wp2
  go_region
  all_goals go_wp2
  go_ret
  exact ⟨rfl, 1, rfl⟩

theorem share_any (n p i : Int) (w : World) (n0 : 0 ≤ n) (n1 : n ≤ 18446744073709551615) (p1 : p ≤ 9223372036854775807) :
    Calls Try.prog 10 #[.int .u64 n, .int .i64 p, .int .i64 i] w fun e w' => e = .returned (.int .u64 (sharev n p i)) ∧ ∃ k, w' = w.drewN k := by
  by_cases h : p < 1 ∨ i < 0 ∨ p ≤ i
  · exact share_no n p i w n0 n1 h
  · by_cases hm : i < n % p
    · exact share_more n p i w n0 n1 (by omega) p1 (by omega) (by omega) hm
    · exact share_less n p i w n0 n1 (by omega) p1 (by omega) (by omega) hm
end Go.Proofs.Ytgmnhpelncbknab
