/- What the document's own Share (purseref01) returns, at the landed code. No condition but that the numbers are of their kinds. -/
import Derived.Test.YtgmnhpelncbknaaNumShare
namespace Go.Proofs.Ytgmnhpelncbknaa
open Go.ChangeShapes Go.WideShapes Go.ChangeAt Go.RowKit
set_option linter.unusedVariables false

theorem refshare_no (n p i : Int) (w : World) (n0 : 0 ≤ n) (n1 : n ≤ 18446744073709551615) (h : p < 1 ∨ i < 0 ∨ p ≤ i) :
    Calls Try.prog 30 #[.int .u64 n, .int .i64 p, .int .i64 i] w fun e w' => e = .returned (.int .u64 (sharev n p i)) ∧ w' = w := by
  rw [sharev_no n p i h]
  by_cases h1 : p < 1
  · clear h
    go_enter Try.func30, Try.ntmps30
    go_wp2
    go_ret
    exact ⟨rfl, rfl⟩
  · by_cases h2 : i < 0
    · clear h
      go_enter Try.func30, Try.ntmps30
      go_wp2
      go_ret
      exact ⟨rfl, rfl⟩
    · have h3 : p ≤ i := by omega
      clear h
      go_enter Try.func30, Try.ntmps30
      go_wp2
      go_ret
      exact ⟨rfl, rfl⟩

theorem quo_mul (n p : Int) (n0 : 0 ≤ n) (h1 : 1 ≤ p) : 0 ≤ n / p * p ∧ n / p * p ≤ n ∧ n - n / p * p = n % p := by
  have h2 := Int.mul_ediv_add_emod n p
  have h3 := quo_bd n p n0 h1
  have h4 : 0 ≤ n / p * p := Int.mul_nonneg h3.1 (by omega)
  have h5 : n / p * p = p * (n / p) := Int.mul_comm _ _
  exact ⟨h4, by omega, by omega⟩

theorem refshare_more (n p i : Int) (w : World) (n0 : 0 ≤ n) (n1 : n ≤ 18446744073709551615) (h1 : 1 ≤ p) (p1 : p ≤ 9223372036854775807) (h2 : 0 ≤ i) (h3 : i < p) (h : i < n % p) :
    Calls Try.prog 30 #[.int .u64 n, .int .i64 p, .int .i64 i] w fun e w' => e = .returned (.int .u64 (sharev n p i)) ∧ w' = w := by
  rw [sharev_more n p i h1 h2 h3 h]
  have hb := quo_bd n p n0 h1
  have hc := quo_more n p n0 h1 (by omega)
  obtain ⟨m0, m1, m2⟩ := quo_mul n p n0 h1
  have h' : i < n - n / p * p := by omega
  clear m2 h
  obtain ⟨q0, q1, r0, r1⟩ := hb
  go_enter Try.func30, Try.ntmps30
  go_wp2
  go_ret
  exact ⟨rfl, rfl⟩

theorem refshare_less (n p i : Int) (w : World) (n0 : 0 ≤ n) (n1 : n ≤ 18446744073709551615) (h1 : 1 ≤ p) (p1 : p ≤ 9223372036854775807) (h2 : 0 ≤ i) (h3 : i < p) (h : ¬ i < n % p) :
    Calls Try.prog 30 #[.int .u64 n, .int .i64 p, .int .i64 i] w fun e w' => e = .returned (.int .u64 (sharev n p i)) ∧ w' = w := by
  rw [sharev_less n p i h1 h2 h3 h]
  have hb := quo_bd n p n0 h1
  obtain ⟨m0, m1, m2⟩ := quo_mul n p n0 h1
  have h' : ¬ i < n - n / p * p := by omega
  clear m2 h
  obtain ⟨q0, q1, r0, r1⟩ := hb
  go_enter Try.func30, Try.ntmps30
  go_wp2
  go_ret
  exact ⟨rfl, rfl⟩

theorem refshare_any (n p i : Int) (w : World) (n0 : 0 ≤ n) (n1 : n ≤ 18446744073709551615) (p1 : p ≤ 9223372036854775807) :
    Calls Try.prog 30 #[.int .u64 n, .int .i64 p, .int .i64 i] w fun e w' => e = .returned (.int .u64 (sharev n p i)) ∧ w' = w := by
  by_cases h : p < 1 ∨ i < 0 ∨ p ≤ i
  · exact refshare_no n p i w n0 n1 h
  · by_cases hm : i < n % p
    · exact refshare_more n p i w n0 n1 (by omega) p1 (by omega) (by omega) hm
    · exact refshare_less n p i w n0 n1 (by omega) p1 (by omega) (by omega) hm
end Go.Proofs.Ytgmnhpelncbknaa
