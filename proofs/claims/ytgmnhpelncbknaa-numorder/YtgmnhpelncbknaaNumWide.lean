/- What the document's own sums of 128 bits (purseref01: Plus, Less, Int, told) return, at the landed code. Conditions: the sums stay far within 128 bits. -/
import Derived.Test.YtgmnhpelncbknaaNumWalks
import Derived.Laws.Externs
import Derived.BigQuiet
namespace Go.Proofs.Ytgmnhpelncbknaa
open Go.ChangeShapes Go.WideShapes Go.ChangeAt Go.RowKit
set_option linter.unusedVariables false

theorem add64 (x y lo c : Int) (hx : 0 ≤ x) (hy : 0 ≤ y) (hl : (x + y) % 18446744073709551616 = lo) (hc : (x + y) / 18446744073709551616 = c) (w : World) :
    (callFunc 38 #[.int .u64 x, .int .u64 y, .int .u64 0]).run Try.prog w = .ok (.value (.tuple #[.int .u64 lo, .int .u64 c])) w := by
  rw [run_callFunc_extern Try.func38 (by kernel_rfl) (by kernel_rfl) (by kernel_rfl) (e := add64Entry) (by kernel_rfl), run_add64 x y 0 hx hy (by omega) (by omega)]
  simp only [Result.andThen, Int.add_zero, hl, hc]

theorem plus_up (hi lo n c lo' : Int) (w : World) (l0 : 0 ≤ lo) (l1 : lo ≤ 18446744073709551615) (n0 : 0 ≤ n) (n1 : n ≤ 9223372036854775807) (c0 : 0 ≤ c) (c1 : c ≤ 1)
    (b0 : -4611686018427387904 ≤ hi) (b1 : hi ≤ 4611686018427387904) (hl : (lo + n) % 18446744073709551616 = lo') (hc : (lo + n) / 18446744073709551616 = c) :
    Calls Try.prog 37 #[.agg #[.int .i64 hi, .int .u64 lo], .int .i64 n] w fun e w' => e = .returned (.agg #[.int .i64 (hi + c), .int .u64 lo']) ∧ Below w.heap.size w w' := by
  have hcall := add64 lo n lo' c l0 n0 hl hc
  clear hl hc
  go_enter Try.func37, Try.ntmps37
  go_wp2
  refine bodyPost_ret (v := .agg #[.int .i64 (hi + c), .int .u64 lo']) (by simp [results, Try.results37, go_sem]) rfl ⟨rfl, ?_⟩
  repeat (first | exact Below.refl _ _ | refine Below.drew ?_ | refine Below.setCell ?_ (by simp <;> omega) _ | refine Below.alloc ?_ (by simp <;> omega) _)

theorem plus_down (hi lo n y c lo' : Int) (w : World) (l0 : 0 ≤ lo) (l1 : lo ≤ 18446744073709551615) (n0 : n < 0) (n1 : -9223372036854775808 ≤ n) (hy : IntKind.u64.wrap n = y) (y0 : 0 ≤ y) (c0 : 0 ≤ c) (c1 : c ≤ 1)
    (b0 : -4611686018427387904 ≤ hi) (b1 : hi ≤ 4611686018427387904) (hl : (lo + y) % 18446744073709551616 = lo') (hc : (lo + y) / 18446744073709551616 = c) :
    Calls Try.prog 37 #[.agg #[.int .i64 hi, .int .u64 lo], .int .i64 n] w fun e w' => e = .returned (.agg #[.int .i64 (hi + c - 1), .int .u64 lo']) ∧ Below w.heap.size w w' := by
  have hcall := add64 lo y lo' c l0 y0 hl hc
  clear hl hc
  go_enter Try.func37, Try.ntmps37
  go_wp2
  refine bodyPost_ret (v := .agg #[.int .i64 (hi + c - 1), .int .u64 lo']) (by simp [results, Try.results37, go_sem]) rfl ⟨rfl, ?_⟩
  repeat (first | exact Below.refl _ _ | refine Below.drew ?_ | refine Below.setCell ?_ (by simp <;> omega) _ | refine Below.alloc ?_ (by simp <;> omega) _)


/-- the 128 bits of a whole number -/
def hiOf (z : Int) : Int := z / 18446744073709551616
def loOf (z : Int) : Int := z % 18446744073709551616
theorem loOf_bd (z : Int) : 0 ≤ loOf z ∧ loOf z ≤ 18446744073709551615 := by unfold loOf; omega

theorem plus_any (z n : Int) (w : World) (z0 : -4611686018427387904 ≤ hiOf z) (z1 : hiOf z ≤ 4611686018427387904) (n0 : -9223372036854775808 ≤ n) (n1 : n ≤ 9223372036854775807) :
    Calls Try.prog 37 #[.agg #[.int .i64 (hiOf z), .int .u64 (loOf z)], .int .i64 n] w fun e w' => e = .returned (.agg #[.int .i64 (hiOf (z + n)), .int .u64 (loOf (z + n))]) ∧ Below w.heap.size w w' := by
  obtain ⟨l0, l1⟩ := loOf_bd z
  by_cases h : 0 ≤ n
  · have := plus_up (hiOf z) (loOf z) n (hiOf (z + n) - hiOf z) (loOf (z + n)) w l0 l1 h n1 (by unfold hiOf; omega) (by unfold hiOf; omega) z0 z1 (by unfold loOf; omega) (by unfold loOf hiOf; omega)
    rw [show hiOf z + (hiOf (z + n) - hiOf z) = hiOf (z + n) from by omega] at this
    exact this
  · have := plus_down (hiOf z) (loOf z) n (n + 18446744073709551616) (hiOf (z + n) - hiOf z + 1) (loOf (z + n)) w l0 l1 (by omega) n0 (by rw [wrapU]; omega) (by omega) (by unfold hiOf; omega) (by unfold hiOf; omega) z0 z1 (by unfold loOf; omega) (by unfold loOf hiOf; omega)
    rw [show hiOf z + (hiOf (z + n) - hiOf z + 1) - 1 = hiOf (z + n) from by omega] at this
    exact this
end Go.Proofs.Ytgmnhpelncbknaa
