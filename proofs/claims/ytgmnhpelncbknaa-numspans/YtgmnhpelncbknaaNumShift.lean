/- What Shift of package num returns, at the landed code. No condition but that the numbers are ints. -/
import Derived.Test.YtgmnhpelncbknaaNumWalks
namespace Go.Proofs.Ytgmnhpelncbknaa
open Go.ChangeShapes Go.WideShapes Go.ChangeAt Go.RowKit
set_option linter.unusedVariables false

theorem shift_arg (lo hi by_ : Int) (w : World) (a0 : -9223372036854775808 ≤ lo) (a1 : lo ≤ 9223372036854775807) (b0 : -9223372036854775808 ≤ hi) (b1 : hi ≤ 9223372036854775807) (c0 : -9223372036854775808 ≤ by_) (c1 : by_ ≤ 9223372036854775807) (h : ¬ lo ≤ hi) :
    Calls Try.prog 22 #[.agg #[.int .i64 lo, .int .i64 hi], .int .i64 by_] w fun e w' => e = .returned (.tuple #[.agg #[.int .i64 0, .int .i64 0], .int .i64 1]) ∧ Below w.heap.size w w' := by
  have d1 : decide (lo ≤ hi) = false := by simpa using h
  go_enter Try.func22, Try.ntmps22
  go_wp2_with fail
  refine (may_any lo hi _).mono ?_
  rintro e w' ⟨rfl, rfl⟩
  go_wp2_with fail
  refine bodyPost_ret (v := .tuple #[.agg #[.int .i64 0, .int .i64 0], .int .i64 1]) (by simp [results, Try.results22, go_sem]) rfl ⟨rfl, ?_⟩
  repeat (first | exact Below.refl _ _ | refine Below.drew ?_ | refine Below.setCell ?_ (by first | omega | (simp <;> omega)) _ | refine Below.alloc ?_ (by first | omega | (simp <;> omega)) _)

theorem shift_lo (lo hi by_ : Int) (w : World) (a0 : -9223372036854775808 ≤ lo) (a1 : lo ≤ 9223372036854775807) (b0 : -9223372036854775808 ≤ hi) (b1 : hi ≤ 9223372036854775807) (c0 : -9223372036854775808 ≤ by_) (c1 : by_ ≤ 9223372036854775807) (h : lo ≤ hi) (g : lo + by_ < -9223372036854775808 ∨ 9223372036854775807 < lo + by_) :
    Calls Try.prog 22 #[.agg #[.int .i64 lo, .int .i64 hi], .int .i64 by_] w fun e w' => e = .returned (.tuple #[.agg #[.int .i64 0, .int .i64 0], .int .i64 10]) ∧ Below w.heap.size w w' := by
  have d1 : decide (lo ≤ hi) = true := by simpa using h
  have k1 := hide (fun w => add_no lo by_ w a0 a1 c0 c1 (by omega))
  clear g
  go_enter Try.func22, Try.ntmps22
  go_wp2_with fail
  refine (may_any lo hi _).mono ?_
  rintro e w' ⟨rfl, rfl⟩
  go_wp2_with fail
  refine (k1.out _).mono ?_
  rintro e w' ⟨rfl, rfl⟩
  go_wp2_with fail
  refine bodyPost_ret (v := .tuple #[.agg #[.int .i64 0, .int .i64 0], .int .i64 10]) (by simp [results, Try.results22, go_sem]) rfl ⟨rfl, ?_⟩
  repeat (first | exact Below.refl _ _ | refine Below.drew ?_ | refine Below.setCell ?_ (by first | omega | (simp <;> omega)) _ | refine Below.alloc ?_ (by first | omega | (simp <;> omega)) _)

theorem shift_hi (lo hi by_ : Int) (w : World) (a0 : -9223372036854775808 ≤ lo) (a1 : lo ≤ 9223372036854775807) (b0 : -9223372036854775808 ≤ hi) (b1 : hi ≤ 9223372036854775807) (c0 : -9223372036854775808 ≤ by_) (c1 : by_ ≤ 9223372036854775807) (h : lo ≤ hi) (g : -9223372036854775808 ≤ lo + by_) (g1 : lo + by_ ≤ 9223372036854775807) (g2 : hi + by_ < -9223372036854775808 ∨ 9223372036854775807 < hi + by_) :
    Calls Try.prog 22 #[.agg #[.int .i64 lo, .int .i64 hi], .int .i64 by_] w fun e w' => e = .returned (.tuple #[.agg #[.int .i64 0, .int .i64 0], .int .i64 10]) ∧ Below w.heap.size w w' := by
  have d1 : decide (lo ≤ hi) = true := by simpa using h
  have k1 := hide (fun w => add_yes lo by_ w a0 a1 c0 c1 g g1)
  have k2 := hide (fun w => add_no hi by_ w b0 b1 c0 c1 (by omega))
  clear g2
  go_enter Try.func22, Try.ntmps22
  go_wp2_with fail
  refine (may_any lo hi _).mono ?_
  rintro e w' ⟨rfl, rfl⟩
  go_wp2_with fail
  refine (k1.out _).mono ?_
  rintro e w' ⟨rfl, rfl⟩
  go_wp2_with fail
  refine (k2.out _).mono ?_
  rintro e w' ⟨rfl, rfl⟩
  go_wp2_with fail
  refine bodyPost_ret (v := .tuple #[.agg #[.int .i64 0, .int .i64 0], .int .i64 10]) (by simp [results, Try.results22, go_sem]) rfl ⟨rfl, ?_⟩
  repeat (first | exact Below.refl _ _ | refine Below.drew ?_ | refine Below.setCell ?_ (by first | omega | (simp <;> omega)) _ | refine Below.alloc ?_ (by first | omega | (simp <;> omega)) _)

theorem shift_yes (lo hi by_ : Int) (w : World) (a0 : -9223372036854775808 ≤ lo) (a1 : lo ≤ 9223372036854775807) (b0 : -9223372036854775808 ≤ hi) (b1 : hi ≤ 9223372036854775807) (c0 : -9223372036854775808 ≤ by_) (c1 : by_ ≤ 9223372036854775807) (h : lo ≤ hi) (g : -9223372036854775808 ≤ lo + by_) (g1 : lo + by_ ≤ 9223372036854775807) (g2 : -9223372036854775808 ≤ hi + by_) (g3 : hi + by_ ≤ 9223372036854775807) :
    Calls Try.prog 22 #[.agg #[.int .i64 lo, .int .i64 hi], .int .i64 by_] w fun e w' => e = .returned (.tuple #[.agg #[.int .i64 (lo + by_), .int .i64 (hi + by_)], .int .i64 0]) ∧ Below w.heap.size w w' := by
  have d1 : decide (lo ≤ hi) = true := by simpa using h
  have k1 := hide (fun w => add_yes lo by_ w a0 a1 c0 c1 g g1)
  have k2 := hide (fun w => add_yes hi by_ w b0 b1 c0 c1 g2 g3)
  go_enter Try.func22, Try.ntmps22
  go_wp2_with fail
  refine (may_any lo hi _).mono ?_
  rintro e w' ⟨rfl, rfl⟩
  go_wp2_with fail
  refine (k1.out _).mono ?_
  rintro e w' ⟨rfl, rfl⟩
  go_wp2_with fail
  refine (k2.out _).mono ?_
  rintro e w' ⟨rfl, rfl⟩
  go_wp2_with fail
  refine bodyPost_ret (v := .tuple #[.agg #[.int .i64 (lo + by_), .int .i64 (hi + by_)], .int .i64 0]) (by simp [results, Try.results22, go_sem]) rfl ⟨rfl, ?_⟩
  repeat (first | exact Below.refl _ _ | refine Below.drew ?_ | refine Below.setCell ?_ (by first | omega | (simp <;> omega)) _ | refine Below.alloc ?_ (by first | omega | (simp <;> omega)) _)

/-- a span further on: its ends, and what is told -/
structure Moved where
  lo : Int
  hi : Int
  e : Int
def shiftv (lo hi by_ : Int) : Moved :=
  if ¬ lo ≤ hi then ⟨0, 0, 1⟩ else if lo + by_ < -9223372036854775808 ∨ 9223372036854775807 < lo + by_ ∨ hi + by_ < -9223372036854775808 ∨ 9223372036854775807 < hi + by_ then ⟨0, 0, 10⟩ else ⟨lo + by_, hi + by_, 0⟩

theorem moved_cases (lo hi by_ : Int) : (¬ lo ≤ hi ∧ shiftv lo hi by_ = ⟨0, 0, 1⟩) ∨ (lo ≤ hi ∧ (lo + by_ < -9223372036854775808 ∨ 9223372036854775807 < lo + by_) ∧ shiftv lo hi by_ = ⟨0, 0, 10⟩)
    ∨ (lo ≤ hi ∧ (-9223372036854775808 ≤ lo + by_ ∧ lo + by_ ≤ 9223372036854775807) ∧ (hi + by_ < -9223372036854775808 ∨ 9223372036854775807 < hi + by_) ∧ shiftv lo hi by_ = ⟨0, 0, 10⟩)
    ∨ (lo ≤ hi ∧ (-9223372036854775808 ≤ lo + by_ ∧ lo + by_ ≤ 9223372036854775807) ∧ (-9223372036854775808 ≤ hi + by_ ∧ hi + by_ ≤ 9223372036854775807) ∧ shiftv lo hi by_ = ⟨lo + by_, hi + by_, 0⟩) := by
  unfold shiftv
  by_cases h : lo ≤ hi
  · by_cases g : lo + by_ < -9223372036854775808 ∨ 9223372036854775807 < lo + by_
    · exact .inr (.inl ⟨h, g, by rw [if_neg (fun x => x h), if_pos (by omega)]⟩)
    · by_cases g2 : hi + by_ < -9223372036854775808 ∨ 9223372036854775807 < hi + by_
      · exact .inr (.inr (.inl ⟨h, by omega, g2, by rw [if_neg (fun x => x h), if_pos (by omega)]⟩))
      · exact .inr (.inr (.inr ⟨h, by omega, by omega, by rw [if_neg (fun x => x h), if_neg (by omega)]⟩))
  · exact .inl ⟨h, by rw [if_pos h]⟩

theorem shift_any (lo hi by_ : Int) (w : World) (a0 : -9223372036854775808 ≤ lo) (a1 : lo ≤ 9223372036854775807) (b0 : -9223372036854775808 ≤ hi) (b1 : hi ≤ 9223372036854775807) (c0 : -9223372036854775808 ≤ by_) (c1 : by_ ≤ 9223372036854775807) :
    Calls Try.prog 22 #[.agg #[.int .i64 lo, .int .i64 hi], .int .i64 by_] w fun e w' => e = .returned (.tuple #[.agg #[.int .i64 (shiftv lo hi by_).lo, .int .i64 (shiftv lo hi by_).hi], .int .i64 (shiftv lo hi by_).e]) ∧ Below w.heap.size w w' := by
  rcases moved_cases lo hi by_ with ⟨h, e⟩ | ⟨h, g, e⟩ | ⟨h, g, g2, e⟩ | ⟨h, g, g2, e⟩ <;> rw [e]
  · exact shift_arg lo hi by_ w a0 a1 b0 b1 c0 c1 h
  · exact shift_lo lo hi by_ w a0 a1 b0 b1 c0 c1 h g
  · exact shift_hi lo hi by_ w a0 a1 b0 b1 c0 c1 h g.1 g.2 g2
  · exact shift_yes lo hi by_ w a0 a1 b0 b1 c0 c1 h g.1 g.2 g2.1 g2.2
end Go.Proofs.Ytgmnhpelncbknaa
