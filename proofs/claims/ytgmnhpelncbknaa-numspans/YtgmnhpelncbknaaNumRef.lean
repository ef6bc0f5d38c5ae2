/- What the document's own Add and Sub (purseref01) return, at the landed code. No condition but that the numbers are ints. -/
import Derived.Test.YtgmnhpelncbknaaNumOf
namespace Go.Proofs.Ytgmnhpelncbknaa
open Go.ChangeShapes Go.WideShapes Go.ChangeAt Go.RowKit
set_option linter.unusedVariables false

theorem ints_two (a b : Int) (a0 : -9223372036854775808 ≤ a) (a1 : a ≤ 9223372036854775807) (b0 : -9223372036854775808 ≤ b) (b1 : b ≤ 9223372036854775807) : ints [a, b] := by
  intro j
  match j with
  | 0 => exact ⟨a0, a1⟩
  | 1 => exact ⟨b0, b1⟩
  | j + 2 => simp

theorem ints_one (a : Int) (a0 : -9223372036854775808 ≤ a) (a1 : a ≤ 9223372036854775807) : ints [a] := by
  intro j
  match j with
  | 0 => exact ⟨a0, a1⟩
  | j + 1 => simp

theorem of_two (a b : Int) (w : World) (hi : ints [a, b]) :
    Calls Try.prog 33 #[.slice (some ⟨w.heap.size, 0, none⟩) 2 2] (w.alloc (.cells #[.int .i64 a, .int .i64 b] 3)) fun e w' => e = .returned (.agg #[.int .i64 (hiOf (a + b)), .int .u64 (loOf (a + b))]) ∧ Below (w.heap.size + 1) (w.alloc (.cells #[.int .i64 a, .int .i64 b] 3)) w' := by
  have := of_any w.heap.size 0 2 2 [a, b] (w.alloc (.cells #[.int .i64 a, .int .i64 b] 3)) (by simp) (by simp) (by omega) hi (by
    intro j hj
    match j, hj with
    | 0, _ => simp [go_sem]
    | 1, _ => simp [go_sem])
  simp only [List.take, List.sum_cons, List.sum_nil, Int.add_zero, World.size_alloc] at this
  exact this

theorem of_one (a : Int) (w : World) (hi : ints [a]) :
    Calls Try.prog 33 #[.slice (some ⟨w.heap.size, 0, none⟩) 1 1] (w.alloc (.cells #[.int .i64 a] 3)) fun e w' => e = .returned (.agg #[.int .i64 (hiOf a), .int .u64 (loOf a)]) ∧ Below (w.heap.size + 1) (w.alloc (.cells #[.int .i64 a] 3)) w' := by
  have := of_any w.heap.size 0 1 1 [a] (w.alloc (.cells #[.int .i64 a] 3)) (by simp) (by simp) (by omega) hi (by
    intro j hj
    match j, hj with
    | 0, _ => simp [go_sem])
  simp only [List.take, List.sum_cons, List.sum_nil, Int.add_zero, World.size_alloc] at this
  exact this

theorem refadd_yes (a b : Int) (w : World) (a0 : -9223372036854775808 ≤ a) (a1 : a ≤ 9223372036854775807) (b0 : -9223372036854775808 ≤ b) (b1 : b ≤ 9223372036854775807)
    (h1 : -9223372036854775808 ≤ a + b) (h2 : a + b ≤ 9223372036854775807) :
    Calls Try.prog 11 #[.int .i64 a, .int .i64 b] w fun e w' => e = .returned (.tuple #[.int .i64 (a + b), .int .i64 0]) ∧ Below w.heap.size w w' := by
  have c1 := hide (of_two a b w (ints_two a b a0 a1 b0 b1))
  have c2 := hide (fun w => told_yes (a + b) w h1 h2)
  go_enter Try.func11, Try.ntmps11
  go_wp2_with fail
  refine c1.out.mono ?_
  rintro e w1 ⟨rfl, hb1⟩
  go_wp2_with fail
  refine (c2.out _).mono ?_
  rintro e w2 ⟨rfl, hb2⟩
  go_wp2_with fail
  go_ret2
  exact ⟨rfl, ((Below.alloc (Below.refl _ _) (Nat.le_refl _) _).trans (hb1.mono (Nat.le_succ _))).trans (hb2.mono (B' := w.heap.size) (by have := hb1.size; simp at this; omega))⟩

theorem refadd_no (a b : Int) (w : World) (a0 : -9223372036854775808 ≤ a) (a1 : a ≤ 9223372036854775807) (b0 : -9223372036854775808 ≤ b) (b1 : b ≤ 9223372036854775807)
    (h : a + b < -9223372036854775808 ∨ 9223372036854775807 < a + b) :
    Calls Try.prog 11 #[.int .i64 a, .int .i64 b] w fun e w' => e = .returned (.tuple #[.int .i64 0, .int .i64 10]) ∧ Below w.heap.size w w' := by
  have c1 := hide (of_two a b w (ints_two a b a0 a1 b0 b1))
  have c2 := hide (fun w => told_no (a + b) w h)
  clear h
  go_enter Try.func11, Try.ntmps11
  go_wp2_with fail
  refine c1.out.mono ?_
  rintro e w1 ⟨rfl, hb1⟩
  go_wp2_with fail
  refine (c2.out _).mono ?_
  rintro e w2 ⟨rfl, hb2⟩
  go_wp2_with fail
  go_ret2
  exact ⟨rfl, ((Below.alloc (Below.refl _ _) (Nat.le_refl _) _).trans (hb1.mono (Nat.le_succ _))).trans (hb2.mono (B' := w.heap.size) (by have := hb1.size; simp at this; omega))⟩

theorem refsub_yes (a b : Int) (w : World) (a0 : -9223372036854775808 ≤ a) (a1 : a ≤ 9223372036854775807) (b0 : -9223372036854775808 ≤ b) (b1 : b ≤ 9223372036854775807)
    (h1 : -9223372036854775808 ≤ a - b) (h2 : a - b ≤ 9223372036854775807) :
    Calls Try.prog 12 #[.int .i64 a, .int .i64 b] w fun e w' => e = .returned (.tuple #[.int .i64 (a - b), .int .i64 0]) ∧ Below w.heap.size w w' := by
  have c1 := hide (of_one a w (ints_one a a0 a1))
  have c3 := hide (fun w => less_any a b w (by unfold hiOf; omega) (by unfold hiOf; omega) b0 b1)
  have c2 := hide (fun w => told_yes (a - b) w h1 h2)
  go_enter Try.func12, Try.ntmps12
  go_wp2_with fail
  refine c1.out.mono ?_
  rintro e w1 ⟨rfl, hb1⟩
  go_wp2_with fail
  refine (c3.out _).mono ?_
  rintro e w3 ⟨rfl, hb3⟩
  go_wp2_with fail
  refine (c2.out _).mono ?_
  rintro e w2 ⟨rfl, hb2⟩
  go_wp2_with fail
  go_ret2
  have z1 : w.heap.size ≤ w1.heap.size := by have := hb1.size; simp at this; omega
  exact ⟨rfl, (((Below.alloc (Below.refl _ _) (Nat.le_refl _) _).trans (hb1.mono (Nat.le_succ _))).trans (hb3.mono z1)).trans (hb2.mono (Nat.le_trans z1 hb3.size))⟩

theorem refsub_no (a b : Int) (w : World) (a0 : -9223372036854775808 ≤ a) (a1 : a ≤ 9223372036854775807) (b0 : -9223372036854775808 ≤ b) (b1 : b ≤ 9223372036854775807)
    (h : a - b < -9223372036854775808 ∨ 9223372036854775807 < a - b) :
    Calls Try.prog 12 #[.int .i64 a, .int .i64 b] w fun e w' => e = .returned (.tuple #[.int .i64 0, .int .i64 10]) ∧ Below w.heap.size w w' := by
  have c1 := hide (of_one a w (ints_one a a0 a1))
  have c3 := hide (fun w => less_any a b w (by unfold hiOf; omega) (by unfold hiOf; omega) b0 b1)
  have c2 := hide (fun w => told_no (a - b) w h)
  clear h
  go_enter Try.func12, Try.ntmps12
  go_wp2_with fail
  refine c1.out.mono ?_
  rintro e w1 ⟨rfl, hb1⟩
  go_wp2_with fail
  refine (c3.out _).mono ?_
  rintro e w3 ⟨rfl, hb3⟩
  go_wp2_with fail
  refine (c2.out _).mono ?_
  rintro e w2 ⟨rfl, hb2⟩
  go_wp2_with fail
  go_ret2
  have z1 : w.heap.size ≤ w1.heap.size := by have := hb1.size; simp at this; omega
  exact ⟨rfl, (((Below.alloc (Below.refl _ _) (Nat.le_refl _) _).trans (hb1.mono (Nat.le_succ _))).trans (hb3.mono z1)).trans (hb2.mono (Nat.le_trans z1 hb3.size))⟩
end Go.Proofs.Ytgmnhpelncbknaa
