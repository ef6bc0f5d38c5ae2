/- What the document's own Shift (purseref01) returns, at the landed code. No condition but that the numbers are ints. -/
import Derived.Test.YtgmnhpelncbknaaNumShift
import Derived.Test.YtgmnhpelncbknaaNumRef
namespace Go.Proofs.Ytgmnhpelncbknaa
open Go.ChangeShapes Go.WideShapes Go.ChangeAt Go.RowKit
set_option linter.unusedVariables false

theorem refshift_arg (lo hi by_ : Int) (w : World) (a0 : -9223372036854775808 ≤ lo) (a1 : lo ≤ 9223372036854775807) (b0 : -9223372036854775808 ≤ hi) (b1 : hi ≤ 9223372036854775807) (c0 : -9223372036854775808 ≤ by_) (c1 : by_ ≤ 9223372036854775807) (h : ¬ lo ≤ hi) :
    Calls Try.prog 23 #[.agg #[.int .i64 lo, .int .i64 hi], .int .i64 by_] w fun e w' => e = .returned (.tuple #[.agg #[.int .i64 0, .int .i64 0], .int .i64 1]) ∧ Below w.heap.size w w' := by
  go_enter Try.func23, Try.ntmps23
  go_wp2_with fail
  refine bodyPost_ret (v := .tuple #[.agg #[.int .i64 0, .int .i64 0], .int .i64 1]) (by simp [results, Try.results23, go_sem]) rfl ⟨rfl, ?_⟩
  repeat (first | exact Below.refl _ _ | refine Below.drew ?_ | refine Below.setCell ?_ (by first | omega | (simp <;> omega)) _ | refine Below.alloc ?_ (by first | omega | (simp <;> omega)) _)

theorem refshift_lo_hi (lo hi by_ : Int) (w : World) (a0 : -9223372036854775808 ≤ lo) (a1 : lo ≤ 9223372036854775807) (b0 : -9223372036854775808 ≤ hi) (b1 : hi ≤ 9223372036854775807) (c0 : -9223372036854775808 ≤ by_) (c1 : by_ ≤ 9223372036854775807) (h : lo ≤ hi) (g : lo + by_ < -9223372036854775808 ∨ 9223372036854775807 < lo + by_) (g2 : -9223372036854775808 ≤ hi + by_) (g3 : hi + by_ ≤ 9223372036854775807) :
    Calls Try.prog 23 #[.agg #[.int .i64 lo, .int .i64 hi], .int .i64 by_] w fun e w' => e = .returned (.tuple #[.agg #[.int .i64 0, .int .i64 0], .int .i64 10]) ∧ Below w.heap.size w w' := by
  have k1 := hide (fun w => refadd_no lo by_ w a0 a1 c0 c1 g)
  have k2 := hide (fun w => refadd_yes hi by_ w b0 b1 c0 c1 g2 g3)
  clear g
  go_enter Try.func23, Try.ntmps23
  go_wp2_with fail
  refine (k1.out _).mono ?_
  rintro e w1 ⟨rfl, hb1⟩
  have hz1 : w.heap.size + 1 < w1.heap.size := by have := hb1.size; simp at this; omega
  have hx1 : w.heap.size < w1.heap.size := by omega
  obtain ⟨hc1, hf1⟩ := bcell hb1
  go_wp2_with fail
  refine (k2.out _).mono ?_
  rintro e w2 ⟨rfl, hb2⟩
  have hz2 : w.heap.size + 1 < w2.heap.size := by have := hb2.size; omega
  clear hc1 hf1
  have hc : ∀ o, w2.cell? ⟨w.heap.size + 1, o, none⟩ = ((w.alloc (.cells #[.int .i64 lo, .int .i64 hi] 34)).alloc (.cells #[.int .i64 0, .int .i64 0] 34)).cell? ⟨w.heap.size + 1, o, none⟩ := fun o => by
    rw [hb2.cell (p := ⟨w.heap.size + 1, o, none⟩) hz1, hb1.cell (p := ⟨w.heap.size + 1, o, none⟩) (by simp)]
  have hf : ∀ o, w2.frozen? ⟨w.heap.size + 1, o, none⟩ = ((w.alloc (.cells #[.int .i64 lo, .int .i64 hi] 34)).alloc (.cells #[.int .i64 0, .int .i64 0] 34)).frozen? ⟨w.heap.size + 1, o, none⟩ := fun o => by
    rw [hb2.frozen (p := ⟨w.heap.size + 1, o, none⟩) hz1, hb1.frozen (p := ⟨w.heap.size + 1, o, none⟩) (by simp)]
  go_wp2_with fail
  refine bodyPost_ret (v := .tuple #[.agg #[.int .i64 0, .int .i64 0], .int .i64 10]) (by simp [results, Try.results23, go_sem, hc]) rfl ⟨rfl, ?_⟩
  refine Below.setCell (Below.setCell ?_ (by simp) _) (by simp) _
  refine Below.trans ?_ (hb2.mono (B' := w.heap.size) (by omega))
  refine Below.trans ?_ (hb1.mono (B' := w.heap.size) (by simp; omega))
  exact Below.alloc (Below.alloc (Below.refl _ _) (by simp) _) (by simp) _

theorem refshift_lo_no (lo hi by_ : Int) (w : World) (a0 : -9223372036854775808 ≤ lo) (a1 : lo ≤ 9223372036854775807) (b0 : -9223372036854775808 ≤ hi) (b1 : hi ≤ 9223372036854775807) (c0 : -9223372036854775808 ≤ by_) (c1 : by_ ≤ 9223372036854775807) (h : lo ≤ hi) (g : lo + by_ < -9223372036854775808 ∨ 9223372036854775807 < lo + by_) (g2 : hi + by_ < -9223372036854775808 ∨ 9223372036854775807 < hi + by_) :
    Calls Try.prog 23 #[.agg #[.int .i64 lo, .int .i64 hi], .int .i64 by_] w fun e w' => e = .returned (.tuple #[.agg #[.int .i64 0, .int .i64 0], .int .i64 10]) ∧ Below w.heap.size w w' := by
  have k1 := hide (fun w => refadd_no lo by_ w a0 a1 c0 c1 g)
  have k2 := hide (fun w => refadd_no hi by_ w b0 b1 c0 c1 g2)
  clear g g2
  go_enter Try.func23, Try.ntmps23
  go_wp2_with fail
  refine (k1.out _).mono ?_
  rintro e w1 ⟨rfl, hb1⟩
  have hz1 : w.heap.size + 1 < w1.heap.size := by have := hb1.size; simp at this; omega
  have hx1 : w.heap.size < w1.heap.size := by omega
  obtain ⟨hc1, hf1⟩ := bcell hb1
  go_wp2_with fail
  refine (k2.out _).mono ?_
  rintro e w2 ⟨rfl, hb2⟩
  have hz2 : w.heap.size + 1 < w2.heap.size := by have := hb2.size; omega
  clear hc1 hf1
  have hc : ∀ o, w2.cell? ⟨w.heap.size + 1, o, none⟩ = ((w.alloc (.cells #[.int .i64 lo, .int .i64 hi] 34)).alloc (.cells #[.int .i64 0, .int .i64 0] 34)).cell? ⟨w.heap.size + 1, o, none⟩ := fun o => by
    rw [hb2.cell (p := ⟨w.heap.size + 1, o, none⟩) hz1, hb1.cell (p := ⟨w.heap.size + 1, o, none⟩) (by simp)]
  have hf : ∀ o, w2.frozen? ⟨w.heap.size + 1, o, none⟩ = ((w.alloc (.cells #[.int .i64 lo, .int .i64 hi] 34)).alloc (.cells #[.int .i64 0, .int .i64 0] 34)).frozen? ⟨w.heap.size + 1, o, none⟩ := fun o => by
    rw [hb2.frozen (p := ⟨w.heap.size + 1, o, none⟩) hz1, hb1.frozen (p := ⟨w.heap.size + 1, o, none⟩) (by simp)]
  go_wp2_with fail
  refine bodyPost_ret (v := .tuple #[.agg #[.int .i64 0, .int .i64 0], .int .i64 10]) (by simp [results, Try.results23, go_sem, hc]) rfl ⟨rfl, ?_⟩
  refine Below.setCell (Below.setCell ?_ (by simp) _) (by simp) _
  refine Below.trans ?_ (hb2.mono (B' := w.heap.size) (by omega))
  refine Below.trans ?_ (hb1.mono (B' := w.heap.size) (by simp; omega))
  exact Below.alloc (Below.alloc (Below.refl _ _) (by simp) _) (by simp) _

theorem refshift_hi (lo hi by_ : Int) (w : World) (a0 : -9223372036854775808 ≤ lo) (a1 : lo ≤ 9223372036854775807) (b0 : -9223372036854775808 ≤ hi) (b1 : hi ≤ 9223372036854775807) (c0 : -9223372036854775808 ≤ by_) (c1 : by_ ≤ 9223372036854775807) (h : lo ≤ hi) (g : -9223372036854775808 ≤ lo + by_) (g1 : lo + by_ ≤ 9223372036854775807) (g2 : hi + by_ < -9223372036854775808 ∨ 9223372036854775807 < hi + by_) :
    Calls Try.prog 23 #[.agg #[.int .i64 lo, .int .i64 hi], .int .i64 by_] w fun e w' => e = .returned (.tuple #[.agg #[.int .i64 0, .int .i64 0], .int .i64 10]) ∧ Below w.heap.size w w' := by
  have k1 := hide (fun w => refadd_yes lo by_ w a0 a1 c0 c1 g g1)
  have k2 := hide (fun w => refadd_no hi by_ w b0 b1 c0 c1 g2)
  clear g2
  go_enter Try.func23, Try.ntmps23
  go_wp2_with fail
  refine (k1.out _).mono ?_
  rintro e w1 ⟨rfl, hb1⟩
  have hz1 : w.heap.size + 1 < w1.heap.size := by have := hb1.size; simp at this; omega
  have hx1 : w.heap.size < w1.heap.size := by omega
  obtain ⟨hc1, hf1⟩ := bcell hb1
  go_wp2_with fail
  refine (k2.out _).mono ?_
  rintro e w2 ⟨rfl, hb2⟩
  have hz2 : w.heap.size + 1 < w2.heap.size := by have := hb2.size; omega
  clear hc1 hf1
  have hc : ∀ o, w2.cell? ⟨w.heap.size + 1, o, none⟩ = ((w.alloc (.cells #[.int .i64 lo, .int .i64 hi] 34)).alloc (.cells #[.int .i64 0, .int .i64 0] 34)).cell? ⟨w.heap.size + 1, o, none⟩ := fun o => by
    rw [hb2.cell (p := ⟨w.heap.size + 1, o, none⟩) hz1, hb1.cell (p := ⟨w.heap.size + 1, o, none⟩) (by simp)]
  have hf : ∀ o, w2.frozen? ⟨w.heap.size + 1, o, none⟩ = ((w.alloc (.cells #[.int .i64 lo, .int .i64 hi] 34)).alloc (.cells #[.int .i64 0, .int .i64 0] 34)).frozen? ⟨w.heap.size + 1, o, none⟩ := fun o => by
    rw [hb2.frozen (p := ⟨w.heap.size + 1, o, none⟩) hz1, hb1.frozen (p := ⟨w.heap.size + 1, o, none⟩) (by simp)]
  go_wp2_with fail
  refine bodyPost_ret (v := .tuple #[.agg #[.int .i64 0, .int .i64 0], .int .i64 10]) (by simp [results, Try.results23, go_sem, hc]) rfl ⟨rfl, ?_⟩
  refine Below.setCell (Below.setCell ?_ (by simp) _) (by simp) _
  refine Below.trans ?_ (hb2.mono (B' := w.heap.size) (by omega))
  refine Below.trans ?_ (hb1.mono (B' := w.heap.size) (by simp; omega))
  exact Below.alloc (Below.alloc (Below.refl _ _) (by simp) _) (by simp) _

theorem refshift_yes (lo hi by_ : Int) (w : World) (a0 : -9223372036854775808 ≤ lo) (a1 : lo ≤ 9223372036854775807) (b0 : -9223372036854775808 ≤ hi) (b1 : hi ≤ 9223372036854775807) (c0 : -9223372036854775808 ≤ by_) (c1 : by_ ≤ 9223372036854775807) (h : lo ≤ hi) (g : -9223372036854775808 ≤ lo + by_) (g1 : lo + by_ ≤ 9223372036854775807) (g2 : -9223372036854775808 ≤ hi + by_) (g3 : hi + by_ ≤ 9223372036854775807) :
    Calls Try.prog 23 #[.agg #[.int .i64 lo, .int .i64 hi], .int .i64 by_] w fun e w' => e = .returned (.tuple #[.agg #[.int .i64 (lo + by_), .int .i64 (hi + by_)], .int .i64 0]) ∧ Below w.heap.size w w' := by
  have k1 := hide (fun w => refadd_yes lo by_ w a0 a1 c0 c1 g g1)
  have k2 := hide (fun w => refadd_yes hi by_ w b0 b1 c0 c1 g2 g3)
  go_enter Try.func23, Try.ntmps23
  go_wp2_with fail
  refine (k1.out _).mono ?_
  rintro e w1 ⟨rfl, hb1⟩
  have hz1 : w.heap.size + 1 < w1.heap.size := by have := hb1.size; simp at this; omega
  have hx1 : w.heap.size < w1.heap.size := by omega
  obtain ⟨hc1, hf1⟩ := bcell hb1
  go_wp2_with fail
  refine (k2.out _).mono ?_
  rintro e w2 ⟨rfl, hb2⟩
  have hz2 : w.heap.size + 1 < w2.heap.size := by have := hb2.size; omega
  clear hc1 hf1
  have hc : ∀ o, w2.cell? ⟨w.heap.size + 1, o, none⟩ = ((w.alloc (.cells #[.int .i64 lo, .int .i64 hi] 34)).alloc (.cells #[.int .i64 0, .int .i64 0] 34)).cell? ⟨w.heap.size + 1, o, none⟩ := fun o => by
    rw [hb2.cell (p := ⟨w.heap.size + 1, o, none⟩) hz1, hb1.cell (p := ⟨w.heap.size + 1, o, none⟩) (by simp)]
  have hf : ∀ o, w2.frozen? ⟨w.heap.size + 1, o, none⟩ = ((w.alloc (.cells #[.int .i64 lo, .int .i64 hi] 34)).alloc (.cells #[.int .i64 0, .int .i64 0] 34)).frozen? ⟨w.heap.size + 1, o, none⟩ := fun o => by
    rw [hb2.frozen (p := ⟨w.heap.size + 1, o, none⟩) hz1, hb1.frozen (p := ⟨w.heap.size + 1, o, none⟩) (by simp)]
  go_wp2_with fail
  refine bodyPost_ret (v := .tuple #[.agg #[.int .i64 (lo + by_), .int .i64 (hi + by_)], .int .i64 0]) (by simp [results, Try.results23, go_sem, hc]) rfl ⟨rfl, ?_⟩
  refine Below.setCell (Below.setCell ?_ (by simp) _) (by simp) _
  refine Below.trans ?_ (hb2.mono (B' := w.heap.size) (by omega))
  refine Below.trans ?_ (hb1.mono (B' := w.heap.size) (by simp; omega))
  exact Below.alloc (Below.alloc (Below.refl _ _) (by simp) _) (by simp) _

theorem refshift_any (lo hi by_ : Int) (w : World) (a0 : -9223372036854775808 ≤ lo) (a1 : lo ≤ 9223372036854775807) (b0 : -9223372036854775808 ≤ hi) (b1 : hi ≤ 9223372036854775807) (c0 : -9223372036854775808 ≤ by_) (c1 : by_ ≤ 9223372036854775807) :
    Calls Try.prog 23 #[.agg #[.int .i64 lo, .int .i64 hi], .int .i64 by_] w fun e w' => e = .returned (.tuple #[.agg #[.int .i64 (shiftv lo hi by_).lo, .int .i64 (shiftv lo hi by_).hi], .int .i64 (shiftv lo hi by_).e]) ∧ Below w.heap.size w w' := by
  rcases moved_cases lo hi by_ with ⟨h, e⟩ | ⟨h, g, e⟩ | ⟨h, g, g2, e⟩ | ⟨h, g, g2, e⟩ <;> rw [e]
  · exact refshift_arg lo hi by_ w a0 a1 b0 b1 c0 c1 h
  · by_cases g2 : hi + by_ < -9223372036854775808 ∨ 9223372036854775807 < hi + by_
    · exact refshift_lo_no lo hi by_ w a0 a1 b0 b1 c0 c1 h g g2
    · exact refshift_lo_hi lo hi by_ w a0 a1 b0 b1 c0 c1 h g (by omega) (by omega)
  · exact refshift_hi lo hi by_ w a0 a1 b0 b1 c0 c1 h g.1 g.2 g2
  · exact refshift_yes lo hi by_ w a0 a1 b0 b1 c0 c1 h g.1 g.2 g2.1 g2.2
end Go.Proofs.Ytgmnhpelncbknaa
