/- The law NumMeets at the landed code, where the two spans have something in common and the first has not the number: it returns true. -/
import Derived.Test.YtgmnhpelncbknabNumMeet
import Derived.Test.YtgmnhpelncbknabHeld
import Derived.Deep.RegionWith
namespace Go.Proofs.Ytgmnhpelncbknab
namespace NumMeets
open Go.ChangeShapes Go.WideShapes Go.ChangeAt Go.RowKit
set_option linter.unusedVariables false

set_option maxHeartbeats 1000000 in
theorem yes_two (la ha lb hb lo hi v : Int) (w : World) (c1 : Hid (∀ w, Calls Try.prog 11 #[.agg #[.int .i64 la, .int .i64 ha], .agg #[.int .i64 lb, .int .i64 hb]] w fun e w' => e = .returned (.tuple #[.agg #[.int .i64 lo, .int .i64 hi], .bool true]) ∧ Below w.heap.size w w'))
    (c2 : Hid (∀ w, Calls Try.prog 11 #[.agg #[.int .i64 lb, .int .i64 hb], .agg #[.int .i64 la, .int .i64 ha]] w fun e w' => e = .returned (.tuple #[.agg #[.int .i64 lo, .int .i64 hi], .bool true]) ∧ Below w.heap.size w w'))
    (cm : Hid (∀ w, Calls Try.prog 9 #[.agg #[.int .i64 lo, .int .i64 hi]] w fun e w' => e = .returned (.bool true) ∧ w' = w.alloc (.cells #[.int .i64 lo, .int .i64 hi] 23)))
    (k1 : hasB lo hi lo = true) (k2 : hasB la ha hi = true) (k3 : hasB lb hb lo = true) (j1 : hasB lo hi v = false) (j2 : hasB la ha v = false) :
    Calls Try.prog 5 #[.agg #[.int .i64 la, .int .i64 ha], .agg #[.int .i64 lb, .int .i64 hb], .int .i64 v] w fun e w' => e = .returned (.bool true) ∧ Below w.heap.size w w' := by
  go_enter Try.func5, Try.ntmps5
  go_wp2_with fail
  refine (c1.out _).mono ?_
  rintro e w1 ⟨rfl, hb1⟩
  obtain ⟨hc1, hf1⟩ := bcell hb1
  have hz1 : w.heap.size + 1 < w1.heap.size := by have := hb1.size; simp at this; omega
  have hy1 : w.heap.size < w1.heap.size := by omega
  go_wp2_with fail
  refine (c2.out _).mono ?_
  rintro e w2 ⟨rfl, hb2⟩
  obtain ⟨hc2, hf2⟩ := bcell hb2
  have hz2 : w1.heap.size < w2.heap.size := by have := hb2.size; simp at this; omega
  have hy2 : w.heap.size + 1 < w2.heap.size := by omega
  have hx2 : w.heap.size < w2.heap.size := by omega
  go_wp2_with fail
  refine (awake_any _).mono ?_
  rintro e w' ⟨rfl, rfl⟩
  go_wp2_with fail
  have q1 : w2.cell? ⟨w.heap.size, 0, none⟩ = some (.int .i64 la) := by go_simp
  have q2 : w2.cell? ⟨w.heap.size, 1, none⟩ = some (.int .i64 ha) := by go_simp
  have q3 : w2.cell? ⟨w.heap.size + 1, 0, none⟩ = some (.int .i64 lb) := by go_simp
  have q4 : w2.cell? ⟨w.heap.size + 1, 1, none⟩ = some (.int .i64 hb) := by go_simp
  have q5 : w2.cell? ⟨w1.heap.size, 0, none⟩ = some (.int .i64 lo) := by go_simp
  have q6 : w2.cell? ⟨w1.heap.size, 1, none⟩ = some (.int .i64 hi) := by go_simp
  clear hc1 hf1 hc2 hf2
  have hbel : Below w.heap.size w w2 := by
    refine Below.trans ?_ (hb2.mono (B' := w.heap.size) (by simp; omega))
    refine Below.alloc ?_ (by first | omega | (simp <;> omega)) _
    refine Below.trans ?_ (hb1.mono (B' := w.heap.size) (by simp; omega))
    refine Below.alloc ?_ (by simp) _
    exact Below.alloc (Below.refl _ _) (by simp) _
  refine wp_region_cells w [(⟨w.heap.size, 0, none⟩, .int .i64 la), (⟨w.heap.size, 1, none⟩, .int .i64 ha), (⟨w.heap.size + 1, 0, none⟩, .int .i64 lb), (⟨w.heap.size + 1, 1, none⟩, .int .i64 hb), (⟨w1.heap.size, 0, none⟩, .int .i64 lo), (⟨w1.heap.size, 1, none⟩, .int .i64 hi)] (by kernel_rfl) (by kernel_rfl)
    (Below.alloc (Below.alloc hbel hbel.size _) (by simp; omega) _) (by simp (config := { maxDischargeDepth := 9 }) [AllCells, q1, q2, q3, q4, q5, q6, World.cell?_alloc_some]) ?_
  intro hne q
  simp only [AllCells, and_true] at q
  clear q1 q2 q3 q4 q5 q6 hb1 hb2 hbel hz1 hy1 hz2 hy2 hx2
  repeat (go_big_quiet_step (first | (go_at_call 9; exact Held.call_alloc _ (cm.out _)) | (go_at_call_of 8 (#[Value.agg #[Value.int .i64 lo, Value.int .i64 hi], Value.int .i64 v]); exact Held.call_alloc _ (has_lit j1 _)) | (go_at_call_of 8 (#[Value.agg #[Value.int .i64 la, Value.int .i64 ha], Value.int .i64 v]); exact Held.call_alloc _ (has_lit j2 _)) | (go_at_call_of 8 (#[Value.agg #[Value.int .i64 lo, Value.int .i64 hi], Value.int .i64 lo]); exact Held.call_alloc _ (has_lit k1 _)) | (go_at_call_of 8 (#[Value.agg #[Value.int .i64 la, Value.int .i64 ha], Value.int .i64 hi]); exact Held.call_alloc _ (has_lit k2 _)) | (go_at_call_of 8 (#[Value.agg #[Value.int .i64 lb, Value.int .i64 hb], Value.int .i64 lo]); exact Held.call_alloc _ (has_lit k3 _))))
  refine wpQuiet_nil ?_
  rintro _ ⟨y, rfl⟩
  go_wp2_with fail
  go_ret
  exact ⟨rfl, y.below⟩

end NumMeets
end Go.Proofs.Ytgmnhpelncbknab
