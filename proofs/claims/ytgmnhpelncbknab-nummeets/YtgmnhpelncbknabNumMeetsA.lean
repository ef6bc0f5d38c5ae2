/- The law NumMeets at the landed code, where the two spans have nothing in common, and where the first has the number: it returns true. -/
import Derived.Test.YtgmnhpelncbknabNumMeet
import Derived.Deep.RegionHeld3
namespace Go.Proofs.Ytgmnhpelncbknab
namespace NumMeets
open Go.ChangeShapes Go.WideShapes Go.ChangeAt Go.RowKit
set_option linter.unusedVariables false

theorem no (la ha lb hb lo hi v : Int) (w : World) (hl : (lo = la ∧ lb ≤ la) ∨ (lo = lb ∧ la < lb)) (hh : (hi = ha ∧ ha ≤ hb) ∨ (hi = hb ∧ hb < ha)) (h : ¬ lo ≤ hi) :
    Calls Try.prog 5 #[.agg #[.int .i64 la, .int .i64 ha], .agg #[.int .i64 lb, .int .i64 hb], .int .i64 v] w fun e w' => e = .returned (.bool true) ∧ Below w.heap.size w w' := by
  have c1 := hide (fun w => meet_no la ha lb hb lo hi w hl hh h)
  have c2 := hide (fun w => meet_no lb hb la ha lo hi w (by omega) (by omega) h)
  by_cases g1 : la ≤ v ∧ v ≤ ha
  · have g2 : ¬ (lb ≤ v ∧ v ≤ hb) := by omega
    have G1 := hide g1
    have G2 := hide g2
    clear h hl hh g1 g2
    go_enter Try.func5, Try.ntmps5
    go_wp2_with fail
    refine (c1.out _).mono ?_
    rintro e w1 ⟨rfl, hb1⟩
    obtain ⟨hc1, hf1⟩ := bcell hb1
    have hz1 : w.heap.size + 1 < w1.heap.size := by have := hb1.size; simp at this; omega
    have hy1 : w.heap.size < w1.heap.size := by omega
    go_wp2_with fail
    refine (c2.out _).mono ?_
    rintro e w2 ⟨rfl, hb2⟩
    obtain ⟨hc2, hf2⟩ := bcell hb2
    have hz2 : w1.heap.size < w2.heap.size := by have := hb2.size; simp at this; omega
    have hy2 : w.heap.size + 1 < w2.heap.size := by omega
    have hx2 : w.heap.size < w2.heap.size := by omega
    go_wp2_with fail
    refine (awake_any _).mono ?_
    rintro e w' ⟨rfl, rfl⟩
    go_wp2_with fail
    refine (has_yes la ha v _ G1.out.1 G1.out.2).mono ?_
    rintro e w' ⟨rfl, rfl⟩
    go_wp2_with fail
    refine (has_no lb hb v _ G2.out).mono ?_
    rintro e w' ⟨rfl, rfl⟩
    go_wp2_with fail
    go_ret
    refine ⟨rfl, ?_⟩
    repeat (refine Below.alloc ?_ (by first | omega | (simp <;> omega)) _)
    refine Below.trans ?_ (hb2.mono (B' := w.heap.size) (by simp; omega))
    refine Below.alloc ?_ (by first | omega | (simp <;> omega)) _
    refine Below.trans ?_ (hb1.mono (B' := w.heap.size) (by simp; omega))
    refine Below.alloc ?_ (by simp) _
    exact Below.alloc (Below.refl _ _) (by simp) _
  · have G1 := hide g1
    clear h hl hh g1
    go_enter Try.func5, Try.ntmps5
    go_wp2_with fail
    refine (c1.out _).mono ?_
    rintro e w1 ⟨rfl, hb1⟩
    obtain ⟨hc1, hf1⟩ := bcell hb1
    have hz1 : w.heap.size + 1 < w1.heap.size := by have := hb1.size; simp at this; omega
    have hy1 : w.heap.size < w1.heap.size := by omega
    go_wp2_with fail
    refine (c2.out _).mono ?_
    rintro e w2 ⟨rfl, hb2⟩
    obtain ⟨hc2, hf2⟩ := bcell hb2
    have hz2 : w1.heap.size < w2.heap.size := by have := hb2.size; simp at this; omega
    have hy2 : w.heap.size + 1 < w2.heap.size := by omega
    have hx2 : w.heap.size < w2.heap.size := by omega
    go_wp2_with fail
    refine (awake_any _).mono ?_
    rintro e w' ⟨rfl, rfl⟩
    go_wp2_with fail
    refine (has_no la ha v _ G1.out).mono ?_
    rintro e w' ⟨rfl, rfl⟩
    go_wp2_with fail
    go_ret
    refine ⟨rfl, ?_⟩
    repeat (refine Below.alloc ?_ (by first | omega | (simp <;> omega)) _)
    refine Below.trans ?_ (hb2.mono (B' := w.heap.size) (by simp; omega))
    refine Below.alloc ?_ (by first | omega | (simp <;> omega)) _
    refine Below.trans ?_ (hb1.mono (B' := w.heap.size) (by simp; omega))
    refine Below.alloc ?_ (by simp) _
    exact Below.alloc (Below.refl _ _) (by simp) _

set_option maxHeartbeats 1000000 in
theorem yes_both (la ha lb hb lo hi v : Int) (w : World) (c1 : Hid (∀ w, Calls Try.prog 11 #[.agg #[.int .i64 la, .int .i64 ha], .agg #[.int .i64 lb, .int .i64 hb]] w fun e w' => e = .returned (.tuple #[.agg #[.int .i64 lo, .int .i64 hi], .bool true]) ∧ Below w.heap.size w w'))
    (c2 : Hid (∀ w, Calls Try.prog 11 #[.agg #[.int .i64 lb, .int .i64 hb], .agg #[.int .i64 la, .int .i64 ha]] w fun e w' => e = .returned (.tuple #[.agg #[.int .i64 lo, .int .i64 hi], .bool true]) ∧ Below w.heap.size w w'))
    (cm : Hid (∀ w, Calls Try.prog 9 #[.agg #[.int .i64 lo, .int .i64 hi]] w fun e w' => e = .returned (.bool true) ∧ w' = w.alloc (.cells #[.int .i64 lo, .int .i64 hi] 23)))
    (k1 : hasB lo hi lo = true) (k2 : hasB la ha hi = true) (k3 : hasB lb hb lo = true) (j1 : hasB lo hi v = true) (j2 : hasB la ha v = true) (j3 : hasB lb hb v = true) :
    Calls Try.prog 5 #[.agg #[.int .i64 la, .int .i64 ha], .agg #[.int .i64 lb, .int .i64 hb], .int .i64 v] w fun e w' => e = .returned (.bool true) ∧ Below w.heap.size w w' := by
  go_enter Try.func5, Try.ntmps5
  go_wp2_with fail
  refine (c1.out _).mono ?_
  rintro e w1 ⟨rfl, hb1⟩
  obtain ⟨hc1, hf1⟩ := bcell hb1
  have hz1 : w.heap.size + 1 < w1.heap.size := by have := hb1.size; simp at this; omega
  have hy1 : w.heap.size < w1.heap.size := by omega
  go_wp2_with fail
  refine (c2.out _).mono ?_
  rintro e w2 ⟨rfl, hb2⟩
  obtain ⟨hc2, hf2⟩ := bcell hb2
  have hz2 : w1.heap.size < w2.heap.size := by have := hb2.size; simp at this; omega
  have hy2 : w.heap.size + 1 < w2.heap.size := by omega
  have hx2 : w.heap.size < w2.heap.size := by omega
  go_wp2_with fail
  refine (awake_any _).mono ?_
  rintro e w' ⟨rfl, rfl⟩
  go_wp2_with fail
  have q1 : w2.cell? ⟨w.heap.size, 0, none⟩ = some (.int .i64 la) := by go_simp
  have q2 : w2.cell? ⟨w.heap.size, 1, none⟩ = some (.int .i64 ha) := by go_simp
  have q3 : w2.cell? ⟨w.heap.size + 1, 0, none⟩ = some (.int .i64 lb) := by go_simp
  have q4 : w2.cell? ⟨w.heap.size + 1, 1, none⟩ = some (.int .i64 hb) := by go_simp
  have q5 : w2.cell? ⟨w1.heap.size, 0, none⟩ = some (.int .i64 lo) := by go_simp
  have q6 : w2.cell? ⟨w1.heap.size, 1, none⟩ = some (.int .i64 hi) := by go_simp
  clear hc1 hf1 hc2 hf2
  go_region_held3 (fun x => x.cell? ⟨w.heap.size, 0, none⟩ = some (.int .i64 la) ∧ x.cell? ⟨w.heap.size, 1, none⟩ = some (.int .i64 ha) ∧ x.cell? ⟨w.heap.size + 1, 0, none⟩ = some (.int .i64 lb) ∧ x.cell? ⟨w.heap.size + 1, 1, none⟩ = some (.int .i64 hb) ∧ x.cell? ⟨w1.heap.size, 0, none⟩ = some (.int .i64 lo) ∧ x.cell? ⟨w1.heap.size, 1, none⟩ = some (.int .i64 hi)) (simp (config := { maxDischargeDepth := 14 }) [q1, q2, q3, q4, q5, q6, World.cell?_alloc_some]) (first | (go_at_call 9; refine (cm.out _).mono ?_; rintro e w' ⟨rfl, rfl⟩) | (go_at_call 8; refine (has_any _ _ _ _).mono ?_; rintro e w' ⟨rfl, rfl⟩))
  all_goals go_wp2_with fail
  go_ret
  refine ⟨rfl, ?_⟩
  repeat (first | refine Below.drew ?_ | refine Below.alloc ?_ (by first | omega | (simp <;> omega)) _)
  refine Below.trans ?_ (hb2.mono (B' := w.heap.size) (by simp; omega))
  refine Below.alloc ?_ (by first | omega | (simp <;> omega)) _
  refine Below.trans ?_ (hb1.mono (B' := w.heap.size) (by simp; omega))
  refine Below.alloc ?_ (by simp) _
  exact Below.alloc (Below.refl _ _) (by simp) _

set_option maxHeartbeats 1000000 in
theorem yes_one (la ha lb hb lo hi v : Int) (w : World) (c1 : Hid (∀ w, Calls Try.prog 11 #[.agg #[.int .i64 la, .int .i64 ha], .agg #[.int .i64 lb, .int .i64 hb]] w fun e w' => e = .returned (.tuple #[.agg #[.int .i64 lo, .int .i64 hi], .bool true]) ∧ Below w.heap.size w w'))
    (c2 : Hid (∀ w, Calls Try.prog 11 #[.agg #[.int .i64 lb, .int .i64 hb], .agg #[.int .i64 la, .int .i64 ha]] w fun e w' => e = .returned (.tuple #[.agg #[.int .i64 lo, .int .i64 hi], .bool true]) ∧ Below w.heap.size w w'))
    (cm : Hid (∀ w, Calls Try.prog 9 #[.agg #[.int .i64 lo, .int .i64 hi]] w fun e w' => e = .returned (.bool true) ∧ w' = w.alloc (.cells #[.int .i64 lo, .int .i64 hi] 23)))
    (k1 : hasB lo hi lo = true) (k2 : hasB la ha hi = true) (k3 : hasB lb hb lo = true) (j1 : hasB lo hi v = false) (j2 : hasB la ha v = true) (j3 : hasB lb hb v = false) :
    Calls Try.prog 5 #[.agg #[.int .i64 la, .int .i64 ha], .agg #[.int .i64 lb, .int .i64 hb], .int .i64 v] w fun e w' => e = .returned (.bool true) ∧ Below w.heap.size w w' := by
  go_enter Try.func5, Try.ntmps5
  go_wp2_with fail
  refine (c1.out _).mono ?_
  rintro e w1 ⟨rfl, hb1⟩
  obtain ⟨hc1, hf1⟩ := bcell hb1
  have hz1 : w.heap.size + 1 < w1.heap.size := by have := hb1.size; simp at this; omega
  have hy1 : w.heap.size < w1.heap.size := by omega
  go_wp2_with fail
  refine (c2.out _).mono ?_
  rintro e w2 ⟨rfl, hb2⟩
  obtain ⟨hc2, hf2⟩ := bcell hb2
  have hz2 : w1.heap.size < w2.heap.size := by have := hb2.size; simp at this; omega
  have hy2 : w.heap.size + 1 < w2.heap.size := by omega
  have hx2 : w.heap.size < w2.heap.size := by omega
  go_wp2_with fail
  refine (awake_any _).mono ?_
  rintro e w' ⟨rfl, rfl⟩
  go_wp2_with fail
  have q1 : w2.cell? ⟨w.heap.size, 0, none⟩ = some (.int .i64 la) := by go_simp
  have q2 : w2.cell? ⟨w.heap.size, 1, none⟩ = some (.int .i64 ha) := by go_simp
  have q3 : w2.cell? ⟨w.heap.size + 1, 0, none⟩ = some (.int .i64 lb) := by go_simp
  have q4 : w2.cell? ⟨w.heap.size + 1, 1, none⟩ = some (.int .i64 hb) := by go_simp
  have q5 : w2.cell? ⟨w1.heap.size, 0, none⟩ = some (.int .i64 lo) := by go_simp
  have q6 : w2.cell? ⟨w1.heap.size, 1, none⟩ = some (.int .i64 hi) := by go_simp
  clear hc1 hf1 hc2 hf2
  go_region_held3 (fun x => x.cell? ⟨w.heap.size, 0, none⟩ = some (.int .i64 la) ∧ x.cell? ⟨w.heap.size, 1, none⟩ = some (.int .i64 ha) ∧ x.cell? ⟨w.heap.size + 1, 0, none⟩ = some (.int .i64 lb) ∧ x.cell? ⟨w.heap.size + 1, 1, none⟩ = some (.int .i64 hb) ∧ x.cell? ⟨w1.heap.size, 0, none⟩ = some (.int .i64 lo) ∧ x.cell? ⟨w1.heap.size, 1, none⟩ = some (.int .i64 hi)) (simp (config := { maxDischargeDepth := 14 }) [q1, q2, q3, q4, q5, q6, World.cell?_alloc_some]) (first | (go_at_call 9; refine (cm.out _).mono ?_; rintro e w' ⟨rfl, rfl⟩) | (go_at_call 8; refine (has_any _ _ _ _).mono ?_; rintro e w' ⟨rfl, rfl⟩))
  all_goals go_wp2_with fail
  go_ret
  refine ⟨rfl, ?_⟩
  repeat (first | refine Below.drew ?_ | refine Below.alloc ?_ (by first | omega | (simp <;> omega)) _)
  refine Below.trans ?_ (hb2.mono (B' := w.heap.size) (by simp; omega))
  refine Below.alloc ?_ (by first | omega | (simp <;> omega)) _
  refine Below.trans ?_ (hb1.mono (B' := w.heap.size) (by simp; omega))
  refine Below.alloc ?_ (by simp) _
  exact Below.alloc (Below.refl _ _) (by simp) _

end NumMeets
end Go.Proofs.Ytgmnhpelncbknab
