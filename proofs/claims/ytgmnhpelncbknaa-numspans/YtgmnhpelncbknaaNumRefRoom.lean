/- What the document's own Room (purseref01) returns, and Room of package num in the same words, at the landed code. No condition but that the numbers are ints. -/
import Derived.Test.YtgmnhpelncbknaaNumRefMeet
import Derived.Test.YtgmnhpelncbknaaNumRef
import Derived.Test.YtgmnhpelncbknaaHeld
import Derived.Deep.RegionHeld3
namespace Go.Proofs.Ytgmnhpelncbknaa
open Go.ChangeShapes Go.WideShapes Go.ChangeAt Go.RowKit
set_option linter.unusedVariables false

theorem of_cell (a : Int) (b : Nat) (w : World) (a0 : -9223372036854775808 ≤ a) (a1 : a ≤ 9223372036854775807) (hc : w.cell? ⟨b, 0, none⟩ = some (.int .i64 a)) :
    Calls Try.prog 33 #[.slice (some ⟨b, 0, none⟩) 1 1] w fun e w' => e = .returned (.agg #[.int .i64 (hiOf a), .int .u64 (loOf a)]) ∧ Below w.heap.size w w' := by
  have := of_any b 0 1 1 [a] w (World.block_lt_of_cell? w ⟨b, 0, none⟩ hc) (by simp) (by omega) (ints_one a a0 a1) (by
    intro j hj
    match j, hj with
    | 0, _ => simpa using hc)
  simp only [List.take, List.sum_cons, List.sum_nil, Int.add_zero] at this
  exact this

set_option maxHeartbeats 1000000 in
theorem refroom_yes (lo hi v : Int) (w : World) (a1 : -9223372036854775808 ≤ lo) (a2 : lo ≤ 9223372036854775807) (b1 : -9223372036854775808 ≤ hi) (b2 : hi ≤ 9223372036854775807) (h1 : lo ≤ v) (h2 : v ≤ hi) :
    Calls Try.prog 19 #[.agg #[.int .i64 lo, .int .i64 hi], .int .i64 v] w fun e w' => e = .returned (.tuple #[.int .u64 (v - lo), .int .u64 (hi - v)]) ∧ Below w.heap.size w w' := by
  have v1 : -9223372036854775808 ≤ v := by omega
  have v2 : v ≤ 9223372036854775807 := by omega
  have kv := hide (fun b w => of_cell v b w v1 v2)
  have kh := hide (fun b w => of_cell hi b w b1 b2)
  have lv := hide (fun w => less_any v lo w (by unfold hiOf; omega) (by unfold hiOf; omega) a1 a2)
  have lh := hide (fun w => less_any hi v w (by unfold hiOf; omega) (by unfold hiOf; omega) v1 v2)
  have H1 : Hid (loOf (v - lo) = v - lo) := by show loOf _ = _; unfold loOf; omega
  have H2 : Hid (loOf (hi - v) = hi - v) := by show loOf _ = _; unfold loOf; omega
  have hh := hasB_true ⟨h1, h2⟩
  have hfld : ∀ (a b : Int) (w : World), (Instr.field 52 (.agg #[.int .i64 a, .int .u64 b]) 1).run Try.prog w = .ok (.int .u64 b) w := fun _ _ _ => by kernel_rfl
  go_enter Try.func19, Try.ntmps19
  go_wp2_with fail
  refine (refhas_any lo hi v _).mono ?_
  rintro e w' ⟨rfl, rfl⟩
  go_wp2_with fail
  go_region_held3 (fun x => x.cell? ⟨w.heap.size, 0, none⟩ = some (.int .i64 lo) ∧ x.cell? ⟨w.heap.size, 1, none⟩ = some (.int .i64 hi)) (first | (simp [go_sem]; done) | (simp (config := { maxDischargeDepth := 9 }) [go_sem, *]; done)) (first | (go_at_call 33; first | (refine (kv.out _ _ ?_).mono ?_; (focus (first | (simp [go_sem]; done) | (simp (config := { maxDischargeDepth := 9 }) [go_sem, *]; done))); rintro e w1 ⟨rfl, hb1⟩; obtain ⟨hc1, hf1⟩ := bcell hb1; have hz1 := fun (k : Nat) (h : k < _) => Nat.lt_of_lt_of_le h hb1.size; have hB1 : Below w.heap.size w w1 := below_step (by repeat (first | assumption | exact Below.refl _ _ | refine Below.drew ?_ | refine below_alloc ?_ _)) hb1) | (refine (kh.out _ _ ?_).mono ?_; (focus (first | (simp [go_sem]; done) | (simp (config := { maxDischargeDepth := 9 }) [go_sem, *]; done))); rintro e w1 ⟨rfl, hb1⟩; obtain ⟨hc1, hf1⟩ := bcell hb1; have hz1 := fun (k : Nat) (h : k < _) => Nat.lt_of_lt_of_le h hb1.size; have hB1 : Below w.heap.size w w1 := below_step (by repeat (first | assumption | exact Below.refl _ _ | refine Below.drew ?_ | refine below_alloc ?_ _)) hb1)) | (go_at_call_of 34 (Value.int .i64 lo); refine (lv.out _).mono ?_; rintro e w1 ⟨rfl, hb1⟩; obtain ⟨hc1, hf1⟩ := bcell hb1; have hz1 := fun (k : Nat) (h : k < _) => Nat.lt_of_lt_of_le h hb1.size; have hB1 : Below w.heap.size w w1 := below_step (by repeat (first | assumption | exact Below.refl _ _ | refine Below.drew ?_ | refine below_alloc ?_ _)) hb1) | (go_at_call_of 34 (Value.int .i64 v); refine (lh.out _).mono ?_; rintro e w1 ⟨rfl, hb1⟩; obtain ⟨hc1, hf1⟩ := bcell hb1; have hz1 := fun (k : Nat) (h : k < _) => Nat.lt_of_lt_of_le h hb1.size; have hB1 : Below w.heap.size w w1 := below_step (by repeat (first | assumption | exact Below.refl _ _ | refine Below.drew ?_ | refine below_alloc ?_ _)) hb1))
  all_goals
    go_wp2_with fail
    go_ret2
    exact ⟨ret2 H1.out H2.out, by assumption⟩

theorem refroom_no (lo hi v : Int) (w : World) (h : ¬ (lo ≤ v ∧ v ≤ hi)) :
    Calls Try.prog 19 #[.agg #[.int .i64 lo, .int .i64 hi], .int .i64 v] w fun e w' => e = .returned (.tuple #[.int .u64 0, .int .u64 0]) ∧ Below w.heap.size w w' := by
  have hh := hasB_false h
  clear h
  go_enter Try.func19, Try.ntmps19
  go_wp2_with fail
  refine (refhas_any lo hi v _).mono ?_
  rintro e w' ⟨rfl, rfl⟩
  go_wp2_with fail
  go_ret2
  exact ⟨rfl, below_alloc (below_alloc (Below.refl _ _) _) _⟩

/-- how far down a number may go in a span, and how far up -/
def roomD (lo hi v : Int) : Int := if lo ≤ v ∧ v ≤ hi then v - lo else 0
def roomU (lo hi v : Int) : Int := if lo ≤ v ∧ v ≤ hi then hi - v else 0

theorem room_any (lo hi v : Int) (w : World) (a1 : -9223372036854775808 ≤ lo) (a2 : lo ≤ 9223372036854775807) (b1 : -9223372036854775808 ≤ hi) (b2 : hi ≤ 9223372036854775807) :
    Calls Try.prog 18 #[.agg #[.int .i64 lo, .int .i64 hi], .int .i64 v] w fun e w' => e = .returned (.tuple #[.int .u64 (roomD lo hi v), .int .u64 (roomU lo hi v)]) ∧ Below w.heap.size w w' := by
  unfold roomD roomU
  by_cases h : lo ≤ v ∧ v ≤ hi
  · rw [if_pos h, if_pos h]
    refine (room_yes lo hi v w a1 a2 b1 b2 h.1 h.2).mono ?_
    rintro e w' ⟨rfl, rfl⟩
    exact ⟨rfl, Below.drew (below_alloc (below_alloc (Below.refl _ _) _) _)⟩
  · rw [if_neg h, if_neg h]
    refine (room_no lo hi v w h).mono ?_
    rintro e w' ⟨rfl, rfl⟩
    exact ⟨rfl, below_alloc (below_alloc (Below.refl _ _) _) _⟩

theorem refroom_any (lo hi v : Int) (w : World) (a1 : -9223372036854775808 ≤ lo) (a2 : lo ≤ 9223372036854775807) (b1 : -9223372036854775808 ≤ hi) (b2 : hi ≤ 9223372036854775807) :
    Calls Try.prog 19 #[.agg #[.int .i64 lo, .int .i64 hi], .int .i64 v] w fun e w' => e = .returned (.tuple #[.int .u64 (roomD lo hi v), .int .u64 (roomU lo hi v)]) ∧ Below w.heap.size w w' := by
  unfold roomD roomU
  by_cases h : lo ≤ v ∧ v ≤ hi
  · rw [if_pos h, if_pos h]; exact refroom_yes lo hi v w a1 a2 b1 b2 h.1 h.2
  · rw [if_neg h, if_neg h]; exact refroom_no lo hi v w h
end Go.Proofs.Ytgmnhpelncbknaa
