/- The order of two timers: cmp.Compare, cmp.Or, order. No condition. -/
import Derived.Test.YtoganfdpaagomaaClockMem
import Derived.Sort.Grow
import Derived.Deep.RegionHeld3
import Derived.Deep.DeepCutAuto
namespace Go.Proofs.Ytoganfdpaagomaa
open Go.ChangeShapes Go.WideShapes Go.ChangeAt Go.RowKit Cm
set_option linter.unusedVariables false

theorem nan_any (x : Int) (w : World) : Calls Try.prog 56 #[.int .i64 x] w fun e w' => e = .returned (.bool false) ∧ w' = w := by
  go_enter Try.func56, Try.ntmps56
  go_wp2_with fail
  go_ret
  exact ⟨by simp, rfl⟩
theorem compare_any (x y : Int) (w : World) : Calls Try.prog 40 #[.int .i64 x, .int .i64 y] w fun e w' => e = .returned (.int .i64 (cmpI x y)) ∧ w' = w := by
  go_enter Try.func40, Try.ntmps40
  go_wp2_with (go_at_call 56; refine (nan_any _ _).mono ?_; rintro e w' ⟨rfl, hw⟩; rw [hw])
  all_goals (go_ret; refine ⟨?_, rfl⟩; unfold cmpI; (repeat' split) <;> first | rfl | (exfalso; omega))
theorem or_two (x y : Int) (b : Nat) (w : World) (h0 : w.cell? ⟨b, 0, none⟩ = some (.int .i64 x)) (h1 : w.cell? ⟨b, 1, none⟩ = some (.int .i64 y)) :
    Calls Try.prog 39 #[.slice (some ⟨b, 0, none⟩) 2 2] w fun e w' => e = .returned (.int .i64 (orV x y)) ∧ w' = w := by
  go_enter Try.func39, Try.ntmps39
  go_wp2_with fail
  go_loopw [8] (fun i wr => ∃ k : Nat, k ≤ 2 ∧ i = .int .i64 k ∧ Hid (wr = w) ∧ Hid (0 < k → x = 0) ∧ Hid (1 < k → y = 0)) (fun i _ => 2 - (intOf i).toNat)
  case atStart => exact ⟨0, by omega, rfl, rfl, fun h => by omega, fun h => by omega⟩
  case round =>
    obtain ⟨k, hk, rfl, HW, H0, H1⟩ := hrel
    obtain rfl := HW.out
    clear HW
    rcases (by omega : k = 0 ∨ k = 1 ∨ k = 2) with rfl | rfl | rfl
    · by_cases e : x = 0
      · subst e
        go_wp2_with fail
        go_roundw
        case rel => exact ⟨1, by omega, by go_num, trivial, fun _ => trivial, fun h => by omega⟩
        case measure => simp [intOf]
      · have e1 : (x == 0) = false := by simp [e]
        have e2 : (x = 0) = False := by simp [e]
        go_wp2_with fail
        go_ret
        exact ⟨by simp [orV, e], rfl⟩
    · have EX := hide (H0.out (by omega))
      by_cases e : y = 0
      · subst e
        go_wp2_with fail
        go_roundw
        case rel => exact ⟨2, by omega, by go_num, trivial, fun _ => EX.out, fun _ => trivial⟩
        case measure => simp [intOf]
      · have e1 : (y == 0) = false := by simp [e]
        have e2 : (y = 0) = False := by simp [e]
        go_wp2_with fail
        go_ret
        exact ⟨by simp [orV, EX.out], rfl⟩
    · have EX := hide (H0.out (by omega))
      have EY := hide (H1.out (by omega))
      go_wp2_with fail
      go_ret
      exact ⟨by simp [orV, EX.out, EY.out], rfl⟩
/-- an ordered pair of timers -/
abbrev tagg (t : Tm) : Value := .agg #[.string t.name, .int .i64 t.due, .int .i64 t.turn]
set_option maxHeartbeats 1000000 in
theorem order_any (a b : Tm) (w : World) : Calls Try.prog 28 #[tagg a, tagg b] w fun e w' => e = .returned (.int .i64 (cf a b)) ∧ ∃ q os', w' = Sort.grow (w.drewN q) os' := by
  have E : Hid (cf a b = orV (cmpI a.due b.due) (cmpI a.turn b.turn)) := rfl
  have C1 := fun W => hide (compare_any a.due b.due W)
  have C2 := fun W => hide (compare_any a.turn b.turn W)
  generalize cmpI a.due b.due = x at C1 E
  generalize cmpI a.turn b.turn = y at C2 E
  have C3 : Hid (Calls Try.prog 39 #[.slice (some ⟨w.heap.size + 1 + 1, 0, none⟩) 2 2] (((w.alloc (.cells #[.string a.name, .int .i64 a.due, .int .i64 a.turn] 54)).alloc (.cells #[.string b.name, .int .i64 b.due, .int .i64 b.turn] 54)).alloc (.cells #[.int .i64 x, .int .i64 y] 3)).drew fun e w' => e = .returned (.int .i64 (orV x y)) ∧ w' = (((w.alloc (.cells #[.string a.name, .int .i64 a.due, .int .i64 a.turn] 54)).alloc (.cells #[.string b.name, .int .i64 b.due, .int .i64 b.turn] 54)).alloc (.cells #[.int .i64 x, .int .i64 y] 3)).drew) := by
    have es : ((w.alloc (.cells #[.string a.name, .int .i64 a.due, .int .i64 a.turn] 54)).alloc (.cells #[.string b.name, .int .i64 b.due, .int .i64 b.turn] 54)).heap.size = w.heap.size + 1 + 1 := by simp
    generalize (w.alloc (.cells #[.string a.name, .int .i64 a.due, .int .i64 a.turn] 54)).alloc (.cells #[.string b.name, .int .i64 b.due, .int .i64 b.turn] 54) = W at es ⊢
    rw [← es]
    exact or_two x y _ _ (by simp) (by simp)
  generalize orV x y = r at C3 E
  rw [E.out]
  clear E
  go_enter Try.func28, Try.ntmps28
  go_wp2_with fail
  go_region_held3 (fun u => u.cell? ⟨w.heap.size, 1, none⟩ = some (.int .i64 a.due) ∧ u.cell? ⟨w.heap.size + 1, 1, none⟩ = some (.int .i64 b.due) ∧ u.cell? ⟨w.heap.size, 2, none⟩ = some (.int .i64 a.turn) ∧ u.cell? ⟨w.heap.size + 1, 2, none⟩ = some (.int .i64 b.turn)) (first | go_keep | simp) ((first | (go_at_call_of 40 (#[Value.int IntKind.i64 a.due, Value.int IntKind.i64 b.due]); refine (C1 _).out.mono ?_; rintro e w1 ⟨rfl, rfl⟩) | (go_at_call_of 40 (#[Value.int IntKind.i64 a.turn, Value.int IntKind.i64 b.turn]); refine (C2 _).out.mono ?_; rintro e w1 ⟨rfl, rfl⟩) | (go_at_call 39; refine C3.out.mono ?_; rintro e w1 ⟨rfl, rfl⟩)))
  all_goals (go_wp2_with fail; go_ret; refine ⟨rfl, ?_⟩; simp only [Sort.alloc_eq_grow, Sort.grow_grow]; exact ⟨1, _, rfl⟩)
theorem below_grow (w : World) (q : Nat) (os : Array Obj) : Below w.heap.size w (Sort.grow (w.drewN q) os) :=
  ⟨rfl, rfl, rfl, by rw [Sort.size_grow]; exact Nat.le_add_right _ _, fun k hk => Sort.heap_grow_old (w.drewN q) os hk⟩
theorem order_below (a b : Tm) (w : World) : Calls Try.prog 28 #[tagg a, tagg b] w fun e w' => e = .returned (.int .i64 (cf a b)) ∧ Below w.heap.size w w' :=
  (order_any a b w).mono fun e w' ⟨he, q, os, hw⟩ => ⟨he, by rw [hw]; exact below_grow w q os⟩
end Go.Proofs.Ytoganfdpaagomaa
