/- For every span and int the law NumRooms (P1.2) returns true at the landed code: a number that a span has may go just so far, down and up, and not a step further. No condition. -/
import Derived.Test.YtgmnhpelncbknabNumOpen
import Derived.Test.YtgmnhpelncbknabNumRoom
namespace Go.Proofs.Ytgmnhpelncbknab
namespace NumRooms
open Go.ChangeShapes Go.WideShapes Go.ChangeAt Go.RowKit
set_option linter.unusedVariables false

theorem no (lo hi v : Int) (w : World) (h : ¬ (lo ≤ v ∧ v ≤ hi)) :
    Calls Try.prog 3 #[.agg #[.int .i64 lo, .int .i64 hi], .int .i64 v] w fun e w' => e = .returned (.bool true) ∧ Below w.heap.size w w' := by
  have H := hide h
  clear h
  go_enter Try.func3, Try.ntmps3
  go_wp2_with fail
  refine (room_no lo hi v _ H.out).mono ?_
  rintro e w' ⟨rfl, rfl⟩
  go_wp2_with fail
  refine (awake_any _).mono ?_
  rintro e w' ⟨rfl, rfl⟩
  go_wp2_with fail
  refine (has_no lo hi v _ H.out).mono ?_
  rintro e w' ⟨rfl, rfl⟩
  go_wp2_with fail
  go_ret
  exact ⟨rfl, by repeat (first | exact Below.refl _ _ | refine Below.drew ?_ | refine Below.alloc ?_ (by simp <;> omega) _)⟩

theorem yes (lo hi v : Int) (w : World) (a1 : -9223372036854775808 ≤ lo) (a2 : lo ≤ 9223372036854775807) (b1 : -9223372036854775808 ≤ hi) (b2 : hi ≤ 9223372036854775807) (h1 : lo ≤ v) (h2 : v ≤ hi) :
    Calls Try.prog 3 #[.agg #[.int .i64 lo, .int .i64 hi], .int .i64 v] w fun e w' => e = .returned (.bool true) ∧ Below w.heap.size w w' := by
  have e1 : (IntKind.u64.wrap (IntKind.u64.wrap v - (v - lo)) == IntKind.u64.wrap lo) = true := by
    rw [wrapU, wrapU, wrapU, beq_iff_eq]; omega
  have e2 : (IntKind.u64.wrap (IntKind.u64.wrap v + (hi - v)) == IntKind.u64.wrap hi) = true := by
    rw [wrapU, wrapU, wrapU, beq_iff_eq]; omega
  have e3 : (v - lo + (hi - v) == IntKind.u64.wrap (IntKind.u64.wrap hi - IntKind.u64.wrap lo)) = true := by
    rw [sub_wrap hi lo (by omega) (by omega), beq_iff_eq]; omega
  have h3 : lo ≤ hi := by omega
  have c1 : decide (lo ≤ hi) = true := by simpa using h3
  go_enter Try.func3, Try.ntmps3
  go_wp2_with fail
  refine (room_yes lo hi v _ a1 a2 b1 b2 h1 h2).mono ?_
  rintro e w' ⟨rfl, rfl⟩
  go_wp2_with fail
  refine (awake_any _).mono ?_
  rintro e w' ⟨rfl, rfl⟩
  go_wp2_with fail
  refine (has_yes lo hi v _ h1 h2).mono ?_
  rintro e w' ⟨rfl, rfl⟩
  go_wp2_with fail
  refine (may_any lo hi _).mono ?_
  rintro e w' ⟨rfl, rfl⟩
  go_wp2_with fail
  go_ret
  exact ⟨rfl, by repeat (first | exact Below.refl _ _ | refine Below.drew ?_ | refine Below.alloc ?_ (by simp <;> omega) _)⟩

theorem walk (lo hi v : Int) (w : World) (a : (-9223372036854775808 ≤ lo ∧ lo ≤ 9223372036854775807) ∧ -9223372036854775808 ≤ hi ∧ hi ≤ 9223372036854775807) :
    Calls Try.prog 3 #[.agg #[.int .i64 lo, .int .i64 hi], .int .i64 v] w fun e w' => e = .returned (.bool true) ∧ Below w.heap.size w w' := by
  by_cases h : lo ≤ v ∧ v ≤ hi
  · exact yes lo hi v w a.1.1 a.1.2 a.2.1 a.2.2 h.1 h.2
  · exact no lo hi v w h

set_option maxRecDepth 100000 in
theorem lifted (os : Os) (started : os.Started) (H : Type) (enc : TypeId × Value → H) :
    ReturnsInHanded {} Try.checked os 3 .any (Rows.numRoomsSpec.pre6 enc Try.prog Try.f3 Rows.numRoomsRow.domain false) (Rows.numRoomsSpec.post enc Try.prog Try.f3 false true false false) := by
  refine returnsInHanded_of_change (C := Try.checked) own started (by kernel_rfl) Try.func3
    (ChangeSpec.witness6 (enc := enc) (C := Try.checked) false ⟨#[], #[.agg #[.int .i64 0, .int .i64 0], .int .i64 0], []⟩ 8 (by kernel_rfl) (by kernel_rfl) (by kernel_rfl) (by kernel_rfl)) ?_
  intro W base args ds gs before hval0 hW hcnd _
  have hval : ∀ (j : Nat) t v, Try.f3.params[j]? = some t → args[j]? = some v → Value.okWide Try.prog W .any base t v := hval0
  have hW' := hW
  obtain ⟨p, q, hA0, hV, rfl, hfz, hnd⟩ := hW
  have hA : DataW.TrodAll enc Try.prog W 0 (fun _ => true) true Try.f3.params.toList args.toList ds p := hA0
  rw [Try.params3] at hA hval
  obtain ⟨v0, vs0, d0, ds0, p0, q0, hargs, rfl, rfl, h0, r0⟩ := trodAll_cons hA
  obtain ⟨v1, vs1, d1, ds1, p1, q1, rfl, rfl, rfl, h1, r1⟩ := trodAll_cons r0
  obtain ⟨rfl, rfl, rfl⟩ := trodAll_nil r1
  obtain rfl : args = #[v0, v1] := by cases args; simp_all
  obtain ⟨rfl, rfl⟩ := trodVars_none hV
  have lt0 : ∀ x ∈ p0, x.block < W.heap.size := by obtain ⟨m, hm⟩ := h0; exact DataW.trod_lt m _ _ _ hm
  obtain ⟨lo, hi, rfl, a⟩ := open_span (hval 0 23 v0 rfl rfl) h0
  have lt1 : ∀ x ∈ p1, x.block < W.heap.size := by obtain ⟨m, hm⟩ := h1; exact DataW.trod_lt m _ _ _ hm
  obtain ⟨v, rfl, b⟩ := open_i64 (hval 1 3 v1 rfl rfl) h1
  clear hA0 hval0
  refine (walk lo hi v W a).mono fun e W' ⟨he, bel⟩ => ?_
  subst he
  exact ⟨_, rfl, _, _, _, [], _, [], hW', trodAll_mk1 (shut_bool Try.underlying4 _), (trodAll_cons_mk (Below.trod laidOut (by kernel_rfl) (of_decide_eq_true (by kernel_rfl)) h0 bel lt0) (trodAll_cons_mk (Below.trod laidOut (by kernel_rfl) (of_decide_eq_true (by kernel_rfl)) h1 bel lt1) trodAll_mk0)), rfl, bel.frame _, fun h => by cases h⟩

theorem over : Rows.numRoomsRow.holds Try.pinned (OpenSpec.ofChange Rows.numRoomsSpec) :=
  OpenClaim.holds_of_wide 3 Try.f3 rfl rfl rfl rfl rfl rfl rfl ⟨rfl, rfl, rfl, rfl, rfl⟩ rfl rfl rfl rfl rfl (by kernel_rfl) Try.func3 (by kernel_rfl)
    (of_decide_eq_true (by kernel_rfl)) (by unfold Func.isWrapper; first | (rw [if_pos (by decide +kernel)]; kernel_rfl) | (rw [if_neg (by decide +kernel)]; exact ⟨rfl, rfl⟩))
    (fun os started H enc _ => lifted os started H enc)

theorem proved : Rows.NumRoomsSaid := over
#print axioms proved
end NumRooms
theorem numRooms_holds : Rows.NumRoomsSaid := NumRooms.proved
end Go.Proofs.Ytgmnhpelncbknab
