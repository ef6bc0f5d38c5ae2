/- For every three ballots the law BallotOrder (P9.1) returns true at the landed code: of two ballots one is less, or they are one; what is less than a lesser one is less. No condition. -/
import Derived.Test.YtlcccaiahmbkpaaBallotOpen
import Derived.Test.YtlcccaiahmbkpaaBallotCalls
import Derived.Deep.RegionWith
namespace Go.Proofs.Ytlcccaiahmbkpaa
namespace BallotOrder
open Go.ChangeShapes Go.WideShapes Go.ChangeAt Go.RowKit
set_option linter.unusedVariables false

/-- the cells of three boxed ballots -/
def tri (n : Nat) (a a' b b' c c' : Int) : List (Addr × Value) :=
  [(⟨n, 0, none⟩, .int .i64 a), (⟨n, 1, none⟩, .int .i64 a'), (⟨n + 1, 0, none⟩, .int .i64 b), (⟨n + 1, 1, none⟩, .int .i64 b'), (⟨n + 1 + 1, 0, none⟩, .int .i64 c), (⟨n + 1 + 1, 1, none⟩, .int .i64 c')]
theorem tri_new (w : World) (a a' b b' c c' : Int) : AllCells (((w.alloc (.cells #[.int .i64 a, .int .i64 a'] 23)).alloc (.cells #[.int .i64 b, .int .i64 b'] 23)).alloc (.cells #[.int .i64 c, .int .i64 c'] 23)) (tri w.heap.size a a' b b' c c') := by
  have e : ∀ (w : World) (o : Obj), (w.alloc o).heap.size = w.heap.size + 1 := fun w o => by simp
  have h3 := allCells_new2 ((w.alloc (.cells #[.int .i64 a, .int .i64 a'] 23)).alloc (.cells #[.int .i64 b, .int .i64 b'] 23)) (.int .i64 c) (.int .i64 c') 23
  have h2 := allCells_alloc (.cells #[.int .i64 c, .int .i64 c'] 23) (allCells_new2 (w.alloc (.cells #[.int .i64 a, .int .i64 a'] 23)) (.int .i64 b) (.int .i64 b') 23)
  have h1 := allCells_alloc (.cells #[.int .i64 c, .int .i64 c'] 23) (allCells_alloc (.cells #[.int .i64 b, .int .i64 b'] 23) (allCells_new2 w (.int .i64 a) (.int .i64 a') 23))
  rw [e] at h2
  rw [e, e] at h3
  exact allCells_append h1 (allCells_append h2 h3)
theorem tri_below (w : World) (o1 o2 o3 : Obj) : Below w.heap.size w (((w.alloc o1).alloc o2).alloc o3) := below_alloc (below_alloc (below_alloc (Below.refl _ _) _) _) _
abbrev lessC (a a' b b' : Int) (x : Bool) : Prop := ∀ w : World, Calls Try.prog 14 #[.agg #[.int .i64 a, .int .i64 a'], .agg #[.int .i64 b, .int .i64 b']] w fun e w' => e = .returned (.bool x) ∧ Below w.heap.size w w'
abbrev lawC (a a' b b' c c' : Int) (w : World) : Prop :=
  Calls Try.prog 6 #[.agg #[.int .i64 a, .int .i64 a'], .agg #[.int .i64 b, .int .i64 b'], .agg #[.int .i64 c, .int .i64 c']] w fun e w' => e = .returned (.bool true) ∧ Below w.heap.size w w'

set_option maxHeartbeats 1000000 in
theorem walk_lt (a a' b b' c c' : Int) (w : World) (hx : Hid (lessC a a' b b' true)) (hy : Hid (lessC b b' a a' false)) (z : Bool) (hz : Hid (lessC b b' c c' z)) (hw : Hid (z = true → lessC a a' c c' true)) (hn : ¬ a = b) : lawC a a' b b' c c' w := by
  have U := hide (tri_new w a a' b b' c c')
  have B0 := hide (tri_below w (.cells #[.int .i64 a, .int .i64 a'] 23) (.cells #[.int .i64 b, .int .i64 b'] 23) (.cells #[.int .i64 c, .int .i64 c'] 23))
  go_enter Try.func6, Try.ntmps6
  go_wp2_with fail
  refine (hx.out _).mono ?_
  rintro e w1 ⟨rfl, hb1⟩
  have U1 := hide (allCells_below hb1 U.out)
  have B1 := hide (below_step B0.out hb1)
  obtain ⟨q1, q2, q3, q4, q5, q6, _⟩ := U1.out
  simp only at q1 q2 q3 q4 q5 q6
  clear hb1 U B0
  go_wp2_with fail
  refine (hy.out _).mono ?_
  rintro e w2 ⟨rfl, hb2⟩
  have U2 := hide (allCells_below hb2 U1.out)
  have B2 := hide (below_step B1.out hb2)
  clear q1 q2 q3 q4 q5 q6
  obtain ⟨q1, q2, q3, q4, q5, q6, _⟩ := U2.out
  simp only at q1 q2 q3 q4 q5 q6
  clear hb2 U1 B1
  go_wp2_with fail
  refine (awake_any _).mono ?_
  rintro e w3 ⟨rfl, hb3⟩
  have U3 := hide (allCells_below hb3 U2.out)
  have B3 := hide (below_step B2.out hb3)
  clear q1 q2 q3 q4 q5 q6
  obtain ⟨q1, q2, q3, q4, q5, q6, _⟩ := U3.out
  simp only at q1 q2 q3 q4 q5 q6
  clear hb3 U2 B2
  go_wp2_with fail
  refine (hx.out _).mono ?_
  rintro e w4 ⟨rfl, hb4⟩
  have U4 := hide (allCells_below hb4 U3.out)
  have B4 := hide (below_step B3.out hb4)
  clear q1 q2 q3 q4 q5 q6
  obtain ⟨q1, q2, q3, q4, q5, q6, _⟩ := U4.out
  simp only at q1 q2 q3 q4 q5 q6
  clear hb4 U3 B3
  go_wp2_with fail
  refine (hz.out _).mono ?_
  rintro e w5 ⟨rfl, hb5⟩
  have U5 := hide (allCells_below hb5 U4.out)
  have B5 := hide (below_step B4.out hb5)
  clear q1 q2 q3 q4 q5 q6
  obtain ⟨q1, q2, q3, q4, q5, q6, _⟩ := U5.out
  simp only at q1 q2 q3 q4 q5 q6
  clear hb5 U4 B4
  cases z with
  | false =>
    go_wp2_with fail
    go_ret
    exact ⟨rfl, B5.out⟩
  | true =>
    go_wp2_with fail
    refine (hw.out (by trivial) _).mono ?_
    rintro e w6 ⟨rfl, hb6⟩
    have B6 := hide (below_step B5.out hb6)
    clear hb6
    go_wp2_with fail
    go_ret
    exact ⟨rfl, B6.out⟩

set_option maxHeartbeats 1000000 in
theorem walk_lt2 (a a' b' c c' : Int) (w : World) (hx : Hid (lessC a a' a b' true)) (hy : Hid (lessC a b' a a' false)) (z : Bool) (hz : Hid (lessC a b' c c' z)) (hw : Hid (z = true → lessC a a' c c' true)) (hn : ¬ a' = b') : lawC a a' a b' c c' w := by
  have U := hide (tri_new w a a' a b' c c')
  have B0 := hide (tri_below w (.cells #[.int .i64 a, .int .i64 a'] 23) (.cells #[.int .i64 a, .int .i64 b'] 23) (.cells #[.int .i64 c, .int .i64 c'] 23))
  go_enter Try.func6, Try.ntmps6
  go_wp2_with fail
  refine (hx.out _).mono ?_
  rintro e w1 ⟨rfl, hb1⟩
  have U1 := hide (allCells_below hb1 U.out)
  have B1 := hide (below_step B0.out hb1)
  obtain ⟨q1, q2, q3, q4, q5, q6, _⟩ := U1.out
  simp only at q1 q2 q3 q4 q5 q6
  clear hb1 U B0
  go_wp2_with fail
  refine (hy.out _).mono ?_
  rintro e w2 ⟨rfl, hb2⟩
  have U2 := hide (allCells_below hb2 U1.out)
  have B2 := hide (below_step B1.out hb2)
  clear q1 q2 q3 q4 q5 q6
  obtain ⟨q1, q2, q3, q4, q5, q6, _⟩ := U2.out
  simp only at q1 q2 q3 q4 q5 q6
  clear hb2 U1 B1
  go_wp2_with fail
  refine (awake_any _).mono ?_
  rintro e w3 ⟨rfl, hb3⟩
  have U3 := hide (allCells_below hb3 U2.out)
  have B3 := hide (below_step B2.out hb3)
  clear q1 q2 q3 q4 q5 q6
  obtain ⟨q1, q2, q3, q4, q5, q6, _⟩ := U3.out
  simp only at q1 q2 q3 q4 q5 q6
  clear hb3 U2 B2
  go_wp2_with fail
  refine (hx.out _).mono ?_
  rintro e w4 ⟨rfl, hb4⟩
  have U4 := hide (allCells_below hb4 U3.out)
  have B4 := hide (below_step B3.out hb4)
  clear q1 q2 q3 q4 q5 q6
  obtain ⟨q1, q2, q3, q4, q5, q6, _⟩ := U4.out
  simp only at q1 q2 q3 q4 q5 q6
  clear hb4 U3 B3
  go_wp2_with fail
  refine (hz.out _).mono ?_
  rintro e w5 ⟨rfl, hb5⟩
  have U5 := hide (allCells_below hb5 U4.out)
  have B5 := hide (below_step B4.out hb5)
  clear q1 q2 q3 q4 q5 q6
  obtain ⟨q1, q2, q3, q4, q5, q6, _⟩ := U5.out
  simp only at q1 q2 q3 q4 q5 q6
  clear hb5 U4 B4
  cases z with
  | false =>
    go_wp2_with fail
    go_ret
    exact ⟨rfl, B5.out⟩
  | true =>
    go_wp2_with fail
    refine (hw.out (by trivial) _).mono ?_
    rintro e w6 ⟨rfl, hb6⟩
    have B6 := hide (below_step B5.out hb6)
    clear hb6
    go_wp2_with fail
    go_ret
    exact ⟨rfl, B6.out⟩


set_option maxHeartbeats 1000000 in
theorem walk_eq (a a' c c' : Int) (w : World) (hx : Hid (lessC a a' a a' false)) : lawC a a' a a' c c' w := by
  have U := hide (tri_new w a a' a a' c c')
  have B0 := hide (tri_below w (.cells #[.int .i64 a, .int .i64 a'] 23) (.cells #[.int .i64 a, .int .i64 a'] 23) (.cells #[.int .i64 c, .int .i64 c'] 23))
  go_enter Try.func6, Try.ntmps6
  go_wp2_with fail
  refine (hx.out _).mono ?_
  rintro e w1 ⟨rfl, hb1⟩
  have U1 := hide (allCells_below hb1 U.out)
  have B1 := hide (below_step B0.out hb1)
  obtain ⟨q1, q2, q3, q4, q5, q6, _⟩ := U1.out
  simp only at q1 q2 q3 q4 q5 q6
  clear hb1 U B0
  go_wp2_with fail
  refine (hx.out _).mono ?_
  rintro e w2 ⟨rfl, hb2⟩
  have U2 := hide (allCells_below hb2 U1.out)
  have B2 := hide (below_step B1.out hb2)
  clear q1 q2 q3 q4 q5 q6
  obtain ⟨q1, q2, q3, q4, q5, q6, _⟩ := U2.out
  simp only at q1 q2 q3 q4 q5 q6
  clear hb2 U1 B1
  go_wp2_with fail
  refine (awake_any _).mono ?_
  rintro e w3 ⟨rfl, hb3⟩
  have U3 := hide (allCells_below hb3 U2.out)
  have B3 := hide (below_step B2.out hb3)
  clear q1 q2 q3 q4 q5 q6
  obtain ⟨q1, q2, q3, q4, q5, q6, _⟩ := U3.out
  simp only at q1 q2 q3 q4 q5 q6
  clear hb3 U2 B2
  go_wp2_with fail
  refine (hx.out _).mono ?_
  rintro e w4 ⟨rfl, hb4⟩
  have U4 := hide (allCells_below hb4 U3.out)
  have B4 := hide (below_step B3.out hb4)
  clear q1 q2 q3 q4 q5 q6
  obtain ⟨q1, q2, q3, q4, q5, q6, _⟩ := U4.out
  simp only at q1 q2 q3 q4 q5 q6
  clear hb4 U3 B3
  go_wp2_with fail
  go_ret
  exact ⟨rfl, B4.out⟩

set_option maxHeartbeats 1000000 in
theorem walk_gt (a a' b b' c c' : Int) (w : World) (hx : Hid (lessC a a' b b' false)) (hy : Hid (lessC b b' a a' true)) (hn : ¬ a = b) : lawC a a' b b' c c' w := by
  have U := hide (tri_new w a a' b b' c c')
  have B0 := hide (tri_below w (.cells #[.int .i64 a, .int .i64 a'] 23) (.cells #[.int .i64 b, .int .i64 b'] 23) (.cells #[.int .i64 c, .int .i64 c'] 23))
  go_enter Try.func6, Try.ntmps6
  go_wp2_with fail
  refine (hx.out _).mono ?_
  rintro e w1 ⟨rfl, hb1⟩
  have U1 := hide (allCells_below hb1 U.out)
  have B1 := hide (below_step B0.out hb1)
  obtain ⟨q1, q2, q3, q4, q5, q6, _⟩ := U1.out
  simp only at q1 q2 q3 q4 q5 q6
  clear hb1 U B0
  go_wp2_with fail
  refine (hy.out _).mono ?_
  rintro e w2 ⟨rfl, hb2⟩
  have U2 := hide (allCells_below hb2 U1.out)
  have B2 := hide (below_step B1.out hb2)
  clear q1 q2 q3 q4 q5 q6
  obtain ⟨q1, q2, q3, q4, q5, q6, _⟩ := U2.out
  simp only at q1 q2 q3 q4 q5 q6
  clear hb2 U1 B1
  go_wp2_with fail
  refine (awake_any _).mono ?_
  rintro e w3 ⟨rfl, hb3⟩
  have U3 := hide (allCells_below hb3 U2.out)
  have B3 := hide (below_step B2.out hb3)
  clear q1 q2 q3 q4 q5 q6
  obtain ⟨q1, q2, q3, q4, q5, q6, _⟩ := U3.out
  simp only at q1 q2 q3 q4 q5 q6
  clear hb3 U2 B2
  go_wp2_with fail
  refine (hx.out _).mono ?_
  rintro e w4 ⟨rfl, hb4⟩
  have U4 := hide (allCells_below hb4 U3.out)
  have B4 := hide (below_step B3.out hb4)
  clear q1 q2 q3 q4 q5 q6
  obtain ⟨q1, q2, q3, q4, q5, q6, _⟩ := U4.out
  simp only at q1 q2 q3 q4 q5 q6
  clear hb4 U3 B3
  go_wp2_with fail
  go_ret
  exact ⟨rfl, B4.out⟩

set_option maxHeartbeats 1000000 in
theorem walk_gt2 (a a' b' c c' : Int) (w : World) (hx : Hid (lessC a a' a b' false)) (hy : Hid (lessC a b' a a' true)) (hn : ¬ a' = b') : lawC a a' a b' c c' w := by
  have U := hide (tri_new w a a' a b' c c')
  have B0 := hide (tri_below w (.cells #[.int .i64 a, .int .i64 a'] 23) (.cells #[.int .i64 a, .int .i64 b'] 23) (.cells #[.int .i64 c, .int .i64 c'] 23))
  go_enter Try.func6, Try.ntmps6
  go_wp2_with fail
  refine (hx.out _).mono ?_
  rintro e w1 ⟨rfl, hb1⟩
  have U1 := hide (allCells_below hb1 U.out)
  have B1 := hide (below_step B0.out hb1)
  obtain ⟨q1, q2, q3, q4, q5, q6, _⟩ := U1.out
  simp only at q1 q2 q3 q4 q5 q6
  clear hb1 U B0
  go_wp2_with fail
  refine (hy.out _).mono ?_
  rintro e w2 ⟨rfl, hb2⟩
  have U2 := hide (allCells_below hb2 U1.out)
  have B2 := hide (below_step B1.out hb2)
  clear q1 q2 q3 q4 q5 q6
  obtain ⟨q1, q2, q3, q4, q5, q6, _⟩ := U2.out
  simp only at q1 q2 q3 q4 q5 q6
  clear hb2 U1 B1
  go_wp2_with fail
  refine (awake_any _).mono ?_
  rintro e w3 ⟨rfl, hb3⟩
  have U3 := hide (allCells_below hb3 U2.out)
  have B3 := hide (below_step B2.out hb3)
  clear q1 q2 q3 q4 q5 q6
  obtain ⟨q1, q2, q3, q4, q5, q6, _⟩ := U3.out
  simp only at q1 q2 q3 q4 q5 q6
  clear hb3 U2 B2
  go_wp2_with fail
  refine (hx.out _).mono ?_
  rintro e w4 ⟨rfl, hb4⟩
  have U4 := hide (allCells_below hb4 U3.out)
  have B4 := hide (below_step B3.out hb4)
  clear q1 q2 q3 q4 q5 q6
  obtain ⟨q1, q2, q3, q4, q5, q6, _⟩ := U4.out
  simp only at q1 q2 q3 q4 q5 q6
  clear hb4 U3 B3
  go_wp2_with fail
  go_ret
  exact ⟨rfl, B4.out⟩


theorem walk (a a' b b' c c' : Int) (w : World) : lawC a a' b b' c c' w := by
  have tr : a < b ∨ a = b ∧ a' < b' → lessB b b' c c' = true → lessC a a' c c' true := fun h hz => less_lit (lessB_true (by have := of_decide_eq_true hz; omega))
  by_cases e : a = b
  · subst e
    by_cases e' : a' = b'
    · subst e'
      exact walk_eq a a' c c' w (hide (less_lit (lessB_false (by omega))))
    · by_cases h : a' < b'
      · exact walk_lt2 a a' b' c c' w (hide (less_lit (lessB_true (by omega)))) (hide (less_lit (lessB_false (by omega)))) _ (hide (less_lit rfl)) (hide (tr (by omega))) e'
      · exact walk_gt2 a a' b' c c' w (hide (less_lit (lessB_false (by omega)))) (hide (less_lit (lessB_true (by omega)))) e'
  · by_cases h : a < b
    · exact walk_lt a a' b b' c c' w (hide (less_lit (lessB_true (by omega)))) (hide (less_lit (lessB_false (by omega)))) _ (hide (less_lit rfl)) (hide (tr (by omega))) e
    · exact walk_gt a a' b b' c c' w (hide (less_lit (lessB_false (by omega)))) (hide (less_lit (lessB_true (by omega)))) e

set_option maxRecDepth 100000 in
theorem lifted (os : Os) (started : os.Started) (H : Type) (enc : TypeId × Value → H) :
    ReturnsInHanded {} Try.checked os 6 .any (Rows.ballotOrderSpec.pre6 enc Try.prog Try.f6 Rows.ballotOrderRow.domain false) (Rows.ballotOrderSpec.post enc Try.prog Try.f6 false true false false) := by
  refine returnsInHanded_of_change (C := Try.checked) own started (by kernel_rfl) Try.func6
    (ChangeSpec.witness6 (enc := enc) (C := Try.checked) false ⟨#[], #[.agg #[.int .i64 0, .int .i64 0], .agg #[.int .i64 0, .int .i64 0], .agg #[.int .i64 0, .int .i64 0]], []⟩ 8 (by kernel_rfl) (by kernel_rfl) (by kernel_rfl) (by kernel_rfl)) ?_
  intro W base args ds gs before hval0 hW hcnd _
  have hval : ∀ (j : Nat) t v, Try.f6.params[j]? = some t → args[j]? = some v → Value.okWide Try.prog W .any base t v := hval0
  have hW' := hW
  obtain ⟨p, q, hA0, hV, rfl, hfz, hnd⟩ := hW
  have hA : DataW.TrodAll enc Try.prog W 0 (fun _ => true) true Try.f6.params.toList args.toList ds p := hA0
  rw [Try.params6] at hA hval
  obtain ⟨v0, vs0, d0, ds0, p0, q0, hargs, rfl, rfl, h0, r0⟩ := trodAll_cons hA
  obtain ⟨v1, vs1, d1, ds1, p1, q1, rfl, rfl, rfl, h1, r1⟩ := trodAll_cons r0
  obtain ⟨v2, vs2, d2, ds2, p2, q2, rfl, rfl, rfl, h2, r2⟩ := trodAll_cons r1
  obtain ⟨rfl, rfl, rfl⟩ := trodAll_nil r2
  obtain rfl : args = #[v0, v1, v2] := by cases args; simp_all
  obtain ⟨rfl, rfl⟩ := trodVars_none hV
  have lt0 : ∀ x ∈ p0, x.block < W.heap.size := by obtain ⟨m, hm⟩ := h0; exact DataW.trod_lt m _ _ _ hm
  obtain ⟨a, a', rfl, ha⟩ := open_ballot (hval 0 23 v0 rfl rfl) h0
  have lt1 : ∀ x ∈ p1, x.block < W.heap.size := by obtain ⟨m, hm⟩ := h1; exact DataW.trod_lt m _ _ _ hm
  obtain ⟨b, b', rfl, hb⟩ := open_ballot (hval 1 23 v1 rfl rfl) h1
  have lt2 : ∀ x ∈ p2, x.block < W.heap.size := by obtain ⟨m, hm⟩ := h2; exact DataW.trod_lt m _ _ _ hm
  obtain ⟨c, c', rfl, hc⟩ := open_ballot (hval 2 23 v2 rfl rfl) h2
  clear hA0 hval0
  refine (walk a a' b b' c c' W).mono fun e W' ⟨he, bel⟩ => ?_
  subst he
  exact ⟨_, rfl, _, _, _, [], _, [], hW', trodAll_mk1 (shut_bool Try.underlying4 _), (trodAll_cons_mk (Below.trod laidOut (by kernel_rfl) (of_decide_eq_true (by kernel_rfl)) h0 bel lt0) (trodAll_cons_mk (Below.trod laidOut (by kernel_rfl) (of_decide_eq_true (by kernel_rfl)) h1 bel lt1) (trodAll_cons_mk (Below.trod laidOut (by kernel_rfl) (of_decide_eq_true (by kernel_rfl)) h2 bel lt2) trodAll_mk0))), rfl, bel.frame _, fun h => by cases h⟩

theorem over : Rows.ballotOrderRow.holds Try.pinned (OpenSpec.ofChange Rows.ballotOrderSpec) :=
  OpenClaim.holds_of_wide 6 Try.f6 rfl rfl rfl rfl rfl rfl rfl ⟨rfl, rfl, rfl, rfl, rfl⟩ rfl rfl rfl rfl rfl (by kernel_rfl) Try.func6 (by kernel_rfl)
    (of_decide_eq_true (by kernel_rfl)) (by unfold Func.isWrapper; first | (rw [if_pos (by decide +kernel)]; kernel_rfl) | (rw [if_neg (by decide +kernel)]; exact ⟨rfl, rfl⟩))
    (fun os started H enc _ => lifted os started H enc)

theorem proved : Rows.BallotOrderSaid := over
#print axioms proved
end BallotOrder
theorem ballotOrder_holds : Rows.BallotOrderSaid := BallotOrder.proved
end Go.Proofs.Ytlcccaiahmbkpaa
