/- For every list of ints and every int the law NumOrder ('What follows') returns true at the landed code: the order of what is summed plays no part, and a sum of two parts that both have one is their sum. No condition. -/
import Derived.Test.YtgmnhpelncbknaaNumOrderA
namespace Go.Proofs.Ytgmnhpelncbknaa
namespace NumOrder
open Go.ChangeShapes Go.WideShapes Go.ChangeAt Go.RowKit
set_option linter.unusedVariables false

set_option maxHeartbeats 1000000 in
theorem zero_nil (k : Int) (w : World) (k0 : -9223372036854775808 ≤ k) (k1 : k ≤ 9223372036854775807) :
    Calls Try.prog 8 #[.slice none 0 0, .int .i64 k] w fun e w' => e = .returned (.bool true) ∧ Below w.heap.size w w' := by
  have c5 := hide (add_yes 0 0 (w.alloc (.cells #[.int .i64 1, .int .i64 2] 34)) (by decide) (by decide) (by decide) (by decide) (by decide) (by decide))
  go_enter Try.func8, Try.ntmps8
  go_wp2_with fail
  refine wp_loop_rounds 1 ?_
  rw [rounds_succ]
  go_wp2_with fail
  refine (sum_none _ _ _).mono ?_
  rintro e wq ⟨rfl, hwq⟩
  subst wq
  go_wp2_with fail
  refine (sum_none _ _ _).mono ?_
  rintro e wq ⟨rfl, hwq⟩
  subst wq
  go_wp2_with fail
  refine (awake_any _).mono ?_
  rintro e wq ⟨rfl, hwq⟩
  subst wq
  by_cases ka : k < 0
  · skip
    go_wp2_with fail
    refine (sum_none _ _ _).mono ?_
    rintro e wq ⟨rfl, hwq⟩
    subst wq
    go_wp2_with fail
    all_goals
      refine (sum_none _ _ _).mono ?_
      rintro e wq ⟨rfl, hwq⟩
      subst wq
      go_wp2_with fail
      refine c5.out.mono ?_
      rintro e wq ⟨rfl, hwq⟩
      subst wq
      go_wp2_with fail
      go_ret
      exact ⟨rfl, below_alloc (Below.refl _ _) _⟩
  · by_cases kz : k = 0
    · subst kz
      go_wp2_with fail
      refine (sum_none _ _ _).mono ?_
      rintro e wq ⟨rfl, hwq⟩
      subst wq
      go_wp2_with fail
      all_goals
        refine (sum_none _ _ _).mono ?_
        rintro e wq ⟨rfl, hwq⟩
        subst wq
        go_wp2_with fail
        refine c5.out.mono ?_
        rintro e wq ⟨rfl, hwq⟩
        subst wq
        go_wp2_with fail
        go_ret
        exact ⟨rfl, below_alloc (Below.refl _ _) _⟩
    · have kp : 0 < k := by omega
      clear kz
      go_wp2_with fail
      refine (sum_none _ _ _).mono ?_
      rintro e wq ⟨rfl, hwq⟩
      subst wq
      go_wp2_with fail
      all_goals
        refine (sum_none _ _ _).mono ?_
        rintro e wq ⟨rfl, hwq⟩
        subst wq
        go_wp2_with fail
        refine c5.out.mono ?_
        rintro e wq ⟨rfl, hwq⟩
        subst wq
        go_wp2_with fail
        go_ret
        exact ⟨rfl, below_alloc (Below.refl _ _) _⟩

set_option maxHeartbeats 1000000 in
theorem zero_some (ad : Addr) (cap : Nat) (k : Int) (w : World) (k0 : -9223372036854775808 ≤ k) (k1 : k ≤ 9223372036854775807) :
    Calls Try.prog 8 #[.slice (some ad) 0 cap, .int .i64 k] w fun e w' => e = .returned (.bool true) ∧ Below w.heap.size w w' := by
  have c5 := hide (add_yes 0 0 (w.alloc (.cells #[.int .i64 1, .int .i64 2] 34)) (by decide) (by decide) (by decide) (by decide) (by decide) (by decide))
  go_enter Try.func8, Try.ntmps8
  go_wp2_with fail
  refine wp_loop_rounds 1 ?_
  rw [rounds_succ]
  go_wp2_with fail
  refine (sum_none _ _ _).mono ?_
  rintro e wq ⟨rfl, hwq⟩
  subst wq
  go_wp2_with fail
  refine (sum_none _ _ _).mono ?_
  rintro e wq ⟨rfl, hwq⟩
  subst wq
  go_wp2_with fail
  refine (awake_any _).mono ?_
  rintro e wq ⟨rfl, hwq⟩
  subst wq
  by_cases ka : k < 0
  · skip
    go_wp2_with fail
    refine (sum_none _ _ _).mono ?_
    rintro e wq ⟨rfl, hwq⟩
    subst wq
    go_wp2_with fail
    all_goals
      refine (sum_none _ _ _).mono ?_
      rintro e wq ⟨rfl, hwq⟩
      subst wq
      go_wp2_with fail
      refine c5.out.mono ?_
      rintro e wq ⟨rfl, hwq⟩
      subst wq
      go_wp2_with fail
      go_ret
      exact ⟨rfl, below_alloc (Below.refl _ _) _⟩
  · by_cases kz : k = 0
    · subst kz
      go_wp2_with fail
      refine (sum_none _ _ _).mono ?_
      rintro e wq ⟨rfl, hwq⟩
      subst wq
      go_wp2_with fail
      all_goals
        refine (sum_none _ _ _).mono ?_
        rintro e wq ⟨rfl, hwq⟩
        subst wq
        go_wp2_with fail
        refine c5.out.mono ?_
        rintro e wq ⟨rfl, hwq⟩
        subst wq
        go_wp2_with fail
        go_ret
        exact ⟨rfl, below_alloc (Below.refl _ _) _⟩
    · have kp : 0 < k := by omega
      clear kz
      go_wp2_with fail
      refine (sum_none _ _ _).mono ?_
      rintro e wq ⟨rfl, hwq⟩
      subst wq
      go_wp2_with fail
      all_goals
        refine (sum_none _ _ _).mono ?_
        rintro e wq ⟨rfl, hwq⟩
        subst wq
        go_wp2_with fail
        refine c5.out.mono ?_
        rintro e wq ⟨rfl, hwq⟩
        subst wq
        go_wp2_with fail
        go_ret
        exact ⟨rfl, below_alloc (Below.refl _ _) _⟩

theorem walk {a : Option Addr} {len cap : Nat} {zs : List Int} {k : Int} {w : World} (h : Sl w a len cap zs) (k0 : -9223372036854775808 ≤ k) (k1 : k ≤ 9223372036854775807) :
    Calls Try.prog 8 #[.slice a len cap, .int .i64 k] w fun e w' => e = .returned (.bool true) ∧ Below w.heap.size w w' := by
  by_cases h0 : 0 < len
  · obtain ⟨b, off, rfl, hc⟩ := h.cells h0
    exact some_ b off len cap zs k w h h0 k0 k1 hc
  · obtain rfl : len = 0 := by omega
    match a, h.nil with
    | none, hn =>
      obtain rfl := hn rfl
      exact zero_nil k w k0 k1
    | some ad, _ => exact zero_some ad cap k w k0 k1

set_option maxRecDepth 100000 in
theorem lifted (os : Os) (started : os.Started) (H : Type) (enc : TypeId × Value → H) :
    ReturnsInHanded {} Try.checked os 8 .any (Rows.numOrderSpec.pre6 enc Try.prog Try.f8 Rows.numOrderRow.domain false) (Rows.numOrderSpec.post enc Try.prog Try.f8 false true false false) := by
  refine returnsInHanded_of_change_sized (C := Try.checked) own started (by kernel_rfl) Try.func8
    (ChangeSpec.witness6 (enc := enc) (C := Try.checked) false ⟨#[], #[.slice none 0 0, .int .i64 0], []⟩ 8 (by kernel_rfl) (by kernel_rfl) (by kernel_rfl) (by kernel_rfl)) ?_
  intro W base args ds gs before hval0 hW hcnd hsz0 _
  have hsz : (DataW.weightsEach Try.prog (Try.f8.params.toList ++ Rows.numOrderSpec.plain.varTypes Try.prog) (ds ++ gs)).all (· ≤ reachBytes) = true := hsz0
  have hval : ∀ (j : Nat) t v, Try.f8.params[j]? = some t → args[j]? = some v → Value.okWide Try.prog W .any base t v := hval0
  have hW' := hW
  obtain ⟨p, q, hA0, hV, rfl, hfz, hnd⟩ := hW
  have hA : DataW.TrodAll enc Try.prog W 0 (fun _ => true) true Try.f8.params.toList args.toList ds p := hA0
  rw [Try.params8] at hA hval hsz
  obtain ⟨v0, vs0, d0, ds0, p0, q0, hargs, rfl, rfl, h0, r0⟩ := trodAll_cons hA
  obtain ⟨v1, vs1, d1, ds1, p1, q1, rfl, rfl, rfl, h1, r1⟩ := trodAll_cons r0
  obtain ⟨rfl, rfl, rfl⟩ := trodAll_nil r1
  obtain rfl : args = #[v0, v1] := by cases args; simp_all
  obtain ⟨rfl, rfl⟩ := trodVars_none hV
  have lt0 : ∀ x ∈ p0, x.block < W.heap.size := by obtain ⟨m, hm⟩ := h0; exact DataW.trod_lt m _ _ _ hm
  obtain ⟨a, len, cap, zs, rfl, h⟩ := open_sl_sized (hval 0 27 v0 rfl rfl) h0 (fun elems spare e => by have h := hsz; rw [e] at h; exact sized_slice h (j := 0) (t := 27) (e := 3) rfl rfl Try.underlying27)
  have lt1 : ∀ x ∈ p1, x.block < W.heap.size := by obtain ⟨m, hm⟩ := h1; exact DataW.trod_lt m _ _ _ hm
  obtain ⟨k, rfl, ⟨k0, k1⟩⟩ := open_i64 (hval 1 3 v1 rfl rfl) h1
  clear hA0 hval0
  refine (walk h k0 k1).mono fun e W' ⟨he, bel⟩ => ?_
  subst he
  exact ⟨_, rfl, _, _, _, [], _, [], hW', trodAll_mk1 (shut_bool Try.underlying4 _), (trodAll_cons_mk (Below.trod laidOut (by kernel_rfl) (of_decide_eq_true (by kernel_rfl)) h0 bel lt0) (trodAll_cons_mk (Below.trod laidOut (by kernel_rfl) (of_decide_eq_true (by kernel_rfl)) h1 bel lt1) trodAll_mk0)), rfl, bel.frame _, fun h => by cases h⟩

theorem over : Rows.numOrderRow.holds Try.pinned (OpenSpec.ofChange Rows.numOrderSpec) :=
  OpenClaim.holds_of_wide 8 Try.f8 rfl rfl rfl rfl rfl rfl rfl ⟨rfl, rfl, rfl, rfl, rfl⟩ rfl rfl rfl rfl rfl (by kernel_rfl) Try.func8 (by kernel_rfl)
    (of_decide_eq_true (by kernel_rfl)) (by unfold Func.isWrapper; first | (rw [if_pos (by decide +kernel)]; kernel_rfl) | (rw [if_neg (by decide +kernel)]; exact ⟨rfl, rfl⟩))
    (fun os started H enc _ => lifted os started H enc)

theorem proved : Rows.NumOrderSaid := over
#print axioms proved
end NumOrder
theorem numOrder_holds : Rows.NumOrderSaid := NumOrder.proved
end Go.Proofs.Ytgmnhpelncbknaa
