/- For every two spans and every int the law NumMeets (P1.3) returns true at the landed code: a number is in what two spans have in common just if both have it; which is the first plays no part. No condition. -/
import Derived.Test.YtgmnhpelncbknabNumOpen
import Derived.Test.YtgmnhpelncbknabNumMeetsA
import Derived.Test.YtgmnhpelncbknabNumMeetsB
namespace Go.Proofs.Ytgmnhpelncbknab
namespace NumMeets
open Go.ChangeShapes Go.WideShapes Go.ChangeAt Go.RowKit
set_option linter.unusedVariables false


theorem yes (la ha lb hb lo hi v : Int) (w : World) (hl : (lo = la ∧ lb ≤ la) ∨ (lo = lb ∧ la < lb)) (hh : (hi = ha ∧ ha ≤ hb) ∨ (hi = hb ∧ hb < ha)) (h : lo ≤ hi) :
    Calls Try.prog 5 #[.agg #[.int .i64 la, .int .i64 ha], .agg #[.int .i64 lb, .int .i64 hb], .int .i64 v] w fun e w' => e = .returned (.bool true) ∧ Below w.heap.size w w' := by
  have c1 := hide (fun w => meet_yes la ha lb hb lo hi w hl hh h)
  have c2 := hide (fun w => meet_yes lb hb la ha lo hi w (by omega) (by omega) h)
  have d1 : decide (lo ≤ hi) = true := by simpa using h
  have cm : Hid (∀ w, Calls Try.prog 9 #[.agg #[.int .i64 lo, .int .i64 hi]] w fun e w' => e = .returned (.bool true) ∧ w' = w.alloc (.cells #[.int .i64 lo, .int .i64 hi] 23)) := by
    have := may_any lo hi
    rw [d1] at this
    exact this
  have k1 : hasB lo hi lo = true := hasB_true (by omega)
  have k2 : hasB la ha hi = true := hasB_true (by omega)
  have k3 : hasB lb hb lo = true := hasB_true (by omega)
  by_cases g1 : la ≤ v ∧ v ≤ ha
  · by_cases g2 : lb ≤ v ∧ v ≤ hb
    · exact yes_both la ha lb hb lo hi v w c1 c2 cm k1 k2 k3 (hasB_true (by omega)) (hasB_true g1) (hasB_true g2)
    · exact yes_one la ha lb hb lo hi v w c1 c2 cm k1 k2 k3 (hasB_false (by omega)) (hasB_true g1) (hasB_false g2)
  · exact yes_two la ha lb hb lo hi v w c1 c2 cm k1 k2 k3 (hasB_false (by omega)) (hasB_false g1)

theorem walk (la ha lb hb v : Int) (w : World) :
    Calls Try.prog 5 #[.agg #[.int .i64 la, .int .i64 ha], .agg #[.int .i64 lb, .int .i64 hb], .int .i64 v] w fun e w' => e = .returned (.bool true) ∧ Below w.heap.size w w' := by
  obtain ⟨lo, hl⟩ : ∃ lo, (lo = la ∧ lb ≤ la) ∨ (lo = lb ∧ la < lb) := by
    by_cases h : lb ≤ la
    · exact ⟨la, .inl ⟨rfl, h⟩⟩
    · exact ⟨lb, .inr ⟨rfl, by omega⟩⟩
  obtain ⟨hi, hh⟩ : ∃ hi, (hi = ha ∧ ha ≤ hb) ∨ (hi = hb ∧ hb < ha) := by
    by_cases h : ha ≤ hb
    · exact ⟨ha, .inl ⟨rfl, h⟩⟩
    · exact ⟨hb, .inr ⟨rfl, by omega⟩⟩
  by_cases h : lo ≤ hi
  · exact yes la ha lb hb lo hi v w hl hh h
  · exact no la ha lb hb lo hi v w hl hh h

set_option maxRecDepth 100000 in
theorem lifted (os : Os) (started : os.Started) (H : Type) (enc : TypeId × Value → H) :
    ReturnsInHanded {} Try.checked os 5 .any (Rows.numMeetsSpec.pre6 enc Try.prog Try.f5 Rows.numMeetsRow.domain false) (Rows.numMeetsSpec.post enc Try.prog Try.f5 false true false false) := by
  refine returnsInHanded_of_change (C := Try.checked) own started (by kernel_rfl) Try.func5
    (ChangeSpec.witness6 (enc := enc) (C := Try.checked) false ⟨#[], #[.agg #[.int .i64 0, .int .i64 0], .agg #[.int .i64 0, .int .i64 0], .int .i64 0], []⟩ 8 (by kernel_rfl) (by kernel_rfl) (by kernel_rfl) (by kernel_rfl)) ?_
  intro W base args ds gs before hval0 hW hcnd _
  have hval : ∀ (j : Nat) t v, Try.f5.params[j]? = some t → args[j]? = some v → Value.okWide Try.prog W .any base t v := hval0
  have hW' := hW
  obtain ⟨p, q, hA0, hV, rfl, hfz, hnd⟩ := hW
  have hA : DataW.TrodAll enc Try.prog W 0 (fun _ => true) true Try.f5.params.toList args.toList ds p := hA0
  rw [Try.params5] at hA hval
  obtain ⟨v0, vs0, d0, ds0, p0, q0, hargs, rfl, rfl, h0, r0⟩ := trodAll_cons hA
  obtain ⟨v1, vs1, d1, ds1, p1, q1, rfl, rfl, rfl, h1, r1⟩ := trodAll_cons r0
  obtain ⟨v2, vs2, d2, ds2, p2, q2, rfl, rfl, rfl, h2, r2⟩ := trodAll_cons r1
  obtain ⟨rfl, rfl, rfl⟩ := trodAll_nil r2
  obtain rfl : args = #[v0, v1, v2] := by cases args; simp_all
  obtain ⟨rfl, rfl⟩ := trodVars_none hV
  have lt0 : ∀ x ∈ p0, x.block < W.heap.size := by obtain ⟨m, hm⟩ := h0; exact DataW.trod_lt m _ _ _ hm
  obtain ⟨la, ha, rfl, a⟩ := open_span (hval 0 23 v0 rfl rfl) h0
  have lt1 : ∀ x ∈ p1, x.block < W.heap.size := by obtain ⟨m, hm⟩ := h1; exact DataW.trod_lt m _ _ _ hm
  obtain ⟨lb, hb, rfl, b⟩ := open_span (hval 1 23 v1 rfl rfl) h1
  have lt2 : ∀ x ∈ p2, x.block < W.heap.size := by obtain ⟨m, hm⟩ := h2; exact DataW.trod_lt m _ _ _ hm
  obtain ⟨v, rfl, c⟩ := open_i64 (hval 2 3 v2 rfl rfl) h2
  clear hA0 hval0
  refine (walk la ha lb hb v W).mono fun e W' ⟨he, bel⟩ => ?_
  subst he
  exact ⟨_, rfl, _, _, _, [], _, [], hW', trodAll_mk1 (shut_bool Try.underlying4 _), (trodAll_cons_mk (Below.trod laidOut (by kernel_rfl) (of_decide_eq_true (by kernel_rfl)) h0 bel lt0) (trodAll_cons_mk (Below.trod laidOut (by kernel_rfl) (of_decide_eq_true (by kernel_rfl)) h1 bel lt1) (trodAll_cons_mk (Below.trod laidOut (by kernel_rfl) (of_decide_eq_true (by kernel_rfl)) h2 bel lt2) trodAll_mk0))), rfl, bel.frame _, fun h => by cases h⟩

theorem over : Rows.numMeetsRow.holds Try.pinned (OpenSpec.ofChange Rows.numMeetsSpec) :=
  OpenClaim.holds_of_wide 5 Try.f5 rfl rfl rfl rfl rfl rfl rfl ⟨rfl, rfl, rfl, rfl, rfl⟩ rfl rfl rfl rfl rfl (by kernel_rfl) Try.func5 (by kernel_rfl)
    (of_decide_eq_true (by kernel_rfl)) (by unfold Func.isWrapper; first | (rw [if_pos (by decide +kernel)]; kernel_rfl) | (rw [if_neg (by decide +kernel)]; exact ⟨rfl, rfl⟩))
    (fun os started H enc _ => lifted os started H enc)

theorem proved : Rows.NumMeetsSaid := over
#print axioms proved
end NumMeets
theorem numMeets_holds : Rows.NumMeetsSaid := NumMeets.proved
end Go.Proofs.Ytgmnhpelncbknab
