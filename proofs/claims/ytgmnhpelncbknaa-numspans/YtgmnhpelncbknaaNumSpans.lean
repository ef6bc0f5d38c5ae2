/- For every two spans and every two ints the law NumSpans (P1.2, P1.3) returns true at the landed code: what a span has, how far a number may go in it, what two spans have in common, and a span further on, are the document's. No condition. -/
import Derived.Test.YtgmnhpelncbknaaNumOpen
import Derived.Test.YtgmnhpelncbknaaHeld
import Derived.Test.YtgmnhpelncbknaaNumRefRoom
import Derived.Test.YtgmnhpelncbknaaNumRefShift
import Derived.Deep.RegionWith
namespace Go.Proofs.Ytgmnhpelncbknaa
namespace NumSpans
open Go.ChangeShapes Go.WideShapes Go.ChangeAt Go.RowKit
set_option linter.unusedVariables false

set_option maxHeartbeats 1000000 in
theorem walk (la ha lb hb v by_ : Int) (w : World) (a0 : -9223372036854775808 ≤ la) (a1 : la ≤ 9223372036854775807) (b0 : -9223372036854775808 ≤ ha) (b1 : ha ≤ 9223372036854775807) (c0 : -9223372036854775808 ≤ by_) (c1 : by_ ≤ 9223372036854775807) :
    Calls Try.prog 5 #[.agg #[.int .i64 la, .int .i64 ha], .agg #[.int .i64 lb, .int .i64 hb], .int .i64 v, .int .i64 by_] w fun e w' => e = .returned (.bool true) ∧ Below w.heap.size w w' := by
  have k1 := hide (fun w => room_any la ha v w a0 a1 b0 b1)
  have k2 := hide (fun w => refroom_any la ha v w a0 a1 b0 b1)
  have k3 := hide (fun w => meet_any la ha lb hb w)
  have k4 := hide (fun w => refmeet_any la ha lb hb w)
  have k5 := hide (fun w => shift_any la ha by_ w a0 a1 b0 b1 c0 c1)
  have k6 := hide (fun w => refshift_any la ha by_ w a0 a1 b0 b1 c0 c1)
  clear a0 a1 b0 b1 c0 c1
  have Q0 : Hid (AllCells ((w.alloc (.cells #[.int .i64 la, .int .i64 ha] 34)).alloc (.cells #[.int .i64 lb, .int .i64 hb] 34)) [(⟨w.heap.size, 0, none⟩, .int .i64 la), (⟨w.heap.size, 1, none⟩, .int .i64 ha), (⟨w.heap.size + 1, 0, none⟩, .int .i64 lb), (⟨w.heap.size + 1, 1, none⟩, .int .i64 hb)]) :=
    allCells_append (allCells_alloc _ (allCells_new2 w _ _ _)) (by have := allCells_new2 (w.alloc (.cells #[.int .i64 la, .int .i64 ha] 34)) (.int .i64 lb) (.int .i64 hb) 34; simpa only [World.size_alloc] using this)
  have B0 : Hid (Below w.heap.size w ((w.alloc (.cells #[.int .i64 la, .int .i64 ha] 34)).alloc (.cells #[.int .i64 lb, .int .i64 hb] 34))) := below_alloc (below_alloc (Below.refl _ _) _) _
  go_enter Try.func5, Try.ntmps5
  go_wp2_with fail
  refine (k1.out _).mono ?_
  rintro e w1 ⟨rfl, hb1⟩
  have Q1 := hide (allCells_below hb1 Q0.out)
  have B1 := hide (below_step B0.out hb1)
  clear hb1 Q0 B0 k1
  obtain ⟨r1, r2, r3, r4, _⟩ := Q1.out
  go_wp2_with fail
  refine (k2.out _).mono ?_
  rintro e w2 ⟨rfl, hb2⟩
  have Q2 := hide (allCells_below hb2 Q1.out)
  have B2 := hide (below_step B1.out hb2)
  clear hb2 Q1 B1 k2 r1 r2 r3 r4
  obtain ⟨r1, r2, r3, r4, _⟩ := Q2.out
  go_wp2_with fail
  refine (k3.out _).mono ?_
  rintro e w3 ⟨rfl, hb3⟩
  have Q3 := hide (allCells_below hb3 Q2.out)
  have B3 := hide (below_step B2.out hb3)
  clear hb3 Q2 B2 k3 r1 r2 r3 r4
  obtain ⟨r1, r2, r3, r4, _⟩ := Q3.out
  have s1 := World.block_lt_of_cell? w3 _ r1
  have s2 := World.block_lt_of_cell? w3 _ r3
  simp only [] at s1 s2
  go_wp2_with fail
  have QA3 := hide (allCells_append (allCells_alloc _ Q3.out) (allCells_new2 w3 (.int .i64 (meetv la ha lb hb).lo) (.int .i64 (meetv la ha lb hb).hi) 34))
  refine (k4.out _).mono ?_
  rintro e w4 ⟨rfl, hb4⟩
  have Q4 := hide (allCells_below hb4 QA3.out)
  have B4 := hide (below_step (below_alloc B3.out _) hb4)
  clear hb4 Q3 QA3 B3 k4 r1 r2 r3 r4 s1 s2
  obtain ⟨r1, r2, r3, r4, _⟩ := Q4.out
  have s1 := World.block_lt_of_cell? w4 _ r1
  have s2 := World.block_lt_of_cell? w4 _ r3
  simp only [] at s1 s2
  go_wp2_with fail
  have QA4 := hide (allCells_append (allCells_alloc _ Q4.out) (allCells_new2 w4 (.int .i64 (meetv la ha lb hb).lo) (.int .i64 (meetv la ha lb hb).hi) 34))
  refine (k5.out _).mono ?_
  rintro e w5 ⟨rfl, hb5⟩
  have Q5 := hide (allCells_below hb5 QA4.out)
  have B5 := hide (below_step (below_alloc B4.out _) hb5)
  clear hb5 Q4 QA4 B4 k5 r1 r2 r3 r4 s1 s2
  obtain ⟨r1, r2, r3, r4, _⟩ := Q5.out
  have s1 := World.block_lt_of_cell? w5 _ r1
  have s2 := World.block_lt_of_cell? w5 _ r3
  simp only [] at s1 s2
  go_wp2_with fail
  have QA5 := hide (allCells_append (allCells_alloc _ Q5.out) (allCells_new2 w5 (.int .i64 (shiftv la ha by_).lo) (.int .i64 (shiftv la ha by_).hi) 34))
  refine (k6.out _).mono ?_
  rintro e w6 ⟨rfl, hb6⟩
  have Q6 := hide (allCells_below hb6 QA5.out)
  have B6 := hide (below_step (below_alloc B5.out _) hb6)
  clear hb6 Q5 QA5 B5 k6 r1 r2 r3 r4 s1 s2
  obtain ⟨r1, r2, r3, r4, _⟩ := Q6.out
  have s1 := World.block_lt_of_cell? w6 _ r1
  have s2 := World.block_lt_of_cell? w6 _ r3
  simp only [] at s1 s2
  go_wp2_with fail
  have QA6 := hide (allCells_append (allCells_alloc _ Q6.out) (allCells_new2 w6 (.int .i64 (shiftv la ha by_).lo) (.int .i64 (shiftv la ha by_).hi) 34))
  refine wp_region_cells w [(⟨w.heap.size, 0, none⟩, .int .i64 la), (⟨w.heap.size, 1, none⟩, .int .i64 ha), (⟨w.heap.size + 1, 0, none⟩, .int .i64 lb), (⟨w.heap.size + 1, 1, none⟩, .int .i64 hb), (⟨w3.heap.size, 0, none⟩, .int .i64 (meetv la ha lb hb).lo), (⟨w3.heap.size, 1, none⟩, .int .i64 (meetv la ha lb hb).hi), (⟨w4.heap.size, 0, none⟩, .int .i64 (meetv la ha lb hb).lo), (⟨w4.heap.size, 1, none⟩, .int .i64 (meetv la ha lb hb).hi), (⟨w5.heap.size, 0, none⟩, .int .i64 (shiftv la ha by_).lo), (⟨w5.heap.size, 1, none⟩, .int .i64 (shiftv la ha by_).hi), (⟨w6.heap.size, 0, none⟩, .int .i64 (shiftv la ha by_).lo), (⟨w6.heap.size, 1, none⟩, .int .i64 (shiftv la ha by_).hi)] (by kernel_rfl) (by kernel_rfl) (below_alloc B6.out _) QA6.out ?_
  intro hne q
  simp only [AllCells, and_true] at q
  clear Q6 QA6 B6 r1 r2 r3 r4 s1 s2
  repeat (go_big_quiet_step (first | (go_at_call 13; exact Held.call_alloc _ (awake_any _)) | (go_at_call 24; exact Held.call_alloc _ (may_any _ _ _)) | (go_at_call 25; exact Held.call_alloc _ (has_any _ _ _ _)) | (go_at_call 26; exact Held.call_alloc _ (refhas_any _ _ _ _))))
  refine wpQuiet_nil ?_
  rintro _ ⟨y, rfl⟩
  go_wp2_with fail
  go_ret
  exact ⟨rfl, y.below⟩

set_option maxRecDepth 100000 in
theorem lifted (os : Os) (started : os.Started) (H : Type) (enc : TypeId × Value → H) :
    ReturnsInHanded {} Try.checked os 5 .any (Rows.numSpansSpec.pre6 enc Try.prog Try.f5 Rows.numSpansRow.domain false) (Rows.numSpansSpec.post enc Try.prog Try.f5 false true false false) := by
  refine returnsInHanded_of_change (C := Try.checked) own started (by kernel_rfl) Try.func5
    (ChangeSpec.witness6 (enc := enc) (C := Try.checked) false ⟨#[], #[.agg #[.int .i64 0, .int .i64 0], .agg #[.int .i64 0, .int .i64 0], .int .i64 0, .int .i64 0], []⟩ 8 (by kernel_rfl) (by kernel_rfl) (by kernel_rfl) (by kernel_rfl)) ?_
  intro W base args ds gs before hval0 hW hcnd _
  have hval : ∀ (j : Nat) t v, Try.f5.params[j]? = some t → args[j]? = some v → Value.okWide Try.prog W .any base t v := hval0
  have hW' := hW
  obtain ⟨p, q, hA0, hV, rfl, hfz, hnd⟩ := hW
  have hA : DataW.TrodAll enc Try.prog W 0 (fun _ => true) true Try.f5.params.toList args.toList ds p := hA0
  rw [Try.params5] at hA hval
  obtain ⟨v0, vs0, d0, ds0, p0, q0, hargs, rfl, rfl, h0, r0⟩ := trodAll_cons hA
  obtain ⟨v1, vs1, d1, ds1, p1, q1, rfl, rfl, rfl, h1, r1⟩ := trodAll_cons r0
  obtain ⟨v2, vs2, d2, ds2, p2, q2, rfl, rfl, rfl, h2, r2⟩ := trodAll_cons r1
  obtain ⟨v3, vs3, d3, ds3, p3, q3, rfl, rfl, rfl, h3, r3⟩ := trodAll_cons r2
  obtain ⟨rfl, rfl, rfl⟩ := trodAll_nil r3
  obtain rfl : args = #[v0, v1, v2, v3] := by cases args; simp_all
  obtain ⟨rfl, rfl⟩ := trodVars_none hV
  have lt0 : ∀ x ∈ p0, x.block < W.heap.size := by obtain ⟨m, hm⟩ := h0; exact DataW.trod_lt m _ _ _ hm
  obtain ⟨la, ha, rfl, ⟨⟨a0, a1⟩, b0, b1⟩⟩ := open_span (hval 0 34 v0 rfl rfl) h0
  have lt1 : ∀ x ∈ p1, x.block < W.heap.size := by obtain ⟨m, hm⟩ := h1; exact DataW.trod_lt m _ _ _ hm
  obtain ⟨lb, hb, rfl, c⟩ := open_span (hval 1 34 v1 rfl rfl) h1
  have lt2 : ∀ x ∈ p2, x.block < W.heap.size := by obtain ⟨m, hm⟩ := h2; exact DataW.trod_lt m _ _ _ hm
  obtain ⟨v, rfl, d⟩ := open_i64 (hval 2 3 v2 rfl rfl) h2
  have lt3 : ∀ x ∈ p3, x.block < W.heap.size := by obtain ⟨m, hm⟩ := h3; exact DataW.trod_lt m _ _ _ hm
  obtain ⟨by_, rfl, ⟨e0, e1⟩⟩ := open_i64 (hval 3 3 v3 rfl rfl) h3
  clear hA0 hval0
  refine (walk la ha lb hb v by_ W a0 a1 b0 b1 e0 e1).mono fun e W' ⟨he, bel⟩ => ?_
  subst he
  exact ⟨_, rfl, _, _, _, [], _, [], hW', trodAll_mk1 (shut_bool Try.underlying4 _), (trodAll_cons_mk (Below.trod laidOut (by kernel_rfl) (of_decide_eq_true (by kernel_rfl)) h0 bel lt0) (trodAll_cons_mk (Below.trod laidOut (by kernel_rfl) (of_decide_eq_true (by kernel_rfl)) h1 bel lt1) (trodAll_cons_mk (Below.trod laidOut (by kernel_rfl) (of_decide_eq_true (by kernel_rfl)) h2 bel lt2) (trodAll_cons_mk (Below.trod laidOut (by kernel_rfl) (of_decide_eq_true (by kernel_rfl)) h3 bel lt3) trodAll_mk0)))), rfl, bel.frame _, fun h => by cases h⟩

theorem over : Rows.numSpansRow.holds Try.pinned (OpenSpec.ofChange Rows.numSpansSpec) :=
  OpenClaim.holds_of_wide 5 Try.f5 rfl rfl rfl rfl rfl rfl rfl ⟨rfl, rfl, rfl, rfl, rfl⟩ rfl rfl rfl rfl rfl (by kernel_rfl) Try.func5 (by kernel_rfl)
    (of_decide_eq_true (by kernel_rfl)) (by unfold Func.isWrapper; first | (rw [if_pos (by decide +kernel)]; kernel_rfl) | (rw [if_neg (by decide +kernel)]; exact ⟨rfl, rfl⟩))
    (fun os started H enc _ => lifted os started H enc)

theorem proved : Rows.NumSpansSaid := over
#print axioms proved
end NumSpans
theorem numSpans_holds : Rows.NumSpansSaid := NumSpans.proved
end Go.Proofs.Ytgmnhpelncbknaa
