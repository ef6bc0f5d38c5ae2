/- For every ballot and every two ints the law BallotNext ('What follows') returns true at the landed code: the next ballot is above what was seen, and its node's; two nodes never have one; it is the least that is so, by its Round. No condition. -/
import Derived.Test.YtlcccaiahmbkpaaBallotOpen
import Derived.Test.YtlcccaiahmbkpaaBallotNextC
namespace Go.Proofs.Ytlcccaiahmbkpaa
namespace BallotNext
open Go.ChangeShapes Go.WideShapes Go.ChangeAt Go.RowKit
set_option linter.unusedVariables false

abbrev two (n : Nat) (a b : Int) : List (Addr × Value) := [(⟨n, 0, none⟩, .int .i64 a), (⟨n, 1, none⟩, .int .i64 b)]
abbrev lawC (r n node other : Int) (w : World) : Prop :=
  Calls Try.prog 7 #[.agg #[.int .i64 r, .int .i64 n], .int .i64 node, .int .i64 other] w fun e w' => e = .returned (.bool true) ∧ Below w.heap.size w w'

theorem six {w : World} {n1 n2 n3 : Nat} {a b c d e f : Int} (h : AllCells w (two n1 a b ++ (two n2 c d ++ two n3 e f))) :
    w.cell? ⟨n1, 0, none⟩ = some (.int .i64 a) ∧ w.cell? ⟨n1, 1, none⟩ = some (.int .i64 b) ∧ w.cell? ⟨n2, 0, none⟩ = some (.int .i64 c) ∧ w.cell? ⟨n2, 1, none⟩ = some (.int .i64 d) ∧ w.cell? ⟨n3, 0, none⟩ = some (.int .i64 e) ∧ w.cell? ⟨n3, 1, none⟩ = some (.int .i64 f) := by
  obtain ⟨h1, h2, h3, h4, h5, h6, _⟩ := h
  exact ⟨h1, h2, h3, h4, h5, h6⟩

set_option maxHeartbeats 1000000 in
/-- none: node is no node, or there is no Round -/
theorem walk_none (r n node other E R2 N2 F : Int) (w : World) (c1 : Hid (NextC r n node 0 0 E)) (c2 : Hid (NextC r n other R2 N2 F)) (hE : E ≠ 0) (h : node < 1 ∨ 5 < node ∨ r = 9223372036854775807) : lawC r n node other w := by
  have h' : node < 1 ∨ (¬ node < 1 ∧ 5 < node) ∨ (¬ node < 1 ∧ ¬ 5 < node ∧ r = 9223372036854775807) := by omega
  clear h
  rcases h' with h | ⟨h, h2⟩ | ⟨h, h2, rfl⟩
  all_goals
    go_enter Try.func7, Try.ntmps7
    go_wp2_with fail
    refine (c1.out _).mono ?_
    rintro e w1 ⟨rfl, hb1⟩
    have U1 := hide (allCells_below hb1 (allCells_new2 _ _ _ _))
    have B1 := hide (below_step (below_alloc (Below.refl _ _) _) hb1)
    obtain ⟨q1, q2, _⟩ := U1.out
    simp only at q1 q2
    have z1 := World.block_lt_of_cell? _ _ q1
    simp only at z1
    clear hb1
    go_wp2_with fail
    refine (c2.out _).mono ?_
    rintro e w2 ⟨rfl, hb2⟩
    have U2 := hide (allCells_below hb2 (allCells_append (allCells_alloc _ U1.out) (allCells_new2 _ _ _ _)))
    have B2 := hide (below_step (below_alloc B1.out _) hb2)
    obtain ⟨p1, p2, p3, p4, _⟩ := U2.out
    simp only at p1 p2 p3 p4
    have z2 := World.block_lt_of_cell? _ _ p3
    have z3 := World.block_lt_of_cell? _ _ p1
    simp only at z2 z3
    clear hb2 U1 B1 q1 q2
    go_wp2_with fail
    refine (awake_any _).mono ?_
    rintro e w3 ⟨rfl, hb3⟩
    have U3 := hide (allCells_below hb3 (allCells_alloc _ U2.out))
    have B3 := hide (below_step (below_alloc B2.out _) hb3)
    obtain ⟨q1, q2, q3, q4, _⟩ := U3.out
    simp only at q1 q2 q3 q4
    clear hb3 U2 B2 p1 p2 p3 p4
    go_wp2_with fail
    go_ret
    exact ⟨rfl, B3.out⟩

set_option maxHeartbeats 1000000 in
/-- there is one -/
theorem walk_some (r n node other R R2 N2 F : Int) (w : World) (hr : -9223372036854775808 ≤ r) (c1 : Hid (NextC r n node R node 0)) (c2 : Hid (NextC r n other R2 N2 F)) (cl : Hid (∀ w : World, Calls Try.prog 14 #[.agg #[.int .i64 r, .int .i64 n], .agg #[.int .i64 R, .int .i64 node]] w fun e w' => e = .returned (.bool true) ∧ Below w.heap.size w w'))
    (hR : 1 ≤ R) (hR3 : R ≤ 9223372036854775807) (hf : (R = 1) ∨ (R ≠ 1 ∧ R - 1 = r)) (h2 : F ≠ 0 ∨ (F = 0 ∧ ¬ node = N2 ∧ R2 = R) ∨ (F = 0 ∧ node = N2 ∧ R2 = R ∧ node = other)) : lawC r n node other w := by
  rcases hf with rfl | ⟨hne, rfl⟩
  all_goals
    rcases h2 with hF | ⟨rfl, hn, rfl⟩ | ⟨rfl, rfl, rfl, rfl⟩
    all_goals
      go_enter Try.func7, Try.ntmps7
      go_wp2_with fail
      refine (c1.out _).mono ?_
      rintro e w1 ⟨rfl, hb1⟩
      have U1 := hide (allCells_below hb1 (allCells_new2 _ _ _ _))
      have B1 := hide (below_step (below_alloc (Below.refl _ _) _) hb1)
      obtain ⟨q1, q2, _⟩ := U1.out
      simp only at q1 q2
      have z1 := World.block_lt_of_cell? _ _ q1
      simp only at z1
      clear hb1
      go_wp2_with fail
      refine (c2.out _).mono ?_
      rintro e w2 ⟨rfl, hb2⟩
      have U2 := hide (allCells_below hb2 (allCells_append (allCells_alloc _ U1.out) (allCells_new2 _ _ _ _)))
      have B2 := hide (below_step (below_alloc B1.out _) hb2)
      obtain ⟨p1, p2, p3, p4, _⟩ := U2.out
      simp only at p1 p2 p3 p4
      have z2 := World.block_lt_of_cell? _ _ p3
      have z3 := World.block_lt_of_cell? _ _ p1
      simp only at z2 z3
      clear hb2 U1 B1 q1 q2
      go_wp2_with fail
      refine (awake_any _).mono ?_
      rintro e w3 ⟨rfl, hb3⟩
      have U3 := hide (allCells_below hb3 (allCells_append (allCells_alloc _ U2.out) (allCells_new2 _ _ _ _)))
      have B3 := hide (below_step (below_alloc B2.out _) hb3)
      obtain ⟨q1, q2, q3, q4, q5, q6, _⟩ := U3.out
      simp only at q1 q2 q3 q4 q5 q6
      clear hb3 U2 B2 p1 p2 p3 p4
      go_wp2_with fail
      refine (cl.out _).mono ?_
      rintro e w4 ⟨rfl, hb4⟩
      have U4 := hide (allCells_below hb4 U3.out)
      have B4 := hide (below_step B3.out hb4)
      clear q1 q2 q3 q4 q5 q6
      obtain ⟨q1, q2, q3, q4, q5, q6, _⟩ := U4.out
      simp only at q1 q2 q3 q4 q5 q6
      clear hb4 U3 B3
      go_wp2_with fail
      go_ret
      exact ⟨rfl, B4.out⟩

theorem walk (r n node other : Int) (w : World) (hr : -9223372036854775808 ≤ r ∧ r ≤ 9223372036854775807) : lawC r n node other w := by
  obtain ⟨R, N, E, x1, c1, _⟩ := next_ex r node hr
  obtain ⟨R2, N2, F, x2, c2, _⟩ := next_ex r other hr
  rcases x1 with ⟨hE, rfl, rfl, h⟩ | ⟨rfl, rfl, h1, h2, h3⟩
  · exact walk_none r n node other E R2 N2 F w (hide (c1 n)) (hide (c2 n)) hE h
  · refine walk_some r n N other R R2 N2 F w hr.1 (hide (c1 n)) (hide (c2 n)) (hide (less_lit (lessB_true (by omega)))) (by omega) (by omega) (by omega) ?_
    rcases x2 with ⟨hE, _⟩ | ⟨rfl, rfl, _, _, h4⟩
    · exact .inl hE
    · by_cases e : N = N2
      · exact .inr (.inr ⟨rfl, e, by omega, e⟩)
      · exact .inr (.inl ⟨rfl, e, by omega⟩)

set_option maxRecDepth 100000 in
theorem lifted (os : Os) (started : os.Started) (H : Type) (enc : TypeId × Value → H) :
    ReturnsInHanded {} Try.checked os 7 .any (Rows.ballotNextSpec.pre6 enc Try.prog Try.f7 Rows.ballotNextRow.domain false) (Rows.ballotNextSpec.post enc Try.prog Try.f7 false true false false) := by
  refine returnsInHanded_of_change (C := Try.checked) own started (by kernel_rfl) Try.func7
    (ChangeSpec.witness6 (enc := enc) (C := Try.checked) false ⟨#[], #[.agg #[.int .i64 0, .int .i64 0], .int .i64 0, .int .i64 0], []⟩ 8 (by kernel_rfl) (by kernel_rfl) (by kernel_rfl) (by kernel_rfl)) ?_
  intro W base args ds gs before hval0 hW hcnd _
  have hval : ∀ (j : Nat) t v, Try.f7.params[j]? = some t → args[j]? = some v → Value.okWide Try.prog W .any base t v := hval0
  have hW' := hW
  obtain ⟨p, q, hA0, hV, rfl, hfz, hnd⟩ := hW
  have hA : DataW.TrodAll enc Try.prog W 0 (fun _ => true) true Try.f7.params.toList args.toList ds p := hA0
  rw [Try.params7] at hA hval
  obtain ⟨v0, vs0, d0, ds0, p0, q0, hargs, rfl, rfl, h0, r0⟩ := trodAll_cons hA
  obtain ⟨v1, vs1, d1, ds1, p1, q1, rfl, rfl, rfl, h1, r1⟩ := trodAll_cons r0
  obtain ⟨v2, vs2, d2, ds2, p2, q2, rfl, rfl, rfl, h2, r2⟩ := trodAll_cons r1
  obtain ⟨rfl, rfl, rfl⟩ := trodAll_nil r2
  obtain rfl : args = #[v0, v1, v2] := by cases args; simp_all
  obtain ⟨rfl, rfl⟩ := trodVars_none hV
  have lt0 : ∀ x ∈ p0, x.block < W.heap.size := by obtain ⟨m, hm⟩ := h0; exact DataW.trod_lt m _ _ _ hm
  obtain ⟨r, n, rfl, ha⟩ := open_ballot (hval 0 23 v0 rfl rfl) h0
  have lt1 : ∀ x ∈ p1, x.block < W.heap.size := by obtain ⟨m, hm⟩ := h1; exact DataW.trod_lt m _ _ _ hm
  obtain ⟨node, rfl, hb⟩ := open_i64 (hval 1 3 v1 rfl rfl) h1
  have lt2 : ∀ x ∈ p2, x.block < W.heap.size := by obtain ⟨m, hm⟩ := h2; exact DataW.trod_lt m _ _ _ hm
  obtain ⟨other, rfl, hc⟩ := open_i64 (hval 2 3 v2 rfl rfl) h2
  clear hA0 hval0
  refine (walk r n node other W ha.1).mono fun e W' ⟨he, bel⟩ => ?_
  subst he
  exact ⟨_, rfl, _, _, _, [], _, [], hW', trodAll_mk1 (shut_bool Try.underlying4 _), (trodAll_cons_mk (Below.trod laidOut (by kernel_rfl) (of_decide_eq_true (by kernel_rfl)) h0 bel lt0) (trodAll_cons_mk (Below.trod laidOut (by kernel_rfl) (of_decide_eq_true (by kernel_rfl)) h1 bel lt1) (trodAll_cons_mk (Below.trod laidOut (by kernel_rfl) (of_decide_eq_true (by kernel_rfl)) h2 bel lt2) trodAll_mk0))), rfl, bel.frame _, fun h => by cases h⟩

theorem over : Rows.ballotNextRow.holds Try.pinned (OpenSpec.ofChange Rows.ballotNextSpec) :=
  OpenClaim.holds_of_wide 7 Try.f7 rfl rfl rfl rfl rfl rfl rfl ⟨rfl, rfl, rfl, rfl, rfl⟩ rfl rfl rfl rfl rfl (by kernel_rfl) Try.func7 (by kernel_rfl)
    (of_decide_eq_true (by kernel_rfl)) (by unfold Func.isWrapper; first | (rw [if_pos (by decide +kernel)]; kernel_rfl) | (rw [if_neg (by decide +kernel)]; exact ⟨rfl, rfl⟩))
    (fun os started H enc _ => lifted os started H enc)

theorem proved : Rows.BallotNextSaid := over
#print axioms proved
end BallotNext
theorem ballotNext_holds : Rows.BallotNextSaid := BallotNext.proved
end Go.Proofs.Ytlcccaiahmbkpaa
