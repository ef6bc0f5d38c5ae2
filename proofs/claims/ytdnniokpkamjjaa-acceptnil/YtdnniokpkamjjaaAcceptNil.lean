/- AcceptNil: a nil acceptor answers ErrNil and zero values, and its fork is nil: for every ballot and slot. No condition. -/
import Derived.Test.YtdnniokpkamjjaaAccAwake
import Derived.Test.YtdnniokpkamjjaaBallotOpen
namespace Go.Proofs.Ytdnniokpkamjjaa
namespace AcceptNil
open Go.ChangeShapes Go.WideShapes Go.ChangeAt Go.RowKit B8 Am
set_option linter.unusedVariables false

set_option maxRecDepth 100000 in
set_option maxHeartbeats 1000000 in
theorem walk (r n f : Int) (w : World) :
    Calls Try.prog 8 #[.agg #[.int .i64 r, .int .i64 n], .int .i64 f] w fun e w' => e = .returned (.bool true) ∧ Below w.heap.size w w' := by
  obtain ⟨N, eN⟩ : ∃ N, N = w.heap.size := ⟨_, rfl⟩
  obtain ⟨u, eu⟩ : ∃ u, u = w.alloc (.cells #[.int .i64 r, .int .i64 n] 30) := ⟨_, rfl⟩
  have BU : Hid (Below w.heap.size w u) := by rw [eu]; exact below_alloc (Below.refl _ _) _
  have x0 : u.cell? ⟨N, 0, none⟩ = some (.int .i64 r) := by rw [eu, eN]; simp
  have x1 : u.cell? ⟨N, 1, none⟩ = some (.int .i64 n) := by rw [eu, eN]; simp
  have EU := hide eu
  have EN := hide eN
  clear eu eN
  go_enter Try.func8, Try.ntmps8
  go_wp2_with fail
  rw [← EU.out, ← EN.out]
  go_wp2_with fail
  refine (prepare_nil r n f _).mono ?_
  rintro e w1 ⟨rfl, hb1⟩
  have B1 := hide (below_step BU.out hb1)
  have y0 := (hb1.cell (p := ⟨N, 0, none⟩) (World.block_lt_of_cell? _ _ x0)).trans x0
  have y1 := (hb1.cell (p := ⟨N, 1, none⟩) (World.block_lt_of_cell? _ _ x1)).trans x1
  clear hb1 x0 x1
  go_wp2_with fail
  refine (awake_any _).mono ?_
  rintro e w2 ⟨rfl, hb2⟩
  have B2 := hide (below_step B1.out hb2)
  have z0 := (hb2.cell (p := ⟨N, 0, none⟩) (World.block_lt_of_cell? _ _ y0)).trans y0
  have z1 := (hb2.cell (p := ⟨N, 1, none⟩) (World.block_lt_of_cell? _ _ y1)).trans y1
  clear hb2 y0 y1
  go_wp2_with fail
  refine (accept_nil f r n _).mono ?_
  rintro e w3 ⟨rfl, hb3⟩
  have B3 := hide (below_step B2.out hb3)
  clear hb3 z0 z1
  go_wp2_with fail
  refine (forget_nil f _).mono ?_
  rintro e w4 ⟨rfl, rfl⟩
  go_wp2_with fail
  refine (promised_nil _).mono ?_
  rintro e w5 ⟨rfl, hb5⟩
  have B5 := hide (below_step B3.out hb5)
  clear hb5
  go_wp2_with fail
  refine (first_nil _).mono ?_
  rintro e w6 ⟨rfl, rfl⟩
  go_wp2_with fail
  refine (votes_nil _).mono ?_
  rintro e w7 ⟨rfl, rfl⟩
  go_wp2_with fail
  refine (fork_nil _).mono ?_
  rintro e w8 ⟨rfl, rfl⟩
  go_wp2_with fail
  go_ret
  exact ⟨rfl, B5.out⟩

set_option maxRecDepth 100000 in
theorem lifted (os : Os) (started : os.Started) (H : Type) (enc : TypeId × Value → H) :
    ReturnsInHanded {} Try.checked os 8 .any (Rows.acceptNilSpec.pre6 enc Try.prog Try.f8 Rows.acceptNilRow.domain false) (Rows.acceptNilSpec.post enc Try.prog Try.f8 false true false false) := by
  refine returnsInHanded_of_change (C := Try.checked) own started (by kernel_rfl) Try.func8
    (ChangeSpec.witness6 (enc := enc) (C := Try.checked) false ⟨#[], #[.agg #[.int .i64 0, .int .i64 0], .int .i64 0], []⟩ 8 (by kernel_rfl) (by kernel_rfl) (by kernel_rfl) (by kernel_rfl)) ?_
  intro W base args ds gs before hval0 hW hcnd _
  have hval : ∀ (j : Nat) t v, Try.f8.params[j]? = some t → args[j]? = some v → Value.okWide Try.prog W .any base t v := hval0
  have hW' := hW
  obtain ⟨p, q, hA0, hV, rfl, hfz, hnd⟩ := hW
  have hA : DataW.TrodAll enc Try.prog W 0 (fun _ => true) true Try.f8.params.toList args.toList ds p := hA0
  rw [Try.params8] at hA hval
  obtain ⟨v0, vs0, d0, ds0, p0, q0, hargs, rfl, rfl, h0, r0⟩ := trodAll_cons hA
  obtain ⟨v1, vs1, d1, ds1, p1, q1, rfl, rfl, rfl, h1, r1⟩ := trodAll_cons r0
  obtain ⟨rfl, rfl, rfl⟩ := trodAll_nil r1
  obtain rfl : args = #[v0, v1] := by cases args; simp_all
  obtain ⟨rfl, rfl⟩ := trodVars_none hV
  have lt0 : ∀ x ∈ p0, x.block < W.heap.size := by obtain ⟨m, hm⟩ := h0; exact DataW.trod_lt m _ _ _ hm
  obtain ⟨r, n, rfl, hr⟩ := open_ballot (hval 0 30 v0 rfl rfl) h0
  have lt1 : ∀ x ∈ p1, x.block < W.heap.size := by obtain ⟨m, hm⟩ := h1; exact DataW.trod_lt m _ _ _ hm
  obtain ⟨f, rfl, hf⟩ := open_i64 (hval 1 3 v1 rfl rfl) h1
  clear hA0 hval0
  refine (walk r n f W).mono fun e W' ⟨he, bel⟩ => ?_
  subst he
  exact ⟨_, rfl, _, _, _, [], _, [], hW', trodAll_mk1 (shut_bool Try.underlying4 _), (trodAll_cons_mk (Below.trod laidOut (by kernel_rfl) (of_decide_eq_true (by kernel_rfl)) h0 bel lt0) (trodAll_cons_mk (Below.trod laidOut (by kernel_rfl) (of_decide_eq_true (by kernel_rfl)) h1 bel lt1) trodAll_mk0)), rfl, bel.frame _, fun h => by cases h⟩

theorem over : Rows.acceptNilRow.holds Try.pinned (OpenSpec.ofChange Rows.acceptNilSpec) :=
  OpenClaim.holds_of_wide 8 Try.f8 rfl rfl rfl rfl rfl rfl rfl ⟨rfl, rfl, rfl, rfl, rfl⟩ rfl rfl rfl rfl rfl (by kernel_rfl) Try.func8 (by kernel_rfl)
    (of_decide_eq_true (by kernel_rfl)) (by unfold Func.isWrapper; first | (rw [if_pos (by decide +kernel)]; kernel_rfl) | (rw [if_neg (by decide +kernel)]; exact ⟨rfl, rfl⟩))
    (fun os started H enc _ => lifted os started H enc)

theorem proved : Rows.AcceptNilSaid := over
#print axioms proved
end AcceptNil
theorem acceptNil_holds : Rows.AcceptNilSaid := AcceptNil.proved
end Go.Proofs.Ytdnniokpkamjjaa
