/- CodecNil: for every number, a nil reader answers zero to all, and ErrNil. No condition. -/
import Derived.Test.YtadjdiocipahhaaCodecOpen
import Derived.Test.YtadjdiocipahhaaCodecAwake
import Derived.Test.YtadjdiocipahhaaCodecNilCalls
namespace Go.Proofs.Ytadjdiocipahhaa
namespace CodecNil
open Go.ChangeShapes Go.WideShapes Go.ChangeAt Go.RowKit B8 Cm
set_option linter.unusedVariables false

theorem walk (most : Int) (w : World) :
    Calls Try.prog 4 #[.int .i64 most] w fun e w' => e = .returned (.bool true) ∧ Below w.heap.size w w' := by
  go_enter Try.func4, Try.ntmps4
  go_wp2_with fail
  refine (cfault_nil _).mono ?_
  rintro e w1 ⟨rfl, rfl⟩
  go_wp2_with fail
  refine (awake_any _).mono ?_
  rintro e w1 ⟨rfl, b1⟩
  have B1 := hide b1
  clear b1
  go_wp2_with fail
  refine (cnum_nil _).mono ?_
  rintro e w2 ⟨rfl, b⟩
  have B2 := hide (below_step B1.out b)
  clear b B1
  go_wp2_with fail
  refine (cint_nil _).mono ?_
  rintro e w3 ⟨rfl, b⟩
  have B3 := hide (below_step B2.out b)
  clear b B2
  go_wp2_with fail
  refine (cbyte_nil _).mono ?_
  rintro e w4 ⟨rfl, b⟩
  have B4 := hide (below_step B3.out b)
  clear b B3
  go_wp2_with fail
  refine (cflag_nil _).mono ?_
  rintro e w5 ⟨rfl, b⟩
  have B5 := hide (below_step B4.out b)
  clear b B4
  go_wp2_with fail
  refine (ctext_nil _ _).mono ?_
  rintro e w6 ⟨rfl, b⟩
  have B6 := hide (below_step B5.out b)
  clear b B5
  go_wp2_with fail
  refine (ccount_nil _ _).mono ?_
  rintro e w7 ⟨rfl, b⟩
  have B7 := hide (below_step B6.out b)
  clear b B6
  go_wp2_with fail
  refine (cleft_nil _).mono ?_
  rintro e w8 ⟨rfl, rfl⟩
  go_wp2_with fail
  refine (cend_nil _).mono ?_
  rintro e w9 ⟨rfl, rfl⟩
  go_wp2_with fail
  go_ret
  exact ⟨rfl, B7.out⟩

set_option maxRecDepth 100000 in
theorem lifted (os : Os) (started : os.Started) (H : Type) (enc : TypeId × Value → H) :
    ReturnsInHanded {} Try.checked os 4 .any (Rows.codecNilSpec.pre6 enc Try.prog Try.f4 Rows.codecNilRow.domain false) (Rows.codecNilSpec.post enc Try.prog Try.f4 false true false false) := by
  refine returnsInHanded_of_change (C := Try.checked) own started (by kernel_rfl) Try.func4
    (ChangeSpec.witness6 (enc := enc) (C := Try.checked) false ⟨#[], #[.int .i64 0], []⟩ 8 (by kernel_rfl) (by kernel_rfl) (by kernel_rfl) (by kernel_rfl)) ?_
  intro W base args ds gs before hval0 hW hcnd _
  have hval : ∀ (j : Nat) t v, Try.f4.params[j]? = some t → args[j]? = some v → Value.okWide Try.prog W .any base t v := hval0
  have hW' := hW
  obtain ⟨p, q, hA0, hV, rfl, hfz, hnd⟩ := hW
  have hA : DataW.TrodAll enc Try.prog W 0 (fun _ => true) true Try.f4.params.toList args.toList ds p := hA0
  rw [Try.params4] at hA hval
  obtain ⟨v0, vs0, d0, ds0, p0, q0, hargs, rfl, rfl, h0, r0⟩ := trodAll_cons hA
  obtain ⟨rfl, rfl, rfl⟩ := trodAll_nil r0
  obtain rfl : args = #[v0] := by cases args; simp_all
  obtain ⟨rfl, rfl⟩ := trodVars_none hV
  have lt0 : ∀ x ∈ p0, x.block < W.heap.size := by obtain ⟨m, hm⟩ := h0; exact DataW.trod_lt m _ _ _ hm
  obtain ⟨n, rfl, nb⟩ := open_i64 (hval 0 3 v0 rfl rfl) h0
  clear hA0 hval0
  refine (walk n W).mono fun e W' ⟨he, bel⟩ => ?_
  subst he
  exact ⟨_, rfl, _, _, _, [], _, [], hW', trodAll_mk1 (shut_bool Try.underlying4 _), (trodAll_cons_mk (Below.trod laidOut (by kernel_rfl) (of_decide_eq_true (by kernel_rfl)) h0 bel lt0) trodAll_mk0), rfl, bel.frame _, fun h => by cases h⟩

theorem over : Rows.codecNilRow.holds Try.pinned (OpenSpec.ofChange Rows.codecNilSpec) :=
  OpenClaim.holds_of_wide 4 Try.f4 rfl rfl rfl rfl rfl rfl rfl ⟨rfl, rfl, rfl, rfl, rfl⟩ rfl rfl rfl rfl rfl (by kernel_rfl) Try.func4 (by kernel_rfl)
    (of_decide_eq_true (by kernel_rfl)) (by unfold Func.isWrapper; first | (rw [if_pos (by decide +kernel)]; kernel_rfl) | (rw [if_neg (by decide +kernel)]; exact ⟨rfl, rfl⟩))
    (fun os started H enc _ => lifted os started H enc)

theorem proved : Rows.CodecNilSaid := over
#print axioms proved
end CodecNil
theorem codecNil_holds : Rows.CodecNilSaid := CodecNil.proved
end Go.Proofs.Ytadjdiocipahhaa
