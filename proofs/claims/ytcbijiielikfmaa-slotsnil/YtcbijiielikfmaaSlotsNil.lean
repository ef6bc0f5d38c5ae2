/- SlotsNil holds: a nil log, for every number. No condition. -/
import Derived.Test.YtcbijiielikfmaaSlotsToldI
import Derived.Test.YtcbijiielikfmaaSlotsAwake
import Derived.Test.YtcbijiielikfmaaSlotsOpen
namespace Go.Proofs.Ytcbijiielikfmaa
open Go.ChangeShapes Go.WideShapes Go.ChangeAt Go.RowKit Sx Li
set_option linter.unusedVariables false
namespace SlotsNil
theorem fork_nil (w : World) : Calls Try.prog 28 #[.pointer none] w fun e w' => e = .returned (.pointer none) ∧ w' = w := by
  go_enter Try.func28, Try.ntmps28
  go_wp2_with fail
  go_ret
  exact ⟨rfl, rfl⟩
set_option maxRecDepth 100000 in
set_option maxHeartbeats 1000000 in
theorem walk (i : Int) (w : World) : Calls Try.prog 7 #[.int .i64 i] w fun e w' => e = .returned (.bool true) ∧ Below w.heap.size w w' := by
  go_enter Try.func7, Try.ntmps7
  go_wp2_with fail
  refine (get_nil w i).mono ?_
  rintro e w1 ⟨rfl, rfl⟩
  have CT := hide (told_any (asks_nil w1))
  simp only [allL, runL, holesL] at CT
  simp only [zv]
  go_wp2_with fail
  refine CT.out.mono ?_
  rintro e w2 ⟨va, vr, vh, rfl, ht⟩
  obtain ⟨a1, c1, rfl⟩ := ht.sa
  obtain ⟨a2, c2, rfl⟩ := ht.sr
  obtain ⟨a3, c3, rfl⟩ := ht.sh
  have B2 := hide ht.below
  clear ht CT
  simp only [List.length_nil]
  go_wp2_with fail
  refine (awake_any w2).mono ?_
  rintro e w3 ⟨rfl, b3⟩
  have B3 := hide (below_step B2.out b3)
  clear b3
  go_wp2_with fail
  refine (first_nil w3).mono ?_
  rintro e w4 ⟨rfl, rfl⟩
  go_wp2_with fail
  refine (next_nil w4).mono ?_
  rintro e w5 ⟨rfl, rfl⟩
  go_wp2_with fail
  refine (top_nil w5).mono ?_
  rintro e w6 ⟨rfl, rfl⟩
  go_wp2_with fail
  refine (len_nil w6).mono ?_
  rintro e w7 ⟨rfl, rfl⟩
  have CP := hide (put_nil w7 i 1)
  simp only [va] at CP
  go_wp2_with fail
  refine CP.out.mono ?_
  rintro e w8 ⟨rfl, b8⟩
  have B8 := hide (below_step B3.out b8)
  clear b8 CP
  go_wp2_with fail
  refine (cut_nil w8 i).mono ?_
  rintro e w9 ⟨rfl, rfl⟩
  go_wp2_with fail
  refine (fork_nil w9).mono ?_
  rintro e w10 ⟨rfl, rfl⟩
  go_wp2_with fail
  go_ret
  exact ⟨rfl, B8.out⟩

set_option maxRecDepth 100000 in
theorem lifted (os : Os) (started : os.Started) (H : Type) (enc : TypeId × Value → H) :
    ReturnsInHanded {} Try.checked os 7 .any (Rows.slotsNilSpec.pre6 enc Try.prog Try.f7 Rows.slotsNilRow.domain false) (Rows.slotsNilSpec.post enc Try.prog Try.f7 false true false false) := by
  refine returnsInHanded_of_change (C := Try.checked) own started (by kernel_rfl) Try.func7
    (ChangeSpec.witness6 (enc := enc) (C := Try.checked) false ⟨#[], #[.int .i64 0], []⟩ 8 (by kernel_rfl) (by kernel_rfl) (by kernel_rfl) (by kernel_rfl)) ?_
  intro W base args ds gs before hval0 hW hcnd _
  have hval : ∀ (j : Nat) t v, Try.f7.params[j]? = some t → args[j]? = some v → Value.okWide Try.prog W .any base t v := hval0
  have hW' := hW
  obtain ⟨p, q, hA0, hV, rfl, hfz, hnd⟩ := hW
  have hA : DataW.TrodAll enc Try.prog W 0 (fun _ => true) true Try.f7.params.toList args.toList ds p := hA0
  rw [Try.params7] at hA hval
  obtain ⟨v0, vs0, d0, ds0, p0, q0, hargs, rfl, rfl, h0, r0⟩ := trodAll_cons hA
  obtain ⟨rfl, rfl, rfl⟩ := trodAll_nil r0
  obtain rfl : args = #[v0] := by cases args; simp_all
  obtain ⟨rfl, rfl⟩ := trodVars_none hV
  have lt0 : ∀ x ∈ p0, x.block < W.heap.size := by obtain ⟨m, hm⟩ := h0; exact DataW.trod_lt m _ _ _ hm
  obtain ⟨i, rfl, ib⟩ := open_i64 (hval 0 3 v0 rfl rfl) h0
  clear hA0 hval0
  refine (walk i W).mono fun e W' ⟨he, bel⟩ => ?_
  subst he
  exact ⟨_, rfl, _, _, _, [], _, [], hW', trodAll_mk1 (shut_bool Try.underlying4 _), (trodAll_cons_mk (Below.trod laidOut (by kernel_rfl) (of_decide_eq_true (by kernel_rfl)) h0 bel lt0) trodAll_mk0), rfl, bel.frame _, fun h => by cases h⟩

theorem over : Rows.slotsNilRow.holds Try.pinned (OpenSpec.ofChange Rows.slotsNilSpec) :=
  OpenClaim.holds_of_wide 7 Try.f7 rfl rfl rfl rfl rfl rfl rfl ⟨rfl, rfl, rfl, rfl, rfl⟩ rfl rfl rfl rfl rfl (by kernel_rfl) Try.func7 (by kernel_rfl)
    (of_decide_eq_true (by kernel_rfl)) (by unfold Func.isWrapper; first | (rw [if_pos (by decide +kernel)]; kernel_rfl) | (rw [if_neg (by decide +kernel)]; exact ⟨rfl, rfl⟩))
    (fun os started H enc _ => lifted os started H enc)

theorem proved : Rows.SlotsNilSaid := over
#print axioms proved
end SlotsNil
theorem slotsNil_holds : Rows.SlotsNilSaid := SlotsNil.proved
end Go.Proofs.Ytcbijiielikfmaa
