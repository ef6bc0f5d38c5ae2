/- For every int and every list of ints the law BallotCounts (P9.3) returns true at the landed code: majorities, and who is counted. No condition. -/
import Derived.Test.YtlcccaiahmbkpaaBallotOpen
import Derived.Test.YtlcccaiahmbkpaaBallotRefCount
namespace Go.Proofs.Ytlcccaiahmbkpaa
namespace BallotCounts
open Go.ChangeShapes Go.WideShapes Go.ChangeAt Go.RowKit I8
set_option linter.unusedVariables false

theorem walk {w : World} {a : Option Addr} {len cap : Nat} {zs : List Int} (nodes : Int) (h : Sq w a len cap zs) (hr : cap * 8 ≤ 140737488351232) :
    Calls Try.prog 4 #[.int .i64 nodes, .slice a len cap] w fun e w' => e = .returned (.bool true) ∧ Below w.heap.size w w' := by
  have HS := hide h
  have HR : Hid (len * 8 ≤ 140737488351232) := by have := h.lecap; show _ ≤ _; omega
  clear h hr
  go_enter Try.func4, Try.ntmps4
  go_wp2_with fail
  refine (awake_any _).mono ?_
  rintro e w1 ⟨rfl, hb1⟩
  have H1 := hide (HS.out.below hb1)
  have B1 := hide hb1
  clear hb1 HS
  go_wp2_with fail
  refine (quorum_any _ _).mono ?_
  rintro e w2 ⟨rfl, rfl⟩
  go_wp2_with fail
  refine (rquorum_any _ _).mono ?_
  rintro e w3 ⟨rfl, rfl⟩
  go_wp2_with fail
  refine (count_any nodes H1.out HR.out).mono ?_
  rintro e w4 ⟨rfl, hb4⟩
  have H4 := hide (H1.out.below hb4)
  have B4 := hide (below_step B1.out hb4)
  clear hb4 H1 B1
  go_wp2_with fail
  refine (rcount_any nodes H4.out HR.out).mono ?_
  rintro e w5 ⟨rfl, rfl⟩
  go_wp2_with fail
  refine (enough_any nodes H4.out HR.out).mono ?_
  rintro e w6 ⟨rfl, hb6⟩
  have H6 := hide (H4.out.below hb6)
  have B6 := hide (below_step B4.out hb6)
  clear hb6 H4 B4
  go_wp2_with fail
  refine (renough_any nodes H6.out HR.out).mono ?_
  rintro e w7 ⟨rfl, rfl⟩
  go_wp2_with fail
  go_ret
  exact ⟨rfl, B6.out⟩

set_option maxRecDepth 100000 in
theorem lifted (os : Os) (started : os.Started) (H : Type) (enc : TypeId × Value → H) :
    ReturnsInHanded {} Try.checked os 4 .any (Rows.ballotCountsSpec.pre6 enc Try.prog Try.f4 Rows.ballotCountsRow.domain false) (Rows.ballotCountsSpec.post enc Try.prog Try.f4 false true false false) := by
  refine returnsInHanded_of_change_sized (C := Try.checked) own started (by kernel_rfl) Try.func4
    (ChangeSpec.witness6 (enc := enc) (C := Try.checked) false ⟨#[], #[.int .i64 0, .slice none 0 0], []⟩ 8 (by kernel_rfl) (by kernel_rfl) (by kernel_rfl) (by kernel_rfl)) ?_
  intro W base args ds gs before hval0 hW hcnd hsz0 _
  have hsz : (DataW.weightsEach Try.prog (Try.f4.params.toList ++ Rows.ballotCountsSpec.plain.varTypes Try.prog) (ds ++ gs)).all (· ≤ reachBytes) = true := hsz0
  have hval : ∀ (j : Nat) t v, Try.f4.params[j]? = some t → args[j]? = some v → Value.okWide Try.prog W .any base t v := hval0
  have hW' := hW
  obtain ⟨p, q, hA0, hV, rfl, hfz, hnd⟩ := hW
  have hA : DataW.TrodAll enc Try.prog W 0 (fun _ => true) true Try.f4.params.toList args.toList ds p := hA0
  rw [Try.params4] at hA hval hsz
  obtain ⟨v0, vs0, d0, ds0, p0, q0, hargs, rfl, rfl, h0, r0⟩ := trodAll_cons hA
  obtain ⟨v1, vs1, d1, ds1, p1, q1, rfl, rfl, rfl, h1, r1⟩ := trodAll_cons r0
  obtain ⟨rfl, rfl, rfl⟩ := trodAll_nil r1
  obtain rfl : args = #[v0, v1] := by cases args; simp_all
  obtain ⟨rfl, rfl⟩ := trodVars_none hV
  have lt0 : ∀ x ∈ p0, x.block < W.heap.size := by obtain ⟨m, hm⟩ := h0; exact DataW.trod_lt m _ _ _ hm
  obtain ⟨nodes, rfl, ha⟩ := open_i64 (hval 0 3 v0 rfl rfl) h0
  have lt1 : ∀ x ∈ p1, x.block < W.heap.size := by obtain ⟨m, hm⟩ := h1; exact DataW.trod_lt m _ _ _ hm
  obtain ⟨a, len, cap, zs, rfl, ⟨hs, hc⟩⟩ := I8.open_sq_sized (hval 1 34 v1 rfl rfl) h1 (fun elems spare e => by have h := hsz; rw [e] at h; exact sized_slice h (j := 1) (t := 34) (e := 3) rfl rfl Try.underlying34)
  clear hA0 hval0
  refine (walk nodes hs hc).mono fun e W' ⟨he, bel⟩ => ?_
  subst he
  exact ⟨_, rfl, _, _, _, [], _, [], hW', trodAll_mk1 (shut_bool Try.underlying4 _), (trodAll_cons_mk (Below.trod laidOut (by kernel_rfl) (of_decide_eq_true (by kernel_rfl)) h0 bel lt0) (trodAll_cons_mk (Below.trod laidOut (by kernel_rfl) (of_decide_eq_true (by kernel_rfl)) h1 bel lt1) trodAll_mk0)), rfl, bel.frame _, fun h => by cases h⟩

theorem over : Rows.ballotCountsRow.holds Try.pinned (OpenSpec.ofChange Rows.ballotCountsSpec) :=
  OpenClaim.holds_of_wide 4 Try.f4 rfl rfl rfl rfl rfl rfl rfl ⟨rfl, rfl, rfl, rfl, rfl⟩ rfl rfl rfl rfl rfl (by kernel_rfl) Try.func4 (by kernel_rfl)
    (of_decide_eq_true (by kernel_rfl)) (by unfold Func.isWrapper; first | (rw [if_pos (by decide +kernel)]; kernel_rfl) | (rw [if_neg (by decide +kernel)]; exact ⟨rfl, rfl⟩))
    (fun os started H enc _ => lifted os started H enc)

theorem proved : Rows.BallotCountsSaid := over
#print axioms proved
end BallotCounts
theorem ballotCounts_holds : Rows.BallotCountsSaid := BallotCounts.proved
end Go.Proofs.Ytlcccaiahmbkpaa
