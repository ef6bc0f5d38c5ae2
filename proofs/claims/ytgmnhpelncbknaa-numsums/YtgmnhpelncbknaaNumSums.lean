/- For every list of ints the law NumSums (P1.1) returns true at the landed code: the sum of many is told as the document tells it, and what is handed in stays. No condition. -/
import Derived.Test.YtgmnhpelncbknaaNumRefSum
import Derived.Test.YtgmnhpelncbknaaHeld
import Derived.Test.YtgmnhpelncbknaaHelpKept
namespace Go.Proofs.Ytgmnhpelncbknaa
namespace NumSums
open Go.ChangeShapes Go.WideShapes Go.ChangeAt Go.RowKit
set_option linter.unusedVariables false

theorem walk {a : Option Addr} {len cap : Nat} {zs : List Int} {w : World} (h : Sl w a len cap zs) :
    Calls Try.prog 4 #[.slice a len cap] w fun e w' => e = .returned (.bool true) ∧ Below w.heap.size w w' := by
  have H := hide h
  clear h
  go_enter Try.func4, Try.ntmps4
  go_wp2_with fail
  refine (own_sl 71 H.out).mono ?_
  rintro e w1 ⟨rfl, hb1, hown⟩
  have H1 := hide (sl_own H.out.length H.out.isInts H.out.room hown)
  have L1 := hide (H.out.below hb1)
  have B1 := hide hb1
  clear hb1 hown
  go_wp2_with fail
  refine (sum_sl H1.out.1).mono ?_
  rintro e w' ⟨rfl, rfl⟩
  go_wp2_with fail
  refine (refsum_sl L1.out).mono ?_
  rintro e w2 ⟨rfl, hb2⟩
  have B2 := hide (below_step B1.out hb2)
  have HB2 := hide hb2
  clear hb2
  go_wp2_with fail
  refine (awake_any _).mono ?_
  rintro e w' ⟨rfl, rfl⟩
  have hb3 : Below w'.heap.size w' (w2.alloc (.cells #[.int .i64 1, .int .i64 2] 34)) := HB2.out.alloc HB2.out.size _
  have k := hide (kept_sl 71 (H1.out.1.below hb3) (L1.out.below hb3) ((hb3.cell (World.block_lt_of_cell? w' _ H1.out.2.1)).trans H1.out.2.1) ((hb3.cell (World.block_lt_of_cell? w' _ H1.out.2.2)).trans H1.out.2.2))
  clear hb3
  go_wp2_with fail
  refine k.out.mono ?_
  rintro e w' ⟨rfl, n, rfl⟩
  go_wp2_with fail
  go_ret
  exact ⟨rfl, below_drewN (below_alloc B2.out _) _⟩

set_option maxRecDepth 100000 in
theorem lifted (os : Os) (started : os.Started) (H : Type) (enc : TypeId × Value → H) :
    ReturnsInHanded {} Try.checked os 4 .any (Rows.numSumsSpec.pre6 enc Try.prog Try.f4 Rows.numSumsRow.domain false) (Rows.numSumsSpec.post enc Try.prog Try.f4 false true false false) := by
  refine returnsInHanded_of_change_sized (C := Try.checked) own started (by kernel_rfl) Try.func4
    (ChangeSpec.witness6 (enc := enc) (C := Try.checked) false ⟨#[], #[.slice none 0 0], []⟩ 8 (by kernel_rfl) (by kernel_rfl) (by kernel_rfl) (by kernel_rfl)) ?_
  intro W base args ds gs before hval0 hW hcnd hsz0 _
  have hsz : (DataW.weightsEach Try.prog (Try.f4.params.toList ++ Rows.numSumsSpec.plain.varTypes Try.prog) (ds ++ gs)).all (· ≤ reachBytes) = true := hsz0
  have hval : ∀ (j : Nat) t v, Try.f4.params[j]? = some t → args[j]? = some v → Value.okWide Try.prog W .any base t v := hval0
  have hW' := hW
  obtain ⟨p, q, hA0, hV, rfl, hfz, hnd⟩ := hW
  have hA : DataW.TrodAll enc Try.prog W 0 (fun _ => true) true Try.f4.params.toList args.toList ds p := hA0
  rw [Try.params4] at hA hval hsz
  obtain ⟨v0, vs0, d0, ds0, p0, q0, hargs, rfl, rfl, h0, r0⟩ := trodAll_cons hA
  obtain ⟨rfl, rfl, rfl⟩ := trodAll_nil r0
  obtain rfl : args = #[v0] := by cases args; simp_all
  obtain ⟨rfl, rfl⟩ := trodVars_none hV
  have lt0 : ∀ x ∈ p0, x.block < W.heap.size := by obtain ⟨m, hm⟩ := h0; exact DataW.trod_lt m _ _ _ hm
  obtain ⟨a, len, cap, zs, rfl, h⟩ := open_sl_sized (hval 0 27 v0 rfl rfl) h0 (fun elems spare e => by have h := hsz; rw [e] at h; exact sized_slice h (j := 0) (t := 27) (e := 3) rfl rfl Try.underlying27)
  clear hA0 hval0
  refine (walk h).mono fun e W' ⟨he, bel⟩ => ?_
  subst he
  exact ⟨_, rfl, _, _, _, [], _, [], hW', trodAll_mk1 (shut_bool Try.underlying4 _), (trodAll_cons_mk (Below.trod laidOut (by kernel_rfl) (of_decide_eq_true (by kernel_rfl)) h0 bel lt0) trodAll_mk0), rfl, bel.frame _, fun h => by cases h⟩

theorem over : Rows.numSumsRow.holds Try.pinned (OpenSpec.ofChange Rows.numSumsSpec) :=
  OpenClaim.holds_of_wide 4 Try.f4 rfl rfl rfl rfl rfl rfl rfl ⟨rfl, rfl, rfl, rfl, rfl⟩ rfl rfl rfl rfl rfl (by kernel_rfl) Try.func4 (by kernel_rfl)
    (of_decide_eq_true (by kernel_rfl)) (by unfold Func.isWrapper; first | (rw [if_pos (by decide +kernel)]; kernel_rfl) | (rw [if_neg (by decide +kernel)]; exact ⟨rfl, rfl⟩))
    (fun os started H enc _ => lifted os started H enc)

theorem proved : Rows.NumSumsSaid := over
#print axioms proved
end NumSums
theorem numSums_holds : Rows.NumSumsSaid := NumSums.proved
end Go.Proofs.Ytgmnhpelncbknaa
