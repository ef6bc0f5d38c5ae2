/- RangesMoves: Split and Merge answer as the document's, and leave what they were handed; no condition. -/
import Derived.Test.YthfjndlmihepbaaRgAwake
import Derived.Test.YthfjndlmihepbaaRgMerge
import Derived.Test.YthfjndlmihepbaaRgRefSplit
import Derived.Test.YthfjndlmihepbaaRgHelp
namespace Go.Proofs.Ythfjndlmihepbaa
namespace RangesMoves
open Go.ChangeShapes Go.WideShapes Go.ChangeAt Go.RowKit Rg
set_option linter.unusedVariables false

set_option maxRecDepth 100000 in
set_option maxHeartbeats 4000000 in
theorem walk {w : World} {a : Option Addr} {n c : Nat} {l : List Pc} {key : ByteArray} {g i : Int} (h : Ps w a n l) (hcp : Cp a n c) (hi : I64 i) :
    Calls Try.prog 4 #[.slice a n c, .string key, .int .i64 g, .int .i64 i] w fun e w' => e = .returned (.bool true) ∧ Below w.heap.size w w' := by
  have H := hide h
  have CW := hide (pown_any h hcp)
  have CS := fun W hb => hide (rsplit_any (c := c) (H.out.below (w' := W) hb) key g)
  have CM := fun W hb => hide (rmerge_any (c := c) (H.out.below (w' := W) hb) i hi)
  have HI := hide hi
  clear h hcp hi
  go_enter Try.func4, Try.ntmps4
  go_wp2_with fail
  refine CW.out.mono ?_
  rintro e w1 ⟨b, rfl, hb1, ho1⟩
  have HB1 := hide hb1
  have HO1 := hide ho1
  have D1 := hide (split_any ho1.ps cp_own key g)
  clear CW hb1 ho1
  generalize splitL l key g = L1 at CS D1
  generalize splitE l key g = E1 at CS D1
  go_wp2_with fail
  refine D1.out.mono ?_
  rintro e w2 ⟨a2, n2, c2, rfl, hp2, hb2, _⟩
  have HP2 := hide hp2
  have HO2 := hide (HO1.out.below hb2)
  have HB2 : Hid (Below w.heap.size w w2) := HB1.out.trans (hb2.mono HB1.out.size)
  have D2 := CS _ HB2.out
  clear D1 CS hp2 hb2 HO1 HB1
  go_wp2_with fail
  refine D2.out.mono ?_
  rintro e w3 ⟨a3, n3, c3, rfl, hp3, hb3, _⟩
  have HP2 := hide (HP2.out.below hb3)
  have HP3 := hide hp3
  have HO3 := hide (HO2.out.below hb3)
  have HB3 : Hid (Below w.heap.size w w3) := HB2.out.trans (hb3.mono HB2.out.size)
  have D3 := hide (merge_any HO3.out.ps cp_own i HI.out)
  clear D2 hp3 hb3 HO2 HB2
  generalize mergeL l i = L2 at CM D3
  generalize mergeE l i = E2 at CM D3
  go_wp2_with fail
  refine D3.out.mono ?_
  rintro e w4 ⟨a4, n4, c4, rfl, hp4, hb4, _⟩
  have HP2 := hide (HP2.out.below hb4)
  have HP3 := hide (HP3.out.below hb4)
  have HP4 := hide hp4
  have HO4 := hide (HO3.out.below hb4)
  have HB4 : Hid (Below w.heap.size w w4) := HB3.out.trans (hb4.mono HB3.out.size)
  have D4 := CM _ HB4.out
  clear D3 CM hp4 hb4 HO3 HB3
  go_wp2_with fail
  refine D4.out.mono ?_
  rintro e w5 ⟨a5, n5, c5, rfl, hp5, hb5, _⟩
  have HP2 := hide (HP2.out.below hb5)
  have HP3 := hide (HP3.out.below hb5)
  have HP4 := hide (HP4.out.below hb5)
  have HP5 := hide hp5
  have HO5 := hide (HO4.out.below hb5)
  have HB5 : Hid (Below w.heap.size w w5) := HB4.out.trans (hb5.mono HB4.out.size)
  have D5 := hide (awake_any w5)
  clear D4 hp5 hb5 HO4 HB4
  go_wp2_with fail
  refine D5.out.mono ?_
  rintro e w6 ⟨rfl, hb6⟩
  have HP4 := hide (HP4.out.below hb6)
  have HP5 := hide (HP5.out.below hb6)
  have HO6 := hide (HO5.out.below hb6)
  have HB6 : Hid (Below w.heap.size w w6) := HB5.out.trans (hb6.mono HB5.out.size)
  have D6 := hide (pplain_yes (c := c2) (c' := c3) (HP2.out.below hb6) (HP3.out.below hb6) rfl)
  clear D5 hb6 HO5 HB5 HP2 HP3
  go_wp2_with fail
  refine D6.out.mono ?_
  rintro e w7 ⟨rfl, hb7⟩
  have HO7 := hide (HO6.out.below hb7)
  have HB7 : Hid (Below w.heap.size w w7) := HB6.out.trans (hb7.mono HB6.out.size)
  have D7 := hide (pplain_yes (c := c4) (c' := c5) (HP4.out.below hb7) (HP5.out.below hb7) rfl)
  clear D6 hb7 HO6 HB6 HP4 HP5
  go_wp2_with fail
  refine D7.out.mono ?_
  rintro e w8 ⟨rfl, hb8⟩
  have HB8 : Hid (Below w.heap.size w w8) := HB7.out.trans (hb8.mono HB7.out.size)
  have D8 := hide (pkept_any (cap := c) (H.out.below HB8.out) (HO7.out.below hb8))
  clear D7 hb8 HO7 HB7
  go_wp2_with fail
  refine D8.out.mono ?_
  rintro e w9 ⟨rfl, hb9⟩
  have HB9 : Hid (Below w.heap.size w w9) := HB8.out.trans (hb9.mono HB8.out.size)
  clear D8 hb9 HB8
  go_wp2_with fail
  go_returns
  exact ⟨rfl, HB9.out⟩

set_option maxRecDepth 100000 in
theorem lifted (os : Os) (started : os.Started) (H : Type) (enc : TypeId × Value → H) :
    ReturnsInHanded {} Try.checked os 4 .any (Rows.rangesMovesSpec.pre6 enc Try.prog Try.f4 Rows.rangesMovesRow.domain false) (Rows.rangesMovesSpec.post enc Try.prog Try.f4 false true false false) := by
  refine returnsInHanded_of_change_sized (C := Try.checked) own started (by kernel_rfl) Try.func4
    (ChangeSpec.witness6 (enc := enc) (C := Try.checked) false ⟨#[], #[.slice none 0 0, .string ByteArray.empty, .int .i64 0, .int .i64 0], []⟩ 8 (by kernel_rfl) (by kernel_rfl) (by kernel_rfl) (by kernel_rfl)) ?_
  intro W base args ds gs before hval0 hW hcnd hsz0 _
  have hsz : (DataW.weightsEach Try.prog (Try.f4.params.toList ++ Rows.rangesMovesSpec.plain.varTypes Try.prog) (ds ++ gs)).all (· ≤ reachBytes) = true := hsz0
  have hval : ∀ (j : Nat) t v, Try.f4.params[j]? = some t → args[j]? = some v → Value.okWide Try.prog W .any base t v := hval0
  have hW' := hW
  obtain ⟨p, q, hA0, hV, rfl, hfz, hnd⟩ := hW
  have hA : DataW.TrodAll enc Try.prog W 0 (fun _ => true) true Try.f4.params.toList args.toList ds p := hA0
  rw [Try.params4] at hA hval hsz
  obtain ⟨v0, vs0, d0, ds0, p0, q0, hargs, rfl, rfl, h0, r0⟩ := trodAll_cons hA
  obtain ⟨v1, vs1, d1, ds1, p1, q1, rfl, rfl, rfl, h1, r1⟩ := trodAll_cons r0
  obtain ⟨v2, vs2, d2, ds2, p2, q2, rfl, rfl, rfl, h2, r2⟩ := trodAll_cons r1
  obtain ⟨v3, vs3, d3, ds3, p3, q3, rfl, rfl, rfl, h3, r3⟩ := trodAll_cons r2
  obtain ⟨rfl, rfl, rfl⟩ := trodAll_nil r3
  obtain rfl : args = #[v0, v1, v2, v3] := by cases args; simp_all
  obtain ⟨rfl, rfl⟩ := trodVars_none hV
  have lt0 : ∀ x ∈ p0, x.block < W.heap.size := by obtain ⟨m, hm⟩ := h0; exact DataW.trod_lt m _ _ _ hm
  obtain ⟨a, n, c, l, rfl, k0, kw0, kc0, kq0⟩ := open_places_held (hval 0 22 v0 rfl rfl) h0 (fun n hn => by have h := List.all_eq_true.1 hsz n (DataW.weights_mem_each (j := 0) rfl rfl n hn); simpa using h)
  have lt1 : ∀ x ∈ p1, x.block < W.heap.size := by obtain ⟨m, hm⟩ := h1; exact DataW.trod_lt m _ _ _ hm
  obtain ⟨key, rfl, kk⟩ := open_str (hval 1 9 v1 rfl rfl) h1
  have lt2 : ∀ x ∈ p2, x.block < W.heap.size := by obtain ⟨m, hm⟩ := h2; exact DataW.trod_lt m _ _ _ hm
  obtain ⟨g, rfl, hg⟩ := open_i64 (hval 2 3 v2 rfl rfl) h2
  have lt3 : ∀ x ∈ p3, x.block < W.heap.size := by obtain ⟨m, hm⟩ := h3; exact DataW.trod_lt m _ _ _ hm
  obtain ⟨i, rfl, hi⟩ := open_i64 (hval 3 3 v3 rfl rfl) h3
  clear hA0 hval0
  refine (walk k0 kc0 hi).mono fun e W' ⟨he, bel⟩ => ?_
  subst he
  exact ⟨_, rfl, _, _, _, [], _, [], hW', trodAll_mk1 (shut_bool Try.underlying4 _), (trodAll_cons_mk (Below.trod laidOut (by kernel_rfl) (of_decide_eq_true (by kernel_rfl)) h0 bel lt0) (trodAll_cons_mk (Below.trod laidOut (by kernel_rfl) (of_decide_eq_true (by kernel_rfl)) h1 bel lt1) (trodAll_cons_mk (Below.trod laidOut (by kernel_rfl) (of_decide_eq_true (by kernel_rfl)) h2 bel lt2) (trodAll_cons_mk (Below.trod laidOut (by kernel_rfl) (of_decide_eq_true (by kernel_rfl)) h3 bel lt3) trodAll_mk0)))), rfl, bel.frame _, fun h => by cases h⟩

theorem over : Rows.rangesMovesRow.holds Try.pinned (OpenSpec.ofChange Rows.rangesMovesSpec) :=
  OpenClaim.holds_of_wide 4 Try.f4 rfl rfl rfl rfl rfl rfl rfl ⟨rfl, rfl, rfl, rfl, rfl⟩ rfl rfl rfl rfl rfl (by kernel_rfl) Try.func4 (by kernel_rfl)
    (of_decide_eq_true (by kernel_rfl)) (by unfold Func.isWrapper; first | (rw [if_pos (by decide +kernel)]; kernel_rfl) | (rw [if_neg (by decide +kernel)]; exact ⟨rfl, rfl⟩))
    (fun os started H enc _ => lifted os started H enc)

theorem proved : Rows.RangesMovesSaid := over
#print axioms proved
end RangesMoves
theorem rangesMoves_holds : Rows.RangesMovesSaid := RangesMoves.proved
end Go.Proofs.Ythfjndlmihepbaa
