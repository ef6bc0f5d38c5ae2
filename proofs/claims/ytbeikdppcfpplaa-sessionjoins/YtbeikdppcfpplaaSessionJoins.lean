/- SessionJoins: what two tables are together is what the document says; what is handed in stays; no condition. -/
import Derived.Test.YtbeikdppcfpplaaSesHelp
import Derived.Test.YtbeikdppcfpplaaSesJoin
import Derived.Test.YtbeikdppcfpplaaSesRefJ
namespace Go.Proofs.Ytbeikdppcfpplaa
namespace SessionJoins
open Go.ChangeShapes Go.WideShapes Go.ChangeAt Go.RowKit Sn
set_option linter.unusedVariables false

set_option maxRecDepth 100000 in
set_option maxHeartbeats 1000000 in
theorem walk {w : World} {a a' : Option Addr} {n cp n' cp' : Nat} {l l' : List Mk} (h : Ms w a n l) (hno : a = none → cp = 0) (h' : Ms w a' n' l') (hno' : a' = none → cp' = 0) :
    Calls Try.prog 4 #[.slice a n cp, .slice a' n' cp'] w fun e w' => e = .returned (.bool true) ∧ Below w.heap.size w w' := by
  have H := hide h
  have H' := hide h'
  have N := hide hno
  have N' := hide hno'
  clear h h' hno hno'
  go_enter Try.func4, Try.ntmps4
  go_wp2_with fail
  refine (own_l H.out N.out).mono ?_
  rintro e w1 ⟨g1, rfl, hb1, ho1⟩
  have HB1 := hide hb1
  have HO1 := hide ho1
  clear hb1 ho1
  go_wp2_with fail
  refine (own_l (H'.out.below HB1.out) N'.out).mono ?_
  rintro e w2 ⟨g2, rfl, hb2, ho2⟩
  have HB2 : Hid (Below w.heap.size w w2) := HB1.out.trans (hb2.mono HB1.out.size)
  have HP2 : Hid (Below w1.heap.size w1 w2) := hb2
  have HO2 := hide ho2
  have HO12 := hide (HO1.out.below hb2)
  clear hb2 ho2
  go_wp2_with fail
  refine (join_any HO12.out.ms HO2.out.ms).mono ?_
  rintro e w3 ⟨a3, n3, c3, rfl, hm3, hb3⟩
  have HB3 : Hid (Below w.heap.size w w3) := HB2.out.trans (hb3.mono HB2.out.size)
  have HM3 := hide hm3
  have HQ1 := hide (HO12.out.below hb3)
  have HQ2 := hide (HO2.out.below hb3)
  clear hb3 hm3 HO1 HO12 HO2 HP2 HB1 HB2
  go_wp2_with fail
  refine (rjoin_any (H.out.below HB3.out) (H'.out.below HB3.out)).mono ?_
  rintro e w4 ⟨a4, n4, c4, rfl, hm4, hb4⟩
  have HB4 : Hid (Below w.heap.size w w4) := HB3.out.trans (hb4.mono HB3.out.size)
  have HM4 := hide hm4
  have HM34 := hide (HM3.out.below hb4)
  have HR1 := hide (HQ1.out.below hb4)
  have HR2 := hide (HQ2.out.below hb4)
  clear hb4 hm4 HQ1 HQ2 HM3 HB3
  go_wp2_with fail
  refine (awake_any _).mono ?_
  rintro e w5 ⟨rfl, hb5⟩
  have HB5 : Hid (Below w.heap.size w w5) := HB4.out.trans (hb5.mono HB4.out.size)
  have HM5 := hide (HM34.out.below hb5)
  have HM5' := hide (HM4.out.below hb5)
  have HS1 := hide (HR1.out.below hb5)
  have HS2 := hide (HR2.out.below hb5)
  clear hb5 HR1 HR2 HM34 HM4 HB4
  go_wp2_with fail
  refine (FnM.plain_any HM5.out HM5'.out).mono ?_
  rintro e w6 ⟨rfl, q, rfl⟩
  rw [decide_eq_true rfl]
  have HB6 : Hid (Below w.heap.size w (w5.drewN q)) := ⟨HB5.out.os, HB5.out.tape, HB5.out.output, HB5.out.size, HB5.out.block⟩
  have HT1 := hide (HS1.out.below (w' := w5.drewN q) ⟨rfl, rfl, rfl, Nat.le_refl _, fun _ _ => rfl⟩)
  have HT2 := hide (HS2.out.below (w' := w5.drewN q) ⟨rfl, rfl, rfl, Nat.le_refl _, fun _ _ => rfl⟩)
  obtain ⟨w6, e6⟩ : ∃ w6, w6 = w5.drewN q := ⟨_, rfl⟩
  rw [← e6] at HB6 HT1 HT2 ⊢
  clear e6 HS1 HS2 HM5 HM5' HB5
  go_wp2_with fail
  refine (kept_l (H.out.below HB6.out) HT1.out).mono ?_
  rintro e w7 ⟨rfl, hb7⟩
  have HB7 : Hid (Below w.heap.size w w7) := HB6.out.trans (hb7.mono HB6.out.size)
  have HU2 := hide (HT2.out.below hb7)
  clear hb7 HT1 HT2 HB6
  go_wp2_with fail
  refine (kept_l (H'.out.below HB7.out) HU2.out).mono ?_
  rintro e w8 ⟨rfl, hb8⟩
  have HB8 : Hid (Below w.heap.size w w8) := HB7.out.trans (hb8.mono HB7.out.size)
  clear hb8
  go_wp2_with fail
  go_returns
  exact ⟨by simp, HB8.out⟩

set_option maxRecDepth 100000 in
theorem lifted (os : Os) (started : os.Started) (H : Type) (enc : TypeId × Value → H) :
    ReturnsInHanded {} Try.checked os 4 .any (Rows.sessionJoinsSpec.pre6 enc Try.prog Try.f4 Rows.sessionJoinsRow.domain false) (Rows.sessionJoinsSpec.post enc Try.prog Try.f4 false true false false) := by
  refine returnsInHanded_of_change_sized (C := Try.checked) own started (by kernel_rfl) Try.func4
    (ChangeSpec.witness6 (enc := enc) (C := Try.checked) false ⟨#[], #[.slice none 0 0, .slice none 0 0], []⟩ 8 (by kernel_rfl) (by kernel_rfl) (by kernel_rfl) (by kernel_rfl)) ?_
  intro W base args ds gs before hval0 hW hcnd hsz0 _
  have hsz : (DataW.weightsEach Try.prog (Try.f4.params.toList ++ Rows.sessionJoinsSpec.plain.varTypes Try.prog) (ds ++ gs)).all (· ≤ reachBytes) = true := hsz0
  have hval : ∀ (j : Nat) t v, Try.f4.params[j]? = some t → args[j]? = some v → Value.okWide Try.prog W .any base t v := hval0
  have hW' := hW
  obtain ⟨p, q, hA0, hV, rfl, hfz, hnd⟩ := hW
  have hA : DataW.TrodAll enc Try.prog W 0 (fun _ => true) true Try.f4.params.toList args.toList ds p := hA0
  rw [Try.params4] at hA hval hsz
  obtain ⟨v0, vs0, d0, ds0, p0, q0, hargs, rfl, rfl, h0, r0⟩ := trodAll_cons hA
  obtain ⟨v1, vs1, d1, ds1, p1, q1, rfl, rfl, rfl, h1, r1⟩ := trodAll_cons r0
  obtain ⟨rfl, rfl, rfl⟩ := trodAll_nil r1
  obtain rfl : args = #[v0, v1] := by cases args; simp_all
  obtain ⟨rfl, rfl⟩ := trodVars_none hV
  have lt0 : ∀ x ∈ p0, x.block < W.heap.size := by obtain ⟨m, hm⟩ := h0; exact DataW.trod_lt m _ _ _ hm
  obtain ⟨a, n, cp, l, rfl, k0, o0⟩ := open_marks_held (hval 0 22 v0 rfl rfl) h0 (fun n hn => by have h := List.all_eq_true.1 hsz n (DataW.weights_mem_each (j := 0) rfl rfl n hn); simpa using h)
  have lt1 : ∀ x ∈ p1, x.block < W.heap.size := by obtain ⟨m, hm⟩ := h1; exact DataW.trod_lt m _ _ _ hm
  obtain ⟨a', n', cp', l', rfl, k1, o1⟩ := open_marks_held (hval 1 22 v1 rfl rfl) h1 (fun n hn => by have h := List.all_eq_true.1 hsz n (DataW.weights_mem_each (j := 1) rfl rfl n hn); simpa using h)
  clear hA0 hval0
  refine (walk k0 o0 k1 o1).mono fun e W' ⟨he, bel⟩ => ?_
  subst he
  exact ⟨_, rfl, _, _, _, [], _, [], hW', trodAll_mk1 (shut_bool Try.underlying4 _), (trodAll_cons_mk (Below.trod laidOut (by kernel_rfl) (of_decide_eq_true (by kernel_rfl)) h0 bel lt0) (trodAll_cons_mk (Below.trod laidOut (by kernel_rfl) (of_decide_eq_true (by kernel_rfl)) h1 bel lt1) trodAll_mk0)), rfl, bel.frame _, fun h => by cases h⟩

theorem over : Rows.sessionJoinsRow.holds Try.pinned (OpenSpec.ofChange Rows.sessionJoinsSpec) :=
  OpenClaim.holds_of_wide 4 Try.f4 rfl rfl rfl rfl rfl rfl rfl ⟨rfl, rfl, rfl, rfl, rfl⟩ rfl rfl rfl rfl rfl (by kernel_rfl) Try.func4 (by kernel_rfl)
    (of_decide_eq_true (by kernel_rfl)) (by unfold Func.isWrapper; first | (rw [if_pos (by decide +kernel)]; kernel_rfl) | (rw [if_neg (by decide +kernel)]; exact ⟨rfl, rfl⟩))
    (fun os started H enc _ => lifted os started H enc)

theorem proved : Rows.SessionJoinsSaid := over
#print axioms proved
end SessionJoins
theorem sessionJoins_holds : Rows.SessionJoinsSaid := SessionJoins.proved
end Go.Proofs.Ytbeikdppcfpplaa
