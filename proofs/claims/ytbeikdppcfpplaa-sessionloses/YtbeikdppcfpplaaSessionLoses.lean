/- SessionLoses: an open number that is lost may begin again, and nothing below it; no condition. -/
import Derived.Test.YtbeikdppcfpplaaSesHelp
import Derived.Test.YtbeikdppcfpplaaSesLawMath
namespace Go.Proofs.Ytbeikdppcfpplaa
namespace SessionLoses
open Go.ChangeShapes Go.WideShapes Go.ChangeAt Go.RowKit Sn
set_option linter.unusedVariables false

set_option maxRecDepth 100000 in
set_option maxHeartbeats 1000000 in
theorem walk {w : World} {a : Option Addr} {n cp : Nat} {l : List Mk} {c q u : Int} (h : Ms w a n l) (hno : a = none → cp = 0) :
    Calls Try.prog 6 #[.slice a n cp, .int .i64 c, .int .i64 q, .int .i64 u] w fun e w' => e = .returned (.bool true) ∧ Below w.heap.size w w' := by
  have H := hide h
  have N := hide hno
  clear h hno
  go_enter Try.func6, Try.ntmps6
  go_wp2_with fail
  refine (awake_any _).mono ?_
  rintro e w1 ⟨rfl, hb1⟩
  have HB1 := hide hb1
  clear hb1
  go_wp2_with fail
  refine (own_l (H.out.below HB1.out) N.out).mono ?_
  rintro e w2 ⟨g2, rfl, hb2, ho2⟩
  have HB2 : Hid (Below w.heap.size w w2) := HB1.out.trans (hb2.mono HB1.out.size)
  have HO2 := hide ho2
  clear hb2 ho2 HB1
  go_wp2_with fail
  refine (begin_any HO2.out.ms).mono ?_
  rintro e w3 ⟨a3, n3, c3, rfl, hm3, hb3⟩
  have HB3 : Hid (Below w.heap.size w w3) := HB2.out.trans (hb3.mono HB2.out.size)
  have HM3 := hide hm3
  clear hb3 hm3 HO2 HB2
  cases hf : beginF l c q with
  | false =>
    obtain ⟨r, er⟩ : ∃ r, r = beginE l c q := ⟨_, rfl⟩
    rw [← er]
    clear hf er
    by_cases hr : r = 0
    · subst hr
      go_wp2_with fail
      go_returns
      exact ⟨rfl, HB3.out⟩
    · have hr2 : (r != 0) = true := by simpa using hr
      go_wp2_with fail
      go_returns
      exact ⟨rfl, HB3.out⟩
  | true =>
    obtain ⟨e0, hR, hc, hq, eL, hmay⟩ := fresh_of hf
    rw [e0]
    have HR : Hid (Right l) := hR
    have HM := hide hmay
    have HC := hide hc
    have HQ := hide hq
    rw [eL] at HM3
    have hRb := right_with hR hmay
    have hlb : lkM (withL l (opened c q)) c = some (opened c q) := lk_with_same hR hmay
    have eo := openE_of hRb hlb
    have hmay2 : mayB ⟨c, q - 1, false, lost⟩ = true := may_ended lost hc ⟨by omega, by omega⟩
    have eLo : loseL (withL l (opened c q)) c q = withL l ⟨c, q - 1, false, lost⟩ := by
      unfold loseL
      rw [if_pos eo]
      exact with_with hR hmay hmay2 rfl
    have HRc : Hid (Right (withL l ⟨c, q - 1, false, lost⟩)) := right_with hR hmay2
    have hlc : lkM (withL l ⟨c, q - 1, false, lost⟩) c = some ⟨c, q - 1, false, lost⟩ := lk_with_same hR hmay2
    have B2 := begin_at HRc.out hc hq hlc
    have e2 : beginE (withL l ⟨c, q - 1, false, lost⟩) c q = 0 := by rw [B2.1]; simp only; rw [if_neg (by omega)]
    have e3 : beginF (withL l ⟨c, q - 1, false, lost⟩) c q = true := by rw [B2.2]; simp only; rw [decide_eq_true (by omega)]
    have e4 : beginL (withL l ⟨c, q - 1, false, lost⟩) c q = withL l (opened c q) := by
      rw [(fresh_of e3).2.2.2.2.1]
      exact with_with hR hmay2 hmay rfl
    have HF : Hid (beginF (withL l ⟨c, q - 1, false, lost⟩) c u = true → q ≤ u) := fun hh => by
      by_cases hu : q ≤ u
      · exact hu
      · rw [beginF_low hlc (by simp only; omega)] at hh
        cases hh
    have EO := hide eo
    have ELO := hide eLo
    have E2 := hide e2
    have E3 := hide e3
    have E4 := hide e4
    clear hf e0 hR hc hq eL hmay hRb hlb eo hmay2 eLo hlc B2 e2 e3 e4 HR HM HC HQ HRc
    go_wp2_with fail
    refine (lose_any HM3.out).mono ?_
    rintro e w4 ⟨a4, n4, c4, rfl, hm4, hb4⟩
    rw [EO.out]
    rw [ELO.out] at hm4
    have HB4 : Hid (Below w.heap.size w w4) := HB3.out.trans (hb4.mono HB3.out.size)
    have HM4 := hide hm4
    have HM34 := hide (HM3.out.below hb4)
    clear hb4 hm4 EO ELO HM3 HB3
    go_wp2_with fail
    refine (begin_any HM4.out).mono ?_
    rintro e w5 ⟨a5, n5, c5, rfl, hm5, hb5⟩
    rw [E2.out, E3.out]
    rw [E4.out] at hm5
    have HB5 : Hid (Below w.heap.size w w5) := HB4.out.trans (hb5.mono HB4.out.size)
    have HM5 := hide hm5
    have HM45 := hide (HM4.out.below hb5)
    have HM35 := hide (HM34.out.below hb5)
    clear hb5 hm5 E2 E3 E4 HM4 HM34 HB4
    go_wp2_with fail
    refine (FnM.plain_any HM5.out HM35.out).mono ?_
    rintro e w6 ⟨rfl, qq, rfl⟩
    rw [decide_eq_true rfl]
    have HB6 : Hid (Below w.heap.size w (w5.drewN qq)) := ⟨HB5.out.os, HB5.out.tape, HB5.out.output, HB5.out.size, HB5.out.block⟩
    have HM6 := hide (HM45.out.drew qq)
    clear HM5 HM35 HM45 HB5
    go_wp2_with fail
    refine (begin_any HM6.out).mono ?_
    rintro e w7 ⟨a7, n7, c7, rfl, hm7, hb7⟩
    have HB7 : Hid (Below w.heap.size w w7) := HB6.out.trans (hb7.mono HB6.out.size)
    clear hb7 hm7 HM6 HB6
    generalize beginF (withL l ⟨c, q - 1, false, lost⟩) c u = b at HF
    generalize beginE (withL l ⟨c, q - 1, false, lost⟩) c u = ee
    cases b
    · go_wp2_with fail
      go_returns
      exact ⟨rfl, HB7.out⟩
    · have hqu := HF.out rfl
      go_wp2_with fail
      go_returns
      exact ⟨by simp, HB7.out⟩

set_option maxRecDepth 100000 in
theorem lifted (os : Os) (started : os.Started) (H : Type) (enc : TypeId × Value → H) :
    ReturnsInHanded {} Try.checked os 6 .any (Rows.sessionLosesSpec.pre6 enc Try.prog Try.f6 Rows.sessionLosesRow.domain false) (Rows.sessionLosesSpec.post enc Try.prog Try.f6 false true false false) := by
  refine returnsInHanded_of_change_sized (C := Try.checked) own started (by kernel_rfl) Try.func6
    (ChangeSpec.witness6 (enc := enc) (C := Try.checked) false ⟨#[], #[.slice none 0 0, .int .i64 0, .int .i64 0, .int .i64 0], []⟩ 8 (by kernel_rfl) (by kernel_rfl) (by kernel_rfl) (by kernel_rfl)) ?_
  intro W base args ds gs before hval0 hW hcnd hsz0 _
  have hsz : (DataW.weightsEach Try.prog (Try.f6.params.toList ++ Rows.sessionLosesSpec.plain.varTypes Try.prog) (ds ++ gs)).all (· ≤ reachBytes) = true := hsz0
  have hval : ∀ (j : Nat) t v, Try.f6.params[j]? = some t → args[j]? = some v → Value.okWide Try.prog W .any base t v := hval0
  have hW' := hW
  obtain ⟨p, q, hA0, hV, rfl, hfz, hnd⟩ := hW
  have hA : DataW.TrodAll enc Try.prog W 0 (fun _ => true) true Try.f6.params.toList args.toList ds p := hA0
  rw [Try.params6] at hA hval hsz
  obtain ⟨v0, vs0, d0, ds0, p0, q0, hargs, rfl, rfl, h0, r0⟩ := trodAll_cons hA
  obtain ⟨v1, vs1, d1, ds1, p1, q1, rfl, rfl, rfl, h1, r1⟩ := trodAll_cons r0
  obtain ⟨v2, vs2, d2, ds2, p2, q2, rfl, rfl, rfl, h2, r2⟩ := trodAll_cons r1
  obtain ⟨v3, vs3, d3, ds3, p3, q3, rfl, rfl, rfl, h3, r3⟩ := trodAll_cons r2
  obtain ⟨rfl, rfl, rfl⟩ := trodAll_nil r3
  obtain rfl : args = #[v0, v1, v2, v3] := by cases args; simp_all
  obtain ⟨rfl, rfl⟩ := trodVars_none hV
  have lt0 : ∀ x ∈ p0, x.block < W.heap.size := by obtain ⟨m, hm⟩ := h0; exact DataW.trod_lt m _ _ _ hm
  obtain ⟨a, n, cp, l, rfl, k0, o0⟩ := open_marks_held (hval 0 22 v0 rfl rfl) h0 (fun n hn => by have h := List.all_eq_true.1 hsz n (DataW.weights_mem_each (j := 0) rfl rfl n hn); simpa using h)
  have lt1 : ∀ x ∈ p1, x.block < W.heap.size := by obtain ⟨m, hm⟩ := h1; exact DataW.trod_lt m _ _ _ hm
  obtain ⟨c, rfl, hc⟩ := open_i64 (hval 1 3 v1 rfl rfl) h1
  have lt2 : ∀ x ∈ p2, x.block < W.heap.size := by obtain ⟨m, hm⟩ := h2; exact DataW.trod_lt m _ _ _ hm
  obtain ⟨q, rfl, hq⟩ := open_i64 (hval 2 3 v2 rfl rfl) h2
  have lt3 : ∀ x ∈ p3, x.block < W.heap.size := by obtain ⟨m, hm⟩ := h3; exact DataW.trod_lt m _ _ _ hm
  obtain ⟨u, rfl, hu⟩ := open_i64 (hval 3 3 v3 rfl rfl) h3
  clear hA0 hval0
  refine (walk k0 o0).mono fun e W' ⟨he, bel⟩ => ?_
  subst he
  exact ⟨_, rfl, _, _, _, [], _, [], hW', trodAll_mk1 (shut_bool Try.underlying4 _), (trodAll_cons_mk (Below.trod laidOut (by kernel_rfl) (of_decide_eq_true (by kernel_rfl)) h0 bel lt0) (trodAll_cons_mk (Below.trod laidOut (by kernel_rfl) (of_decide_eq_true (by kernel_rfl)) h1 bel lt1) (trodAll_cons_mk (Below.trod laidOut (by kernel_rfl) (of_decide_eq_true (by kernel_rfl)) h2 bel lt2) (trodAll_cons_mk (Below.trod laidOut (by kernel_rfl) (of_decide_eq_true (by kernel_rfl)) h3 bel lt3) trodAll_mk0)))), rfl, bel.frame _, fun h => by cases h⟩

theorem over : Rows.sessionLosesRow.holds Try.pinned (OpenSpec.ofChange Rows.sessionLosesSpec) :=
  OpenClaim.holds_of_wide 6 Try.f6 rfl rfl rfl rfl rfl rfl rfl ⟨rfl, rfl, rfl, rfl, rfl⟩ rfl rfl rfl rfl rfl (by kernel_rfl) Try.func6 (by kernel_rfl)
    (of_decide_eq_true (by kernel_rfl)) (by unfold Func.isWrapper; first | (rw [if_pos (by decide +kernel)]; kernel_rfl) | (rw [if_neg (by decide +kernel)]; exact ⟨rfl, rfl⟩))
    (fun os started H enc _ => lifted os started H enc)

theorem proved : Rows.SessionLosesSaid := over
#print axioms proved
end SessionLoses
theorem sessionLoses_holds : Rows.SessionLosesSaid := SessionLoses.proved
end Go.Proofs.Ytbeikdppcfpplaa
