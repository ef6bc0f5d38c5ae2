/- AccountAdds: what is added can be taken away again; more than the room is refused, and just the room is not; no condition. -/
import Derived.Test.YtfolpnjndlklkaaAcoX
import Derived.Laws.Tables
namespace Go.Proofs.Ytfolpnjndlklkaa
namespace AccountAdds
open Go.ChangeShapes Go.WideShapes Go.ChangeAt Go.RowKit Ao
set_option linter.unusedVariables false

set_option maxRecDepth 100000 in
set_option maxHeartbeats 2000000 in
theorem walk {w : World} {a : Option Addr} {n c : Nat} {A : Ac} {v : Int} (h : Hs w a n A.hs) (hw : AcW A) (hv : I64 v) :
    Calls Try.prog 7 #[acval A a n c, .int .i64 v] w fun e w' => e = .returned (.bool true) ∧ Below w.heap.size w w' := by
  have H := hide h
  have HW := hide hw
  have HV := hide hv
  obtain ⟨d, ed⟩ : ∃ d, d = downR A := ⟨_, rfl⟩
  obtain ⟨u, eu⟩ : ∃ u, u = upR A := ⟨_, rfl⟩
  obtain ⟨B, eB⟩ : ∃ B, B = addA A v := ⟨_, rfl⟩
  have ED := hide ed.symm
  have EU := hide eu.symm
  have EB := hide eB.symm
  have hwB : AcW B := by rw [eB]; exact acw_add hw
  have HWB := hide hwB
  by_cases he : addE A v = 0
  · have hk := add_back he
    rw [← eB] at hk
    obtain ⟨hr, hn, hl, _⟩ := add_ok he
    have EE := hide he
    have kb : IntKind.i64.wrap (B.base - v) = A.base := by
      have := hw.base
      have := hk.2.2
      rw [IntKind.wrap_i64]; unfold I64 at *; omega
    have KB := hide kb
    by_cases hm : v = -9223372036854775808
    · have km : IntKind.i64.wrap (-v) = v := by rw [hm]; decide
      have KM := hide km
      obtain ⟨D, eD⟩ : ∃ D, D = addA B v := ⟨_, rfl⟩
      have ED2 := hide eD.symm
      obtain ⟨E2, eE2⟩ : ∃ E2, E2 = addE B v := ⟨_, rfl⟩
      have EE2 := hide eE2.symm
      have HN : Hid (¬ v = 0) := hn
      clear h hw hv ed eu eB hwB he hk hr hn hl kb hm km eD eE2
      unfold acval
      go_enter Try.func7, Try.ntmps7
      go_wp2_with fail
      obtain ⟨w1, ew, hb1, ha1⟩ := one_new w A a n c
      rw [← ew]
      have HB1 := hide hb1
      have HA := hide ha1
      have H := hide (H.out.below hb1)
      clear hb1 ha1 ew
      have HL : Hid (w.heap.size < w1.heap.size) := HA.out.lt
      refine (awake_any _).mono ?_
      rintro e w2 ⟨rfl, hb⟩
      have HB2 : Hid (Below w.heap.size w w2) := HB1.out.trans (hb.mono HB1.out.size)
      have H := hide (H.out.below hb)
      have HA := hide (HA.out.below hb)
      clear hb
      obtain ⟨z0, z1, z2, z3, z4, z5, z6, z7, z8, z9⟩ := HA.out.at_
      have zl : w.heap.size < w2.heap.size := HA.out.lt
      go_wp2_with fail
      clear z0 z1 z2 z3 z4 z5 z6 z7 z8 z9 zl
      refine (room_x H.out HW.out ED.out EU.out).mono ?_
      rintro e w3 ⟨rfl, hb⟩
      have HB3 : Hid (Below w.heap.size w w3) := HB2.out.trans (hb.mono HB2.out.size)
      have H := hide (H.out.below hb)
      have HA := hide (HA.out.below hb)
      clear hb
      obtain ⟨z0, z1, z2, z3, z4, z5, z6, z7, z8, z9⟩ := HA.out.at_
      have zl : w.heap.size < w3.heap.size := HA.out.lt
      go_wp2_with fail
      clear z0 z1 z2 z3 z4 z5 z6 z7 z8 z9 zl
      refine (add_x H.out HW.out HV.out EB.out EE.out).mono ?_
      rintro e w4 ⟨a2, n2, c2, rfl, hh, hb, _, hc⟩
      have HB4 : Hid (Below w.heap.size w w4) := HB3.out.trans (hb.mono HB3.out.size)
      have H := hide (H.out.below hb)
      have HA := hide (HA.out.below hb)
      have HH := hide hh
      clear hb hh
      clear hc
      have km := KM.out
      obtain ⟨z0, z1, z2, z3, z4, z5, z6, z7, z8, z9⟩ := HA.out.at_
      have zl : w.heap.size < w4.heap.size := HA.out.lt
      go_wp2_with fail
      clear z0 z1 z2 z3 z4 z5 z6 z7 z8 z9 zl
      obtain ⟨w5, ew, hbu, hau⟩ := one_new w4 B a2 n2 c2
      rw [← ew]
      have HB5 : Hid (Below w.heap.size w w5) := HB4.out.trans (hbu.mono HB4.out.size)
      have H := hide (H.out.below hbu)
      have HH := hide (HH.out.below hbu)
      have HA := hide (HA.out.below hbu)
      obtain ⟨q1, eq⟩ : ∃ q1, q1 = w4.heap.size := ⟨_, rfl⟩
      rw [← eq] at hau
      try rw [← eq]
      have HX := hide hau
      clear ew hbu hau eq
      refine (add_x HH.out HWB.out HV.out ED2.out EE2.out).mono ?_
      rintro e w6 ⟨a3, n3, c3, rfl, hh, hb, _, hc⟩
      have HB6 : Hid (Below w.heap.size w w6) := HB5.out.trans (hb.mono HB5.out.size)
      have H := hide (H.out.below hb)
      have HH := hide (HH.out.below hb)
      have HA := hide (HA.out.below hb)
      have HX := hide (HX.out.below hb)
      have HD := hide hh
      clear hb hh
      clear hc
      have hn := HN.out
      have kb := KB.out
      obtain ⟨z0, z1, z2, z3, z4, z5, z6, z7, z8, z9⟩ := HA.out.at_
      have zl : w.heap.size < w6.heap.size := HA.out.lt
      obtain ⟨y0, y1, y2, y3, y4, y5, y6, y7, y8, y9⟩ := HX.out.at_
      have yl : q1 < w6.heap.size := HX.out.lt
      go_wp2_with fail
      clear z0 z1 z2 z3 z4 z5 z6 z7 z8 z9 zl y0 y1 y2 y3 y4 y5 y6 y7 y8 y9 yl
      go_returns
      exact ⟨by simp [hn], HB6.out.alloc HB6.out.size _⟩
    · have km : IntKind.i64.wrap (-v) = -v := by unfold I64 at hv; rw [IntKind.wrap_i64]; omega
      obtain ⟨m, em⟩ : ∃ m, m = -v := ⟨_, rfl⟩
      have KM : Hid (IntKind.i64.wrap (-v) = m) := by show _ = _; rw [em]; exact km
      rw [← em] at hk
      have HVM : Hid (I64 m) := by show I64 m; unfold I64 at *; omega
      have hvm : ¬ v = m := by omega
      have HNM := hide hvm
      have EA := hide hk.2.1
      have EE2 := hide hk.1
      clear h hw hv ed eu eB hwB he hr hn hl kb hm km em hvm hk
      unfold acval
      go_enter Try.func7, Try.ntmps7
      go_wp2_with fail
      obtain ⟨w1, ew, hb1, ha1⟩ := one_new w A a n c
      rw [← ew]
      have HB1 := hide hb1
      have HA := hide ha1
      have H := hide (H.out.below hb1)
      clear hb1 ha1 ew
      have HL : Hid (w.heap.size < w1.heap.size) := HA.out.lt
      refine (awake_any _).mono ?_
      rintro e w2 ⟨rfl, hb⟩
      have HB2 : Hid (Below w.heap.size w w2) := HB1.out.trans (hb.mono HB1.out.size)
      have H := hide (H.out.below hb)
      have HA := hide (HA.out.below hb)
      clear hb
      obtain ⟨z0, z1, z2, z3, z4, z5, z6, z7, z8, z9⟩ := HA.out.at_
      have zl : w.heap.size < w2.heap.size := HA.out.lt
      go_wp2_with fail
      clear z0 z1 z2 z3 z4 z5 z6 z7 z8 z9 zl
      refine (room_x H.out HW.out ED.out EU.out).mono ?_
      rintro e w3 ⟨rfl, hb⟩
      have HB3 : Hid (Below w.heap.size w w3) := HB2.out.trans (hb.mono HB2.out.size)
      have H := hide (H.out.below hb)
      have HA := hide (HA.out.below hb)
      clear hb
      obtain ⟨z0, z1, z2, z3, z4, z5, z6, z7, z8, z9⟩ := HA.out.at_
      have zl : w.heap.size < w3.heap.size := HA.out.lt
      go_wp2_with fail
      clear z0 z1 z2 z3 z4 z5 z6 z7 z8 z9 zl
      refine (add_x H.out HW.out HV.out EB.out EE.out).mono ?_
      rintro e w4 ⟨a2, n2, c2, rfl, hh, hb, _, hc⟩
      have HB4 : Hid (Below w.heap.size w w4) := HB3.out.trans (hb.mono HB3.out.size)
      have H := hide (H.out.below hb)
      have HA := hide (HA.out.below hb)
      have HH := hide hh
      clear hb hh
      clear hc
      have km := KM.out
      obtain ⟨z0, z1, z2, z3, z4, z5, z6, z7, z8, z9⟩ := HA.out.at_
      have zl : w.heap.size < w4.heap.size := HA.out.lt
      go_wp2_with fail
      clear z0 z1 z2 z3 z4 z5 z6 z7 z8 z9 zl
      obtain ⟨w5, ew, hbu, hau⟩ := one_new w4 B a2 n2 c2
      rw [← ew]
      have HB5 : Hid (Below w.heap.size w w5) := HB4.out.trans (hbu.mono HB4.out.size)
      have H := hide (H.out.below hbu)
      have HH := hide (HH.out.below hbu)
      have HA := hide (HA.out.below hbu)
      obtain ⟨q1, eq⟩ : ∃ q1, q1 = w4.heap.size := ⟨_, rfl⟩
      rw [← eq] at hau
      try rw [← eq]
      have HX := hide hau
      clear ew hbu hau eq
      refine (add_x HH.out HWB.out HVM.out EA.out EE2.out).mono ?_
      rintro e w6 ⟨a3, n3, c3, rfl, hh, hb, _, hc⟩
      have HB6 : Hid (Below w.heap.size w w6) := HB5.out.trans (hb.mono HB5.out.size)
      have H := hide (H.out.below hb)
      have HH := hide (HH.out.below hb)
      have HA := hide (HA.out.below hb)
      have HX := hide (HX.out.below hb)
      have HD := hide hh
      clear hb hh
      clear hc
      have hvm := HNM.out
      obtain ⟨z0, z1, z2, z3, z4, z5, z6, z7, z8, z9⟩ := HA.out.at_
      have zl : w.heap.size < w6.heap.size := HA.out.lt
      go_wp2_with fail
      clear z0 z1 z2 z3 z4 z5 z6 z7 z8 z9 zl
      obtain ⟨w7, ew, hbu, hau⟩ := one_new w6 A a3 n3 c3
      rw [← ew]
      have HB7 : Hid (Below w.heap.size w w7) := HB6.out.trans (hbu.mono HB6.out.size)
      have H := hide (H.out.below hbu)
      have HH := hide (HH.out.below hbu)
      have HD := hide (HD.out.below hbu)
      have HA := hide (HA.out.below hbu)
      have HX := hide (HX.out.below hbu)
      obtain ⟨q2, eq⟩ : ∃ q2, q2 = w6.heap.size := ⟨_, rfl⟩
      rw [← eq] at hau
      try rw [← eq]
      have HY := hide hau
      clear ew hbu hau eq
      refine (same_x HD.out H.out rfl).mono ?_
      rintro e w8 ⟨rfl, hb⟩
      have HB8 : Hid (Below w.heap.size w w8) := HB7.out.trans (hb.mono HB7.out.size)
      have H := hide (H.out.below hb)
      have HH := hide (HH.out.below hb)
      have HD := hide (HD.out.below hb)
      have HA := hide (HA.out.below hb)
      have HX := hide (HX.out.below hb)
      have HY := hide (HY.out.below hb)
      clear hb
      have kb := KB.out
      obtain ⟨z0, z1, z2, z3, z4, z5, z6, z7, z8, z9⟩ := HA.out.at_
      have zl : w.heap.size < w8.heap.size := HA.out.lt
      obtain ⟨y0, y1, y2, y3, y4, y5, y6, y7, y8, y9⟩ := HX.out.at_
      have yl : q1 < w8.heap.size := HX.out.lt
      obtain ⟨x0, x1, x2, x3, x4, x5, x6, x7, x8, x9⟩ := HY.out.at_
      have xl : q2 < w8.heap.size := HY.out.lt
      go_wp2_with fail
      clear z0 z1 z2 z3 z4 z5 z6 z7 z8 z9 zl y0 y1 y2 y3 y4 y5 y6 y7 y8 y9 yl x0 x1 x2 x3 x4 x5 x6 x7 x8 x9 xl
      go_returns
      exact ⟨rfl, HB8.out⟩
  · by_cases hr : Right A ∧ ¬ v = 0 ∧ A.lk.c = 0
    · obtain ⟨hr, hn, hl⟩ := hr
      obtain ⟨e1, e2⟩ := add_bound he hr hn hl
      have hc0 : checkE A = 0 := by unfold checkE; rw [if_pos ((right_iff A).2 hr)]
      have EE := hide e1
      have CE := hide hc0
      have HN : Hid (¬ v = 0) := hn
      rw [← eu, ← ed] at e2
      have hz := room_nonneg A
      rw [← eu, ← ed] at hz
      obtain ⟨ak, alo, ahi, ab, ard, ahs, lc, ls, lh, ln⟩ := A
      obtain rfl : lc = 0 := hl
      by_cases h0 : 0 < v
      · have k1 : IntKind.u64.wrap v = v := by rw [wrapU]; unfold I64 at hv; omega
        have k2 : u < v := by omega
        have K1 := hide k1
        have K2 := hide k2
        have K0 := hide h0
        clear h hw hv ed eu eB hwB he hr hn hc0 e1 e2 hz h0 k1 k2
        unfold acval
        go_enter Try.func7, Try.ntmps7
        go_wp2_with fail
        obtain ⟨w1, ew, hb1, ha1⟩ := one_new w ⟨ak, alo, ahi, ab, ard, ahs, 0, ls, lh, ln⟩ a n c
        rw [← ew]
        have HB1 := hide hb1
        have HA := hide ha1
        have H := hide (H.out.below hb1)
        clear hb1 ha1 ew
        have HL : Hid (w.heap.size < w1.heap.size) := HA.out.lt
        refine (awake_any _).mono ?_
        rintro e w2 ⟨rfl, hb⟩
        have HB2 : Hid (Below w.heap.size w w2) := HB1.out.trans (hb.mono HB1.out.size)
        have H := hide (H.out.below hb)
        have HA := hide (HA.out.below hb)
        clear hb
        obtain ⟨z0, z1, z2, z3, z4, z5, z6, z7, z8, z9⟩ := HA.out.at_
        have zl : w.heap.size < w2.heap.size := HA.out.lt
        go_wp2_with fail
        clear z0 z1 z2 z3 z4 z5 z6 z7 z8 z9 zl
        refine (room_x H.out HW.out ED.out EU.out).mono ?_
        rintro e w3 ⟨rfl, hb⟩
        have HB3 : Hid (Below w.heap.size w w3) := HB2.out.trans (hb.mono HB2.out.size)
        have H := hide (H.out.below hb)
        have HA := hide (HA.out.below hb)
        clear hb
        obtain ⟨z0, z1, z2, z3, z4, z5, z6, z7, z8, z9⟩ := HA.out.at_
        have zl : w.heap.size < w3.heap.size := HA.out.lt
        go_wp2_with fail
        clear z0 z1 z2 z3 z4 z5 z6 z7 z8 z9 zl
        refine (add_x H.out HW.out HV.out EB.out EE.out).mono ?_
        rintro e w4 ⟨a2, n2, c2, rfl, hh, hb, _, hc⟩
        have HB4 : Hid (Below w.heap.size w w4) := HB3.out.trans (hb.mono HB3.out.size)
        have H := hide (H.out.below hb)
        have HA := hide (HA.out.below hb)
        have HH := hide hh
        clear hb hh
        clear hc
        have eh := HH.out
        clear eh
        obtain ⟨z0, z1, z2, z3, z4, z5, z6, z7, z8, z9⟩ := HA.out.at_
        have zl : w.heap.size < w4.heap.size := HA.out.lt
        go_wp2_with fail
        clear z0 z1 z2 z3 z4 z5 z6 z7 z8 z9 zl
        obtain ⟨w5, ew, hbu, hau⟩ := one_new w4 B a2 n2 c2
        rw [← ew]
        have HB5 : Hid (Below w.heap.size w w5) := HB4.out.trans (hbu.mono HB4.out.size)
        have H := hide (H.out.below hbu)
        have HH := hide (HH.out.below hbu)
        have HA := hide (HA.out.below hbu)
        obtain ⟨q1, eq⟩ : ∃ q1, q1 = w4.heap.size := ⟨_, rfl⟩
        rw [← eq] at hau
        try rw [← eq]
        have HX := hide hau
        clear ew hbu hau eq
        refine (check_x H.out HW.out CE.out).mono ?_
        rintro e w6 ⟨rfl, hb⟩
        have HB6 : Hid (Below w.heap.size w w6) := HB5.out.trans (hb.mono HB5.out.size)
        have H := hide (H.out.below hb)
        have HH := hide (HH.out.below hb)
        have HA := hide (HA.out.below hb)
        have HX := hide (HX.out.below hb)
        clear hb
        have hn := HN.out
        have k1 := K1.out
        have k2 := K2.out
        have k0 := K0.out
        obtain ⟨z0, z1, z2, z3, z4, z5, z6, z7, z8, z9⟩ := HA.out.at_
        have zl : w.heap.size < w6.heap.size := HA.out.lt
        go_wp2_with fail
        clear z0 z1 z2 z3 z4 z5 z6 z7 z8 z9 zl
        go_returns
        exact ⟨rfl, HB6.out⟩
      · have k1 : IntKind.i64.wrap (-v) = -v ∨ v = -9223372036854775808 := by
          by_cases hm : v = -9223372036854775808
          · exact .inr hm
          · left; unfold I64 at hv; rw [IntKind.wrap_i64]; omega
        have k2 : d < -v := by omega
        obtain ⟨m, em⟩ : ∃ m, m = IntKind.i64.wrap (-v) := ⟨_, rfl⟩
        have k3 : IntKind.u64.wrap m = -v := by
          rw [em]
          rcases k1 with k1 | k1
          · rw [k1, wrapU]; unfold I64 at hv; omega
          · rw [k1]; decide
        have K1 := hide em.symm
        have K2 := hide k2
        have K3 := hide k3
        have K0 : Hid (¬ 0 < v) := h0
        have K4 : Hid (v < 0) := by show v < 0; omega
        clear h hw hv ed eu eB hwB he hr hn hc0 e1 e2 hz h0 k1 k2 k3 em
        unfold acval
        go_enter Try.func7, Try.ntmps7
        go_wp2_with fail
        obtain ⟨w1, ew, hb1, ha1⟩ := one_new w ⟨ak, alo, ahi, ab, ard, ahs, 0, ls, lh, ln⟩ a n c
        rw [← ew]
        have HB1 := hide hb1
        have HA := hide ha1
        have H := hide (H.out.below hb1)
        clear hb1 ha1 ew
        have HL : Hid (w.heap.size < w1.heap.size) := HA.out.lt
        refine (awake_any _).mono ?_
        rintro e w2 ⟨rfl, hb⟩
        have HB2 : Hid (Below w.heap.size w w2) := HB1.out.trans (hb.mono HB1.out.size)
        have H := hide (H.out.below hb)
        have HA := hide (HA.out.below hb)
        clear hb
        obtain ⟨z0, z1, z2, z3, z4, z5, z6, z7, z8, z9⟩ := HA.out.at_
        have zl : w.heap.size < w2.heap.size := HA.out.lt
        go_wp2_with fail
        clear z0 z1 z2 z3 z4 z5 z6 z7 z8 z9 zl
        refine (room_x H.out HW.out ED.out EU.out).mono ?_
        rintro e w3 ⟨rfl, hb⟩
        have HB3 : Hid (Below w.heap.size w w3) := HB2.out.trans (hb.mono HB2.out.size)
        have H := hide (H.out.below hb)
        have HA := hide (HA.out.below hb)
        clear hb
        obtain ⟨z0, z1, z2, z3, z4, z5, z6, z7, z8, z9⟩ := HA.out.at_
        have zl : w.heap.size < w3.heap.size := HA.out.lt
        go_wp2_with fail
        clear z0 z1 z2 z3 z4 z5 z6 z7 z8 z9 zl
        refine (add_x H.out HW.out HV.out EB.out EE.out).mono ?_
        rintro e w4 ⟨a2, n2, c2, rfl, hh, hb, _, hc⟩
        have HB4 : Hid (Below w.heap.size w w4) := HB3.out.trans (hb.mono HB3.out.size)
        have H := hide (H.out.below hb)
        have HA := hide (HA.out.below hb)
        have HH := hide hh
        clear hb hh
        clear hc
        have eh := HH.out
        clear eh
        obtain ⟨z0, z1, z2, z3, z4, z5, z6, z7, z8, z9⟩ := HA.out.at_
        have zl : w.heap.size < w4.heap.size := HA.out.lt
        go_wp2_with fail
        clear z0 z1 z2 z3 z4 z5 z6 z7 z8 z9 zl
        obtain ⟨w5, ew, hbu, hau⟩ := one_new w4 B a2 n2 c2
        rw [← ew]
        have HB5 : Hid (Below w.heap.size w w5) := HB4.out.trans (hbu.mono HB4.out.size)
        have H := hide (H.out.below hbu)
        have HH := hide (HH.out.below hbu)
        have HA := hide (HA.out.below hbu)
        obtain ⟨q1, eq⟩ : ∃ q1, q1 = w4.heap.size := ⟨_, rfl⟩
        rw [← eq] at hau
        try rw [← eq]
        have HX := hide hau
        clear ew hbu hau eq
        refine (check_x H.out HW.out CE.out).mono ?_
        rintro e w6 ⟨rfl, hb⟩
        have HB6 : Hid (Below w.heap.size w w6) := HB5.out.trans (hb.mono HB5.out.size)
        have H := hide (H.out.below hb)
        have HH := hide (HH.out.below hb)
        have HA := hide (HA.out.below hb)
        have HX := hide (HX.out.below hb)
        clear hb
        have hn := HN.out
        have k1 := K1.out
        have k2 := K2.out
        have k0 := K0.out
        have k3 := K3.out
        have k4 := K4.out
        obtain ⟨z0, z1, z2, z3, z4, z5, z6, z7, z8, z9⟩ := HA.out.at_
        have zl : w.heap.size < w6.heap.size := HA.out.lt
        go_wp2_with fail
        clear z0 z1 z2 z3 z4 z5 z6 z7 z8 z9 zl
        go_returns
        exact ⟨rfl, HB6.out⟩
    · have ho := add_other (n := v) hr
      have hne : ¬ (rightB A = true ∧ ¬ v = 0 ∧ A.lk.c = 0) := fun x => hr ⟨(right_iff A).1 x.1, x.2⟩
      clear hr
      by_cases hr : rightB A = true
      · have hc0 : checkE A = 0 := by unfold checkE; rw [if_pos hr]
        have CE := hide hc0
        by_cases hn : v = 0
        · subst hn
          obtain ⟨E, eE⟩ : ∃ E, E = addE A 0 := ⟨_, rfl⟩
          have e1 : addE A 0 = 1 := by unfold addE; rw [if_pos hr, if_pos rfl]
          have EE := hide e1
          clear h hw hv ed eu eB hwB he hr hc0 e1 eE ho hne
          unfold acval
          go_enter Try.func7, Try.ntmps7
          go_wp2_with fail
          obtain ⟨w1, ew, hb1, ha1⟩ := one_new w A a n c
          rw [← ew]
          have HB1 := hide hb1
          have HA := hide ha1
          have H := hide (H.out.below hb1)
          clear hb1 ha1 ew
          have HL : Hid (w.heap.size < w1.heap.size) := HA.out.lt
          refine (awake_any _).mono ?_
          rintro e w2 ⟨rfl, hb⟩
          have HB2 : Hid (Below w.heap.size w w2) := HB1.out.trans (hb.mono HB1.out.size)
          have H := hide (H.out.below hb)
          have HA := hide (HA.out.below hb)
          clear hb
          obtain ⟨z0, z1, z2, z3, z4, z5, z6, z7, z8, z9⟩ := HA.out.at_
          have zl : w.heap.size < w2.heap.size := HA.out.lt
          go_wp2_with fail
          clear z0 z1 z2 z3 z4 z5 z6 z7 z8 z9 zl
          refine (room_x H.out HW.out ED.out EU.out).mono ?_
          rintro e w3 ⟨rfl, hb⟩
          have HB3 : Hid (Below w.heap.size w w3) := HB2.out.trans (hb.mono HB2.out.size)
          have H := hide (H.out.below hb)
          have HA := hide (HA.out.below hb)
          clear hb
          obtain ⟨z0, z1, z2, z3, z4, z5, z6, z7, z8, z9⟩ := HA.out.at_
          have zl : w.heap.size < w3.heap.size := HA.out.lt
          go_wp2_with fail
          clear z0 z1 z2 z3 z4 z5 z6 z7 z8 z9 zl
          refine (add_x H.out HW.out HV.out EB.out EE.out).mono ?_
          rintro e w4 ⟨a2, n2, c2, rfl, hh, hb, _, hc⟩
          have HB4 : Hid (Below w.heap.size w w4) := HB3.out.trans (hb.mono HB3.out.size)
          have H := hide (H.out.below hb)
          have HA := hide (HA.out.below hb)
          have HH := hide hh
          clear hb hh
          clear hc
          have eh := HH.out
          clear eh
          obtain ⟨z0, z1, z2, z3, z4, z5, z6, z7, z8, z9⟩ := HA.out.at_
          have zl : w.heap.size < w4.heap.size := HA.out.lt
          go_wp2_with fail
          clear z0 z1 z2 z3 z4 z5 z6 z7 z8 z9 zl
          obtain ⟨w5, ew, hbu, hau⟩ := one_new w4 B a2 n2 c2
          rw [← ew]
          have HB5 : Hid (Below w.heap.size w w5) := HB4.out.trans (hbu.mono HB4.out.size)
          have H := hide (H.out.below hbu)
          have HH := hide (HH.out.below hbu)
          have HA := hide (HA.out.below hbu)
          obtain ⟨q1, eq⟩ : ∃ q1, q1 = w4.heap.size := ⟨_, rfl⟩
          rw [← eq] at hau
          try rw [← eq]
          have HX := hide hau
          clear ew hbu hau eq
          refine (check_x H.out HW.out CE.out).mono ?_
          rintro e w6 ⟨rfl, hb⟩
          have HB6 : Hid (Below w.heap.size w w6) := HB5.out.trans (hb.mono HB5.out.size)
          have H := hide (H.out.below hb)
          have HH := hide (HH.out.below hb)
          have HA := hide (HA.out.below hb)
          have HX := hide (HX.out.below hb)
          clear hb
          obtain ⟨z0, z1, z2, z3, z4, z5, z6, z7, z8, z9⟩ := HA.out.at_
          have zl : w.heap.size < w6.heap.size := HA.out.lt
          go_wp2_with fail
          clear z0 z1 z2 z3 z4 z5 z6 z7 z8 z9 zl
          go_returns
          exact ⟨rfl, HB6.out⟩
        · have hl : ¬ A.lk.c = 0 := fun x => hne ⟨hr, hn, x⟩
          have e1 : addE A v = 152 := by unfold addE; rw [if_pos hr, if_neg hn, if_neg hl]
          have EE := hide e1
          have HN : Hid (¬ v = 0) := hn
          have HLK : Hid (¬ A.lk.c = 0) := hl
          clear h hw hv ed eu eB hwB he hr hc0 e1 ho hne hn hl
          unfold acval
          go_enter Try.func7, Try.ntmps7
          go_wp2_with fail
          obtain ⟨w1, ew, hb1, ha1⟩ := one_new w A a n c
          rw [← ew]
          have HB1 := hide hb1
          have HA := hide ha1
          have H := hide (H.out.below hb1)
          clear hb1 ha1 ew
          have HL : Hid (w.heap.size < w1.heap.size) := HA.out.lt
          refine (awake_any _).mono ?_
          rintro e w2 ⟨rfl, hb⟩
          have HB2 : Hid (Below w.heap.size w w2) := HB1.out.trans (hb.mono HB1.out.size)
          have H := hide (H.out.below hb)
          have HA := hide (HA.out.below hb)
          clear hb
          obtain ⟨z0, z1, z2, z3, z4, z5, z6, z7, z8, z9⟩ := HA.out.at_
          have zl : w.heap.size < w2.heap.size := HA.out.lt
          go_wp2_with fail
          clear z0 z1 z2 z3 z4 z5 z6 z7 z8 z9 zl
          refine (room_x H.out HW.out ED.out EU.out).mono ?_
          rintro e w3 ⟨rfl, hb⟩
          have HB3 : Hid (Below w.heap.size w w3) := HB2.out.trans (hb.mono HB2.out.size)
          have H := hide (H.out.below hb)
          have HA := hide (HA.out.below hb)
          clear hb
          obtain ⟨z0, z1, z2, z3, z4, z5, z6, z7, z8, z9⟩ := HA.out.at_
          have zl : w.heap.size < w3.heap.size := HA.out.lt
          go_wp2_with fail
          clear z0 z1 z2 z3 z4 z5 z6 z7 z8 z9 zl
          refine (add_x H.out HW.out HV.out EB.out EE.out).mono ?_
          rintro e w4 ⟨a2, n2, c2, rfl, hh, hb, _, hc⟩
          have HB4 : Hid (Below w.heap.size w w4) := HB3.out.trans (hb.mono HB3.out.size)
          have H := hide (H.out.below hb)
          have HA := hide (HA.out.below hb)
          have HH := hide hh
          clear hb hh
          clear hc
          have eh := HH.out
          clear eh
          obtain ⟨z0, z1, z2, z3, z4, z5, z6, z7, z8, z9⟩ := HA.out.at_
          have zl : w.heap.size < w4.heap.size := HA.out.lt
          go_wp2_with fail
          clear z0 z1 z2 z3 z4 z5 z6 z7 z8 z9 zl
          obtain ⟨w5, ew, hbu, hau⟩ := one_new w4 B a2 n2 c2
          rw [← ew]
          have HB5 : Hid (Below w.heap.size w w5) := HB4.out.trans (hbu.mono HB4.out.size)
          have H := hide (H.out.below hbu)
          have HH := hide (HH.out.below hbu)
          have HA := hide (HA.out.below hbu)
          obtain ⟨q1, eq⟩ : ∃ q1, q1 = w4.heap.size := ⟨_, rfl⟩
          rw [← eq] at hau
          try rw [← eq]
          have HX := hide hau
          clear ew hbu hau eq
          refine (check_x H.out HW.out CE.out).mono ?_
          rintro e w6 ⟨rfl, hb⟩
          have HB6 : Hid (Below w.heap.size w w6) := HB5.out.trans (hb.mono HB5.out.size)
          have H := hide (H.out.below hb)
          have HH := hide (HH.out.below hb)
          have HA := hide (HA.out.below hb)
          have HX := hide (HX.out.below hb)
          clear hb
          have hn : (v == 0) = false := by simpa using HN.out
          have hk : (A.lk.c != 0) = true := by simpa using HLK.out
          have hk2 : (A.lk.c == 0) = false := by simpa using HLK.out
          obtain ⟨z0, z1, z2, z3, z4, z5, z6, z7, z8, z9⟩ := HA.out.at_
          have zl : w.heap.size < w6.heap.size := HA.out.lt
          go_wp2_with fail
          clear z0 z1 z2 z3 z4 z5 z6 z7 z8 z9 zl
          go_returns
          exact ⟨rfl, HB6.out⟩
      · have hc0 : checkE A = 21 := by unfold checkE; rw [if_neg hr]
        have CE := hide hc0
        have e1 : addE A v = 21 := by unfold addE; rw [if_neg hr]
        have EE := hide e1
        clear h hw hv ed eu eB hwB he hr hc0 e1 ho hne
        unfold acval
        go_enter Try.func7, Try.ntmps7
        go_wp2_with fail
        obtain ⟨w1, ew, hb1, ha1⟩ := one_new w A a n c
        rw [← ew]
        have HB1 := hide hb1
        have HA := hide ha1
        have H := hide (H.out.below hb1)
        clear hb1 ha1 ew
        have HL : Hid (w.heap.size < w1.heap.size) := HA.out.lt
        refine (awake_any _).mono ?_
        rintro e w2 ⟨rfl, hb⟩
        have HB2 : Hid (Below w.heap.size w w2) := HB1.out.trans (hb.mono HB1.out.size)
        have H := hide (H.out.below hb)
        have HA := hide (HA.out.below hb)
        clear hb
        obtain ⟨z0, z1, z2, z3, z4, z5, z6, z7, z8, z9⟩ := HA.out.at_
        have zl : w.heap.size < w2.heap.size := HA.out.lt
        go_wp2_with fail
        clear z0 z1 z2 z3 z4 z5 z6 z7 z8 z9 zl
        refine (room_x H.out HW.out ED.out EU.out).mono ?_
        rintro e w3 ⟨rfl, hb⟩
        have HB3 : Hid (Below w.heap.size w w3) := HB2.out.trans (hb.mono HB2.out.size)
        have H := hide (H.out.below hb)
        have HA := hide (HA.out.below hb)
        clear hb
        obtain ⟨z0, z1, z2, z3, z4, z5, z6, z7, z8, z9⟩ := HA.out.at_
        have zl : w.heap.size < w3.heap.size := HA.out.lt
        go_wp2_with fail
        clear z0 z1 z2 z3 z4 z5 z6 z7 z8 z9 zl
        refine (add_x H.out HW.out HV.out EB.out EE.out).mono ?_
        rintro e w4 ⟨a2, n2, c2, rfl, hh, hb, _, hc⟩
        have HB4 : Hid (Below w.heap.size w w4) := HB3.out.trans (hb.mono HB3.out.size)
        have H := hide (H.out.below hb)
        have HA := hide (HA.out.below hb)
        have HH := hide hh
        clear hb hh
        clear hc
        have eh := HH.out
        clear eh
        obtain ⟨z0, z1, z2, z3, z4, z5, z6, z7, z8, z9⟩ := HA.out.at_
        have zl : w.heap.size < w4.heap.size := HA.out.lt
        go_wp2_with fail
        clear z0 z1 z2 z3 z4 z5 z6 z7 z8 z9 zl
        obtain ⟨w5, ew, hbu, hau⟩ := one_new w4 B a2 n2 c2
        rw [← ew]
        have HB5 : Hid (Below w.heap.size w w5) := HB4.out.trans (hbu.mono HB4.out.size)
        have H := hide (H.out.below hbu)
        have HH := hide (HH.out.below hbu)
        have HA := hide (HA.out.below hbu)
        obtain ⟨q1, eq⟩ : ∃ q1, q1 = w4.heap.size := ⟨_, rfl⟩
        rw [← eq] at hau
        try rw [← eq]
        have HX := hide hau
        clear ew hbu hau eq
        refine (check_x H.out HW.out CE.out).mono ?_
        rintro e w6 ⟨rfl, hb⟩
        have HB6 : Hid (Below w.heap.size w w6) := HB5.out.trans (hb.mono HB5.out.size)
        have H := hide (H.out.below hb)
        have HH := hide (HH.out.below hb)
        have HA := hide (HA.out.below hb)
        have HX := hide (HX.out.below hb)
        clear hb
        obtain ⟨z0, z1, z2, z3, z4, z5, z6, z7, z8, z9⟩ := HA.out.at_
        have zl : w.heap.size < w6.heap.size := HA.out.lt
        go_wp2_with fail
        clear z0 z1 z2 z3 z4 z5 z6 z7 z8 z9 zl
        go_returns
        exact ⟨rfl, HB6.out⟩

set_option maxRecDepth 100000 in
theorem lifted (os : Os) (started : os.Started) (H : Type) (enc : TypeId × Value → H) :
    ReturnsInHanded {} Try.checked os 7 .any (Rows.accountAddsSpec.pre6 enc Try.prog Try.f7 Rows.accountAddsRow.domain false) (Rows.accountAddsSpec.post enc Try.prog Try.f7 false true false false) := by
  refine returnsInHanded_of_change_sized (C := Try.checked) own started (by kernel_rfl) Try.func7
    (ChangeSpec.witness6 (enc := enc) (C := Try.checked) false ⟨#[], #[.agg #[.string ByteArray.empty, .int .i64 0, .int .i64 0, .int .i64 0, .int .i64 0, .slice none 0 0, .int .i64 0, .int .i64 0, .int .i64 0, .int .i64 0], .int .i64 0], []⟩ 8 (by kernel_rfl) (by kernel_rfl) (by kernel_rfl) (by kernel_rfl)) ?_
  intro W base args ds gs before hval0 hW hcnd hsz0 _
  have hsz : (DataW.weightsEach Try.prog (Try.f7.params.toList ++ Rows.accountAddsSpec.plain.varTypes Try.prog) (ds ++ gs)).all (· ≤ reachBytes) = true := hsz0
  have hval : ∀ (j : Nat) t v, Try.f7.params[j]? = some t → args[j]? = some v → Value.okWide Try.prog W .any base t v := hval0
  have hW' := hW
  obtain ⟨p, q, hA0, hV, rfl, hfz, hnd⟩ := hW
  have hA : DataW.TrodAll enc Try.prog W 0 (fun _ => true) true Try.f7.params.toList args.toList ds p := hA0
  rw [Try.params7] at hA hval hsz
  obtain ⟨v0, vs0, d0, ds0, p0, q0, hargs, rfl, rfl, h0, r0⟩ := trodAll_cons hA
  obtain ⟨v1, vs1, d1, ds1, p1, q1, rfl, rfl, rfl, h1, r1⟩ := trodAll_cons r0
  obtain ⟨rfl, rfl, rfl⟩ := trodAll_nil r1
  obtain rfl : args = #[v0, v1] := by cases args; simp_all
  obtain ⟨rfl, rfl⟩ := trodVars_none hV
  have lt0 : ∀ x ∈ p0, x.block < W.heap.size := by obtain ⟨m, hm⟩ := h0; exact DataW.trod_lt m _ _ _ hm
  obtain ⟨a, n, c, A, rfl, k0, kw0, kc0⟩ := open_account_held (hval 0 28 v0 rfl rfl) h0 (fun n hn => by have h := List.all_eq_true.1 hsz n (DataW.weights_mem_each (j := 0) rfl rfl n hn); simpa using h)
  have lt1 : ∀ x ∈ p1, x.block < W.heap.size := by obtain ⟨m, hm⟩ := h1; exact DataW.trod_lt m _ _ _ hm
  obtain ⟨v, rfl, kv⟩ := open_i64 (hval 1 3 v1 rfl rfl) h1
  clear hA0 hval0
  refine (walk k0 kw0 kv).mono fun e W' ⟨he, bel⟩ => ?_
  subst he
  exact ⟨_, rfl, _, _, _, [], _, [], hW', trodAll_mk1 (shut_bool Try.underlying4 _), (trodAll_cons_mk (Below.trod laidOut (by kernel_rfl) (of_decide_eq_true (by kernel_rfl)) h0 bel lt0) (trodAll_cons_mk (Below.trod laidOut (by kernel_rfl) (of_decide_eq_true (by kernel_rfl)) h1 bel lt1) trodAll_mk0)), rfl, bel.frame _, fun h => by cases h⟩

theorem over : Rows.accountAddsRow.holds Try.pinned (OpenSpec.ofChange Rows.accountAddsSpec) :=
  OpenClaim.holds_of_wide 7 Try.f7 rfl rfl rfl rfl rfl rfl rfl ⟨rfl, rfl, rfl, rfl, rfl⟩ rfl rfl rfl rfl rfl (by kernel_rfl) Try.func7 (by kernel_rfl)
    (of_decide_eq_true (by kernel_rfl)) (by unfold Func.isWrapper; first | (rw [if_pos (by decide +kernel)]; kernel_rfl) | (rw [if_neg (by decide +kernel)]; exact ⟨rfl, rfl⟩))
    (fun os started H enc _ => lifted os started H enc)

theorem proved : Rows.AccountAddsSaid := over
#print axioms proved
end AccountAdds
theorem accountAdds_holds : Rows.AccountAddsSaid := AccountAdds.proved
end Go.Proofs.Ytfolpnjndlklkaa
