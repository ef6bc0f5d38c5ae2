/- AccountLocks: a lock changes nothing till it is freed: then by all of it, or by nothing; as long as it is there nothing else changes Base or bounds; no condition. -/
import Derived.Deep.Cut
import Derived.Test.YtfolpnjndlklkabAcoX
import Derived.Laws.Tables
namespace Go.Proofs.Ytfolpnjndlklkab
namespace AccountLocks
open Go.ChangeShapes Go.WideShapes Go.ChangeAt Go.RowKit Ao
set_option linter.unusedVariables false

set_option maxRecDepth 100000 in
set_option maxHeartbeats 4000000 in
theorem walk {w : World} {a : Option Addr} {n c : Nat} {A : Ac} {l : Lk} {v lo hi : Int} {cm : Bool} (h : Hs w a n A.hs) (hw : AcW A) (hl : LkW l) (hv : I64 v) (h1 : I64 lo) (h2 : I64 hi) :
    Calls Try.prog 4 #[acval A a n c, lval l, .int .i64 v, sval lo hi, .bool cm] w fun e w' => e = .returned (.bool true) ∧ Below w.heap.size w w' := by
  have H := hide h
  have HW := hide hw
  have HLW := hide hl
  have HV := hide hv
  obtain ⟨B, eB⟩ : ∃ B, B = takeA A l := ⟨_, rfl⟩
  have EB := hide eB.symm
  have hwB : AcW B := by rw [eB]; exact acw_take hw hl
  have HWB := hide hwB
  by_cases he : takeE A l = 0
  · have hk := take_said he v lo hi cm
    rw [← eB] at hk
    obtain ⟨k1, k2, k3, k4, k5, k6, k7, k8⟩ := hk
    obtain ⟨F, eF⟩ : ∃ F, F = addA B v := ⟨_, rfl⟩
    obtain ⟨E1, e1⟩ : ∃ E, E = addE B v := ⟨_, rfl⟩
    obtain ⟨G, eG⟩ : ∃ F, F = boundsA B lo hi := ⟨_, rfl⟩
    obtain ⟨E2, e2⟩ : ∃ E, E = boundsE B lo hi := ⟨_, rfl⟩
    obtain ⟨I, eI⟩ : ∃ F, F = takeA B l := ⟨_, rfl⟩
    obtain ⟨E3, e3⟩ : ∃ E, E = takeE B l := ⟨_, rfl⟩
    obtain ⟨J, eJ⟩ : ∃ F, F = grantA B 1 1 1 := ⟨_, rfl⟩
    obtain ⟨E4, e4⟩ : ∃ E, E = grantE B 1 1 1 := ⟨_, rfl⟩
    obtain ⟨Y, eY⟩ : ∃ F, F = freeA B cm := ⟨_, rfl⟩
    obtain ⟨Z, eZ⟩ : ∃ F, F = freeA Y cm := ⟨_, rfl⟩
    have hwY : AcW Y := by rw [eY]; exact acw_free hwB
    rw [← e1] at k1
    rw [← e2] at k2
    rw [← e3] at k3
    rw [← e4] at k4
    rw [← eY] at k6 k8
    have EE := hide he
    have EF := hide eF.symm
    have EG := hide eG.symm
    have EI := hide eI.symm
    have EJ := hide eJ.symm
    have EY := hide eY.symm
    have EZ := hide eZ.symm
    have X1 := hide e1.symm
    have X2 := hide e2.symm
    have X3 := hide e3.symm
    have X4 := hide e4.symm
    have X5 := hide k5
    have X6 := hide k6
    have HWY := hide hwY
    have N1 := hide k1
    have N2 := hide k2
    have N3 := hide k3
    have N4 := hide k4
    have NB := hide k7
    have FIN := hide k8
    have KB : Hid (cm = true → IntKind.i64.wrap (A.base + l.n) = A.base + l.n) := fun hc => by
      have q4 := hw.lo
      have q5 := hw.hi
      have := (take_ok he).2.2
      rw [IntKind.wrap_i64]; unfold I64 at *; omega
    clear h hw hl hv h1 h2 eB hwB he k1 k2 k3 k4 k5 k6 k7 k8 eF eG eI eJ eY eZ e1 e2 e3 e4 hwY
    unfold acval lval sval
    go_enter Try.func4, Try.ntmps4
    go_wp2_with fail
    obtain ⟨w1, ew, hb1, hx, hy, hz⟩ := three_new w (.cells #[.string A.key, .int .i64 A.lo, .int .i64 A.hi, .int .i64 A.base, .int .i64 A.rd, .slice a n c, .int .i64 A.lk.c, .int .i64 A.lk.s, .int .i64 A.lk.h, .int .i64 A.lk.n] 28) (.cells #[.int .i64 l.c, .int .i64 l.s, .int .i64 l.h, .int .i64 l.n] 26) (.cells #[.int .i64 lo, .int .i64 hi] 23)
    rw [← ew]
    have HB1 := hide hb1
    have HA : Hid (Ab w1 w.heap.size A a n c) := ⟨hx⟩
    have HLK : Hid (Lb w1 (w.heap.size + 1) l) := ⟨hy⟩
    have HSP : Hid (Sb w1 (w.heap.size + 2) lo hi) := ⟨hz⟩
    have AWA := hide (aw_old (g := w.heap.size) H.out (Nat.le_refl _))
    have HL : Hid (w.heap.size < w1.heap.size) := HA.out.lt
    replace H := hide (H.out.below hb1)
    clear hb1 hx hy hz ew
    refine (awake_any _).mono ?_
    rintro e w2 ⟨rfl, hb⟩
    have HB2 : Hid (Below w.heap.size w w2) := HB1.out.trans (hb.mono HB1.out.size)
    replace H := hide (H.out.below hb)
    replace HLK := hide (HLK.out.below hb)
    replace HSP := hide (HSP.out.below hb)
    replace HA := hide (HA.out.below hb)
    replace HL := hide (Nat.lt_of_lt_of_le HL.out hb.size)
    clear hb HB1
    obtain ⟨z0, z1, z2, z3, z4, z5, z6, z7, z8, z9⟩ := HA.out.at_
    have zl : w.heap.size < w2.heap.size := HA.out.lt
    obtain ⟨l0, l1, l2, l3⟩ := HLK.out.at_
    have ll := HLK.out.lt
    obtain ⟨s0, s1⟩ := HSP.out.at_
    have sl := HSP.out.lt
    go_wp2_with fail
    clear z0 z1 z2 z3 z4 z5 z6 z7 z8 z9 zl
    clear l0 l1 l2 l3 ll s0 s1 sl
    refine (take_x H.out HW.out HLW.out EB.out EE.out).mono ?_
    rintro e w3 ⟨a2, n2, c2, rfl, hh, hb, _, hc⟩
    have HB3 : Hid (Below w.heap.size w w3) := HB2.out.trans (hb.mono HB2.out.size)
    replace H := hide (H.out.below hb)
    replace HLK := hide (HLK.out.below hb)
    replace HSP := hide (HSP.out.below hb)
    replace HA := hide (HA.out.below hb)
    replace HL := hide (Nat.lt_of_lt_of_le HL.out hb.size)
    have HH := hide hh
    clear hb HB2 hh
    clear hc
    obtain ⟨z0, z1, z2, z3, z4, z5, z6, z7, z8, z9⟩ := HA.out.at_
    have zl : w.heap.size < w3.heap.size := HA.out.lt
    obtain ⟨l0, l1, l2, l3⟩ := HLK.out.at_
    have ll := HLK.out.lt
    obtain ⟨s0, s1⟩ := HSP.out.at_
    have sl := HSP.out.lt
    go_wp2_with fail
    clear z0 z1 z2 z3 z4 z5 z6 z7 z8 z9 zl
    clear l0 l1 l2 l3 ll s0 s1 sl
    obtain ⟨w4, ew, hbu, hau⟩ := one_new w3 B a2 n2 c2
    rw [← ew]
    have HB4 : Hid (Below w.heap.size w w4) := HB3.out.trans (hbu.mono HB3.out.size)
    replace H := hide (H.out.below hbu)
    replace HLK := hide (HLK.out.below hbu)
    replace HSP := hide (HSP.out.below hbu)
    replace HH := hide (HH.out.below hbu)
    replace HA := hide (HA.out.below hbu)
    obtain ⟨q1, eq⟩ : ∃ q1, q1 = w3.heap.size := ⟨_, rfl⟩
    have HXN : Hid (w.heap.size < q1) := by show w.heap.size < q1; rw [eq]; exact HL.out
    replace HL := hide (Nat.lt_of_lt_of_le HL.out hbu.size)
    rw [← eq] at hau
    try rw [← eq]
    have HX := hide hau
    clear ew hbu hau eq HB3
    refine (add_x HH.out HWB.out HV.out EF.out X1.out).mono ?_
    rintro e w5 ⟨a3, n3, c3, rfl, hh, hb, _, hc⟩
    have HB5 : Hid (Below w.heap.size w w5) := HB4.out.trans (hb.mono HB4.out.size)
    replace H := hide (H.out.below hb)
    replace HLK := hide (HLK.out.below hb)
    replace HSP := hide (HSP.out.below hb)
    replace HH := hide (HH.out.below hb)
    replace HA := hide (HA.out.below hb)
    replace HX := hide (HX.out.below hb)
    replace HL := hide (Nat.lt_of_lt_of_le HL.out hb.size)
    have HF := hide hh
    clear hb HB4 hh
    clear hc
    obtain ⟨z0, z1, z2, z3, z4, z5, z6, z7, z8, z9⟩ := HA.out.at_
    have zl : w.heap.size < w5.heap.size := HA.out.lt
    obtain ⟨y0, y1, y2, y3, y4, y5, y6, y7, y8, y9⟩ := HX.out.at_
    have yl : q1 < w5.heap.size := HX.out.lt
    obtain ⟨l0, l1, l2, l3⟩ := HLK.out.at_
    have ll := HLK.out.lt
    obtain ⟨s0, s1⟩ := HSP.out.at_
    have sl := HSP.out.lt
    go_wp2_with fail
    clear z0 z1 z2 z3 z4 z5 z6 z7 z8 z9 zl y0 y1 y2 y3 y4 y5 y6 y7 y8 y9 yl
    clear l0 l1 l2 l3 ll s0 s1 sl
    obtain ⟨w6, ew, hbu, hau⟩ := one_new w5 F a3 n3 c3
    rw [← ew]
    have HB6 : Hid (Below w.heap.size w w6) := HB5.out.trans (hbu.mono HB5.out.size)
    replace H := hide (H.out.below hbu)
    replace HLK := hide (HLK.out.below hbu)
    replace HSP := hide (HSP.out.below hbu)
    replace HH := hide (HH.out.below hbu)
    replace HF := hide (HF.out.below hbu)
    replace HA := hide (HA.out.below hbu)
    replace HX := hide (HX.out.below hbu)
    obtain ⟨q2, eq⟩ : ∃ q2, q2 = w5.heap.size := ⟨_, rfl⟩
    have HXFN : Hid (w.heap.size < q2) := by show w.heap.size < q2; rw [eq]; exact HL.out
    replace HL := hide (Nat.lt_of_lt_of_le HL.out hbu.size)
    rw [← eq] at hau
    try rw [← eq]
    have HXF := hide hau
    clear ew hbu hau eq HB5
    clear HXF HF HXFN
    refine (bounds_x HH.out HWB.out EG.out X2.out).mono ?_
    rintro e w7 ⟨a4, n4, c4, rfl, hh, hb, _, hc⟩
    have HB7 : Hid (Below w.heap.size w w7) := HB6.out.trans (hb.mono HB6.out.size)
    replace H := hide (H.out.below hb)
    replace HLK := hide (HLK.out.below hb)
    replace HSP := hide (HSP.out.below hb)
    replace HH := hide (HH.out.below hb)
    replace HA := hide (HA.out.below hb)
    replace HX := hide (HX.out.below hb)
    replace HL := hide (Nat.lt_of_lt_of_le HL.out hb.size)
    have HG := hide hh
    clear hb HB6 hh
    clear hc
    obtain ⟨z0, z1, z2, z3, z4, z5, z6, z7, z8, z9⟩ := HA.out.at_
    have zl : w.heap.size < w7.heap.size := HA.out.lt
    obtain ⟨y0, y1, y2, y3, y4, y5, y6, y7, y8, y9⟩ := HX.out.at_
    have yl : q1 < w7.heap.size := HX.out.lt
    obtain ⟨l0, l1, l2, l3⟩ := HLK.out.at_
    have ll := HLK.out.lt
    obtain ⟨s0, s1⟩ := HSP.out.at_
    have sl := HSP.out.lt
    go_wp2_with fail
    clear z0 z1 z2 z3 z4 z5 z6 z7 z8 z9 zl y0 y1 y2 y3 y4 y5 y6 y7 y8 y9 yl
    clear l0 l1 l2 l3 ll s0 s1 sl
    obtain ⟨w8, ew, hbu, hau⟩ := one_new w7 G a4 n4 c4
    rw [← ew]
    have HB8 : Hid (Below w.heap.size w w8) := HB7.out.trans (hbu.mono HB7.out.size)
    replace H := hide (H.out.below hbu)
    replace HLK := hide (HLK.out.below hbu)
    replace HSP := hide (HSP.out.below hbu)
    replace HH := hide (HH.out.below hbu)
    replace HG := hide (HG.out.below hbu)
    replace HA := hide (HA.out.below hbu)
    replace HX := hide (HX.out.below hbu)
    obtain ⟨q3, eq⟩ : ∃ q3, q3 = w7.heap.size := ⟨_, rfl⟩
    have HXGN : Hid (w.heap.size < q3) := by show w.heap.size < q3; rw [eq]; exact HL.out
    replace HL := hide (Nat.lt_of_lt_of_le HL.out hbu.size)
    rw [← eq] at hau
    try rw [← eq]
    have HXG := hide hau
    clear ew hbu hau eq HB7
    clear HXG HG HXGN
    refine (take_x HH.out HWB.out HLW.out EI.out X3.out).mono ?_
    rintro e w9 ⟨a5, n5, c5, rfl, hh, hb, _, hc⟩
    have HB9 : Hid (Below w.heap.size w w9) := HB8.out.trans (hb.mono HB8.out.size)
    replace H := hide (H.out.below hb)
    replace HLK := hide (HLK.out.below hb)
    replace HSP := hide (HSP.out.below hb)
    replace HH := hide (HH.out.below hb)
    replace HA := hide (HA.out.below hb)
    replace HX := hide (HX.out.below hb)
    replace HL := hide (Nat.lt_of_lt_of_le HL.out hb.size)
    have HI := hide hh
    clear hb HB8 hh
    clear hc
    obtain ⟨z0, z1, z2, z3, z4, z5, z6, z7, z8, z9⟩ := HA.out.at_
    have zl : w.heap.size < w9.heap.size := HA.out.lt
    obtain ⟨y0, y1, y2, y3, y4, y5, y6, y7, y8, y9⟩ := HX.out.at_
    have yl : q1 < w9.heap.size := HX.out.lt
    obtain ⟨l0, l1, l2, l3⟩ := HLK.out.at_
    have ll := HLK.out.lt
    obtain ⟨s0, s1⟩ := HSP.out.at_
    have sl := HSP.out.lt
    go_wp2_with fail
    clear z0 z1 z2 z3 z4 z5 z6 z7 z8 z9 zl y0 y1 y2 y3 y4 y5 y6 y7 y8 y9 yl
    clear l0 l1 l2 l3 ll s0 s1 sl
    obtain ⟨w10, ew, hbu, hau⟩ := one_new w9 I a5 n5 c5
    rw [← ew]
    have HB10 : Hid (Below w.heap.size w w10) := HB9.out.trans (hbu.mono HB9.out.size)
    replace H := hide (H.out.below hbu)
    replace HLK := hide (HLK.out.below hbu)
    replace HSP := hide (HSP.out.below hbu)
    replace HH := hide (HH.out.below hbu)
    replace HI := hide (HI.out.below hbu)
    replace HA := hide (HA.out.below hbu)
    replace HX := hide (HX.out.below hbu)
    obtain ⟨q4, eq⟩ : ∃ q4, q4 = w9.heap.size := ⟨_, rfl⟩
    have HXIN : Hid (w.heap.size < q4) := by show w.heap.size < q4; rw [eq]; exact HL.out
    replace HL := hide (Nat.lt_of_lt_of_le HL.out hbu.size)
    rw [← eq] at hau
    try rw [← eq]
    have HXI := hide hau
    clear ew hbu hau eq HB9
    clear HXI HI HXIN
    refine (grant_x HH.out HWB.out EJ.out X4.out).mono ?_
    rintro e w11 ⟨a6, n6, c6, rfl, hh, hb, _, hc⟩
    have HB11 : Hid (Below w.heap.size w w11) := HB10.out.trans (hb.mono HB10.out.size)
    replace H := hide (H.out.below hb)
    replace HLK := hide (HLK.out.below hb)
    replace HSP := hide (HSP.out.below hb)
    replace HH := hide (HH.out.below hb)
    replace HA := hide (HA.out.below hb)
    replace HX := hide (HX.out.below hb)
    replace HL := hide (Nat.lt_of_lt_of_le HL.out hb.size)
    have HJ := hide hh
    clear hb HB10 hh
    clear hc
    obtain ⟨z0, z1, z2, z3, z4, z5, z6, z7, z8, z9⟩ := HA.out.at_
    have zl : w.heap.size < w11.heap.size := HA.out.lt
    obtain ⟨y0, y1, y2, y3, y4, y5, y6, y7, y8, y9⟩ := HX.out.at_
    have yl : q1 < w11.heap.size := HX.out.lt
    obtain ⟨l0, l1, l2, l3⟩ := HLK.out.at_
    have ll := HLK.out.lt
    obtain ⟨s0, s1⟩ := HSP.out.at_
    have sl := HSP.out.lt
    go_wp2_with fail
    clear z0 z1 z2 z3 z4 z5 z6 z7 z8 z9 zl y0 y1 y2 y3 y4 y5 y6 y7 y8 y9 yl
    clear l0 l1 l2 l3 ll s0 s1 sl
    obtain ⟨w12, ew, hbu, hau⟩ := one_new w11 J a6 n6 c6
    rw [← ew]
    have HB12 : Hid (Below w.heap.size w w12) := HB11.out.trans (hbu.mono HB11.out.size)
    replace H := hide (H.out.below hbu)
    replace HLK := hide (HLK.out.below hbu)
    replace HSP := hide (HSP.out.below hbu)
    replace HH := hide (HH.out.below hbu)
    replace HJ := hide (HJ.out.below hbu)
    replace HA := hide (HA.out.below hbu)
    replace HX := hide (HX.out.below hbu)
    obtain ⟨q5, eq⟩ : ∃ q5, q5 = w11.heap.size := ⟨_, rfl⟩
    have HXJN : Hid (w.heap.size < q5) := by show w.heap.size < q5; rw [eq]; exact HL.out
    replace HL := hide (Nat.lt_of_lt_of_le HL.out hbu.size)
    rw [← eq] at hau
    try rw [← eq]
    have HXJ := hide hau
    clear ew hbu hau eq HB11
    clear HXJ HJ EF EG EI EJ X1 X2 X3 X4 HXJN
    have HLL := HL
    refine (free_x HH.out HWB.out EY.out X5.out).mono ?_
    rintro e w13 ⟨a7, n7, c7, rfl, hh, hb, hf, hc⟩
    have HB13 : Hid (Below w.heap.size w w13) := HB12.out.trans (hb.mono HB12.out.size)
    replace H := hide (H.out.below hb)
    replace HLK := hide (HLK.out.below hb)
    replace HSP := hide (HSP.out.below hb)
    replace HH := hide (HH.out.below hb)
    replace HA := hide (HA.out.below hb)
    replace HX := hide (HX.out.below hb)
    replace HL := hide (Nat.lt_of_lt_of_le HL.out hb.size)
    have HY := hide hh
    clear hb HB12 hh
    have AWY : Hid (Aw w.heap.size a7 n7) := aw_new hf HLL.out
    clear hf hc
    obtain ⟨z0, z1, z2, z3, z4, z5, z6, z7, z8, z9⟩ := HA.out.at_
    have zl : w.heap.size < w13.heap.size := HA.out.lt
    obtain ⟨y0, y1, y2, y3, y4, y5, y6, y7, y8, y9⟩ := HX.out.at_
    have yl : q1 < w13.heap.size := HX.out.lt
    obtain ⟨l0, l1, l2, l3⟩ := HLK.out.at_
    have ll := HLK.out.lt
    obtain ⟨s0, s1⟩ := HSP.out.at_
    have sl := HSP.out.lt
    go_wp2_with fail
    clear z0 z1 z2 z3 z4 z5 z6 z7 z8 z9 zl y0 y1 y2 y3 y4 y5 y6 y7 y8 y9 yl
    clear l0 l1 l2 l3 ll s0 s1 sl
    obtain ⟨w14, ew, hbu, hau⟩ := one_new w13 Y a7 n7 c7
    rw [← ew]
    have HB14 : Hid (Below w.heap.size w w14) := HB13.out.trans (hbu.mono HB13.out.size)
    replace H := hide (H.out.below hbu)
    replace HLK := hide (HLK.out.below hbu)
    replace HSP := hide (HSP.out.below hbu)
    replace HH := hide (HH.out.below hbu)
    replace HY := hide (HY.out.below hbu)
    replace HA := hide (HA.out.below hbu)
    replace HX := hide (HX.out.below hbu)
    obtain ⟨q6, eq⟩ : ∃ q6, q6 = w13.heap.size := ⟨_, rfl⟩
    have HXYN : Hid (w.heap.size < q6) := by show w.heap.size < q6; rw [eq]; exact HL.out
    replace HL := hide (Nat.lt_of_lt_of_le HL.out hbu.size)
    rw [← eq] at hau
    try rw [← eq]
    have HXY := hide hau
    clear ew hbu hau eq HB13
    refine (free_x HY.out HWY.out EZ.out X6.out).mono ?_
    rintro e w15 ⟨a8, n8, c8, rfl, hh, hb, _, hc⟩
    have HB15 : Hid (Below w.heap.size w w15) := HB14.out.trans (hb.mono HB14.out.size)
    replace H := hide (H.out.below hb)
    replace HLK := hide (HLK.out.below hb)
    replace HSP := hide (HSP.out.below hb)
    replace HH := hide (HH.out.below hb)
    replace HY := hide (HY.out.below hb)
    replace HA := hide (HA.out.below hb)
    replace HX := hide (HX.out.below hb)
    replace HXY := hide (HXY.out.below hb)
    replace HL := hide (Nat.lt_of_lt_of_le HL.out hb.size)
    have HZ := hide hh
    clear hb HB14 hh
    clear hc
    go_upto_region 12 with fail
    obtain ⟨w16, ew, hbu, hau⟩ := one_new w15 Z a8 n8 c8
    rw [← ew]
    have HB16 : Hid (Below w.heap.size w w16) := HB15.out.trans (hbu.mono HB15.out.size)
    replace H := hide (H.out.below hbu)
    replace HLK := hide (HLK.out.below hbu)
    replace HSP := hide (HSP.out.below hbu)
    replace HH := hide (HH.out.below hbu)
    replace HY := hide (HY.out.below hbu)
    replace HZ := hide (HZ.out.below hbu)
    replace HA := hide (HA.out.below hbu)
    replace HX := hide (HX.out.below hbu)
    replace HXY := hide (HXY.out.below hbu)
    obtain ⟨q7, eq⟩ : ∃ q7, q7 = w15.heap.size := ⟨_, rfl⟩
    have HXZN : Hid (w.heap.size < q7) := by show w.heap.size < q7; rw [eq]; exact HL.out
    replace HL := hide (Nat.lt_of_lt_of_le HL.out hbu.size)
    rw [← eq] at hau
    try rw [← eq]
    have HXZ := hide hau
    clear ew hbu hau eq HB15
    clear HXZ HZ HXZN
    have n1 : (E1 == 0) = false := by simpa using N1.out
    have n2' : (E2 == 0) = false := by simpa using N2.out
    have n3' : (E3 == 0) = false := by simpa using N3.out
    have n4' : (E4 == 0) = false := by simpa using N4.out
    have nb : (B.base != A.base) = false := by simpa using NB.out
    have nb2 : (B.base == A.base) = true := by simpa using NB.out
    obtain ⟨z0, z1, z2, z3, z4, z5, z6, z7, z8, z9⟩ := HA.out.at_
    have zl : w.heap.size < w16.heap.size := HA.out.lt
    obtain ⟨y0, y1, y2, y3, y4, y5, y6, y7, y8, y9⟩ := HX.out.at_
    have yl : q1 < w16.heap.size := HX.out.lt
    obtain ⟨l0, l1, l2, l3⟩ := HLK.out.at_
    have ll := HLK.out.lt
    obtain ⟨s0, s1⟩ := HSP.out.at_
    have sl := HSP.out.lt
    go_upto_region 14 with fail
    clear z0 z1 z2 z3 z4 z5 z6 z7 z8 z9 zl y0 y1 y2 y3 y4 y5 y6 y7 y8 y9 yl
    clear l0 l1 l2 l3 ll s0 s1 sl n1 n2' n3' n4' nb nb2 N1 N2 N3 N4 NB HSP
    have zf := HA.out.fz
    cases cm
    · obtain ⟨z0, z1, z2, z3, z4, z5, z6, z7, z8, z9⟩ := HA.out.at_
      have zl : w.heap.size < w16.heap.size := HA.out.lt
      obtain ⟨l0, l1, l2, l3⟩ := HLK.out.at_
      have ll := HLK.out.lt
      go_upto_region 17 with fail
      clear z0 z1 z2 z3 z4 z5 z6 z7 z8 z9 zl l0 l1 l2 l3 ll zf
      obtain ⟨W, eW⟩ : ∃ W, W = ((((w16.setCell ⟨w.heap.size, 6, none⟩ (.int .i64 0)).setCell ⟨w.heap.size, 7, none⟩ (.int .i64 0)).setCell ⟨w.heap.size, 8, none⟩ (.int .i64 0)).setCell ⟨w.heap.size, 9, none⟩ (.int .i64 0)) := ⟨_, rfl⟩
      have hq6 : q6 ≠ w.heap.size := by have := HXYN.out; omega
      have FA : Hid (Ab W w.heap.size ({ A with base := A.base, lk := lk0 } : Ac) a n c) := by show Ab _ _ _ _ _ _; rw [eW]; exact ⟨put_row' (put_row' (put_row' (put_row' (HA.out.row))))⟩
      have FY : Hid (Ab W q6 Y a7 n7 c7) := by show Ab _ _ _ _ _ _; rw [eW]; exact ⟨(put_far hq6).trans ((put_far hq6).trans ((put_far hq6).trans ((put_far hq6).trans (HXY.out.row))))⟩
      have FB : Hid (Below w.heap.size w W) := by show Below _ _ _; rw [eW]; repeat (first | with_reducible exact HB16.out | refine b_set ?_)
      have GY : Hid (Hs W a7 n7 Y.hs) := by show Rl _ _ _ _ _ _ _; rw [eW]; repeat (first | with_reducible exact HY.out | refine hs_put ?_ AWY.out)
      have GH : Hid (Hs W a n A.hs) := by show Rl _ _ _ _ _ _ _; rw [eW]; repeat (first | with_reducible exact H.out | refine hs_put ?_ AWA.out)
      rw [← eW]
      clear eW HA HX HXY HXN HXYN HB16 H HH HY HLK
      obtain ⟨z0, z1, z2, z3, z4, z5, z6, z7, z8, z9⟩ := FA.out.at_
      have zl := FA.out.lt
      obtain ⟨x0, x1, x2, x3, x4, x5, x6, x7, x8, x9⟩ := FY.out.at_
      have xl := FY.out.lt
      go_wp2_with fail
      refine (same_y (w := w) (A := Y) (B := ({ A with base := A.base, lk := lk0 } : Ac)) FB.out GY.out GH.out FIN.out).mono ?_
      rintro e w99 ⟨rfl, hb⟩
      have HBF := hide hb
      clear hb z0 z1 z2 z3 z4 z5 z6 z7 z8 z9 zl x0 x1 x2 x3 x4 x5 x6 x7 x8 x9 xl
      go_wp2_with fail
      go_returns
      exact ⟨rfl, HBF.out⟩
    · have kb := KB.out rfl
      obtain ⟨z0, z1, z2, z3, z4, z5, z6, z7, z8, z9⟩ := HA.out.at_
      have zl : w.heap.size < w16.heap.size := HA.out.lt
      obtain ⟨l0, l1, l2, l3⟩ := HLK.out.at_
      have ll := HLK.out.lt
      go_upto_region 17 with fail
      clear z0 z1 z2 z3 z4 z5 z6 z7 z8 z9 zl l0 l1 l2 l3 ll zf
      obtain ⟨W, eW⟩ : ∃ W, W = (((((w16.setCell ⟨w.heap.size, 6, none⟩ (.int .i64 0)).setCell ⟨w.heap.size, 7, none⟩ (.int .i64 0)).setCell ⟨w.heap.size, 8, none⟩ (.int .i64 0)).setCell ⟨w.heap.size, 9, none⟩ (.int .i64 0)).setCell ⟨w.heap.size, 3, none⟩ (.int .i64 (A.base + l.n))) := ⟨_, rfl⟩
      have hq6 : q6 ≠ w.heap.size := by have := HXYN.out; omega
      have FA : Hid (Ab W w.heap.size ({ A with base := A.base + l.n, lk := lk0 } : Ac) a n c) := by show Ab _ _ _ _ _ _; rw [eW]; exact ⟨put_row' (put_row' (put_row' (put_row' (put_row' (HA.out.row)))))⟩
      have FY : Hid (Ab W q6 Y a7 n7 c7) := by show Ab _ _ _ _ _ _; rw [eW]; exact ⟨(put_far hq6).trans ((put_far hq6).trans ((put_far hq6).trans ((put_far hq6).trans ((put_far hq6).trans (HXY.out.row)))))⟩
      have FB : Hid (Below w.heap.size w W) := by show Below _ _ _; rw [eW]; repeat (first | with_reducible exact HB16.out | refine b_set ?_)
      have GY : Hid (Hs W a7 n7 Y.hs) := by show Rl _ _ _ _ _ _ _; rw [eW]; repeat (first | with_reducible exact HY.out | refine hs_put ?_ AWY.out)
      have GH : Hid (Hs W a n A.hs) := by show Rl _ _ _ _ _ _ _; rw [eW]; repeat (first | with_reducible exact H.out | refine hs_put ?_ AWA.out)
      rw [← eW]
      clear eW HA HX HXY HXN HXYN HB16 H HH HY HLK
      obtain ⟨z0, z1, z2, z3, z4, z5, z6, z7, z8, z9⟩ := FA.out.at_
      have zl := FA.out.lt
      obtain ⟨x0, x1, x2, x3, x4, x5, x6, x7, x8, x9⟩ := FY.out.at_
      have xl := FY.out.lt
      go_wp2_with fail
      refine (same_y (w := w) (A := Y) (B := ({ A with base := A.base + l.n, lk := lk0 } : Ac)) FB.out GY.out GH.out FIN.out).mono ?_
      rintro e w99 ⟨rfl, hb⟩
      have HBF := hide hb
      clear hb z0 z1 z2 z3 z4 z5 z6 z7 z8 z9 zl x0 x1 x2 x3 x4 x5 x6 x7 x8 x9 xl
      go_wp2_with fail
      go_returns
      exact ⟨rfl, HBF.out⟩
  · have he0 := he
    obtain ⟨E, eE⟩ : ∃ E, E = takeE A l := ⟨_, rfl⟩
    have EE := hide eE.symm
    have hB0 : B = ac0 := by rw [eB]; unfold takeA; rw [if_neg he]
    have B0 := hide hB0
    have NE : Hid (¬ E = 0) := by show ¬ E = 0; rw [eE]; exact he
    clear h hw hl hv h1 h2 eB hwB he he0 eE hB0
    unfold acval lval sval
    go_enter Try.func4, Try.ntmps4
    go_wp2_with fail
    obtain ⟨w1, ew, hb1, hx, hy, hz⟩ := three_new w (.cells #[.string A.key, .int .i64 A.lo, .int .i64 A.hi, .int .i64 A.base, .int .i64 A.rd, .slice a n c, .int .i64 A.lk.c, .int .i64 A.lk.s, .int .i64 A.lk.h, .int .i64 A.lk.n] 28) (.cells #[.int .i64 l.c, .int .i64 l.s, .int .i64 l.h, .int .i64 l.n] 26) (.cells #[.int .i64 lo, .int .i64 hi] 23)
    rw [← ew]
    have HB1 := hide hb1
    have HA : Hid (Ab w1 w.heap.size A a n c) := ⟨hx⟩
    have HLK : Hid (Lb w1 (w.heap.size + 1) l) := ⟨hy⟩
    have HSP : Hid (Sb w1 (w.heap.size + 2) lo hi) := ⟨hz⟩
    have AWA := hide (aw_old (g := w.heap.size) H.out (Nat.le_refl _))
    have HL : Hid (w.heap.size < w1.heap.size) := HA.out.lt
    replace H := hide (H.out.below hb1)
    clear hb1 hx hy hz ew
    refine (awake_any _).mono ?_
    rintro e w2 ⟨rfl, hb⟩
    have HB2 : Hid (Below w.heap.size w w2) := HB1.out.trans (hb.mono HB1.out.size)
    replace H := hide (H.out.below hb)
    replace HLK := hide (HLK.out.below hb)
    replace HSP := hide (HSP.out.below hb)
    replace HA := hide (HA.out.below hb)
    replace HL := hide (Nat.lt_of_lt_of_le HL.out hb.size)
    clear hb HB1
    obtain ⟨z0, z1, z2, z3, z4, z5, z6, z7, z8, z9⟩ := HA.out.at_
    have zl : w.heap.size < w2.heap.size := HA.out.lt
    obtain ⟨l0, l1, l2, l3⟩ := HLK.out.at_
    have ll := HLK.out.lt
    obtain ⟨s0, s1⟩ := HSP.out.at_
    have sl := HSP.out.lt
    go_wp2_with fail
    clear z0 z1 z2 z3 z4 z5 z6 z7 z8 z9 zl
    clear l0 l1 l2 l3 ll s0 s1 sl
    refine (take_x H.out HW.out HLW.out EB.out EE.out).mono ?_
    rintro e w3 ⟨a2, n2, c2, rfl, hh, hb, _, hc⟩
    have HB3 : Hid (Below w.heap.size w w3) := HB2.out.trans (hb.mono HB2.out.size)
    replace H := hide (H.out.below hb)
    replace HLK := hide (HLK.out.below hb)
    replace HSP := hide (HSP.out.below hb)
    replace HA := hide (HA.out.below hb)
    replace HL := hide (Nat.lt_of_lt_of_le HL.out hb.size)
    have HH := hide hh
    clear hb HB2 hh
    clear hc
    have ne := NE.out
    have ne2 : (E == 0) = false := by simpa using NE.out
    obtain ⟨z0, z1, z2, z3, z4, z5, z6, z7, z8, z9⟩ := HA.out.at_
    have zl : w.heap.size < w3.heap.size := HA.out.lt
    obtain ⟨l0, l1, l2, l3⟩ := HLK.out.at_
    have ll := HLK.out.lt
    obtain ⟨s0, s1⟩ := HSP.out.at_
    have sl := HSP.out.lt
    go_wp2_with fail
    clear z0 z1 z2 z3 z4 z5 z6 z7 z8 z9 zl
    clear l0 l1 l2 l3 ll s0 s1 sl
    obtain ⟨w4, ew, hbu, hau⟩ := one_new w3 B a2 n2 c2
    rw [← ew]
    have HB4 : Hid (Below w.heap.size w w4) := HB3.out.trans (hbu.mono HB3.out.size)
    replace H := hide (H.out.below hbu)
    replace HLK := hide (HLK.out.below hbu)
    replace HSP := hide (HSP.out.below hbu)
    replace HH := hide (HH.out.below hbu)
    replace HA := hide (HA.out.below hbu)
    obtain ⟨q1, eq⟩ : ∃ q1, q1 = w3.heap.size := ⟨_, rfl⟩
    have HXN : Hid (w.heap.size < q1) := by show w.heap.size < q1; rw [eq]; exact HL.out
    replace HL := hide (Nat.lt_of_lt_of_le HL.out hbu.size)
    rw [← eq] at hau
    try rw [← eq]
    have HX := hide hau
    clear ew hbu hau eq HB3
    refine (same_none HH.out B0.out).mono ?_
    rintro e w5 ⟨rfl, hb⟩
    have HB5 : Hid (Below w.heap.size w w5) := HB4.out.trans (hb.mono HB4.out.size)
    replace H := hide (H.out.below hb)
    replace HLK := hide (HLK.out.below hb)
    replace HSP := hide (HSP.out.below hb)
    replace HH := hide (HH.out.below hb)
    replace HA := hide (HA.out.below hb)
    replace HX := hide (HX.out.below hb)
    replace HL := hide (Nat.lt_of_lt_of_le HL.out hb.size)
    clear hb HB4
    obtain ⟨z0, z1, z2, z3, z4, z5, z6, z7, z8, z9⟩ := HA.out.at_
    have zl : w.heap.size < w5.heap.size := HA.out.lt
    go_wp2_with fail
    clear z0 z1 z2 z3 z4 z5 z6 z7 z8 z9 zl
    go_returns
    exact ⟨rfl, HB5.out⟩

set_option maxRecDepth 100000 in
theorem lifted (os : Os) (started : os.Started) (H : Type) (enc : TypeId × Value → H) :
    ReturnsInHanded {} Try.checked os 4 .any (Rows.accountLocksSpec.pre6 enc Try.prog Try.f4 Rows.accountLocksRow.domain false) (Rows.accountLocksSpec.post enc Try.prog Try.f4 false true false false) := by
  refine returnsInHanded_of_change_sized (C := Try.checked) own started (by kernel_rfl) Try.func4
    (ChangeSpec.witness6 (enc := enc) (C := Try.checked) false ⟨#[], #[.agg #[.string ByteArray.empty, .int .i64 0, .int .i64 0, .int .i64 0, .int .i64 0, .slice none 0 0, .int .i64 0, .int .i64 0, .int .i64 0, .int .i64 0], .agg #[.int .i64 0, .int .i64 0, .int .i64 0, .int .i64 0], .int .i64 0, .agg #[.int .i64 0, .int .i64 0], .bool false], []⟩ 8 (by kernel_rfl) (by kernel_rfl) (by kernel_rfl) (by kernel_rfl)) ?_
  intro W base args ds gs before hval0 hW hcnd hsz0 _
  have hsz : (DataW.weightsEach Try.prog (Try.f4.params.toList ++ Rows.accountLocksSpec.plain.varTypes Try.prog) (ds ++ gs)).all (· ≤ reachBytes) = true := hsz0
  have hval : ∀ (j : Nat) t v, Try.f4.params[j]? = some t → args[j]? = some v → Value.okWide Try.prog W .any base t v := hval0
  have hW' := hW
  obtain ⟨p, q, hA0, hV, rfl, hfz, hnd⟩ := hW
  have hA : DataW.TrodAll enc Try.prog W 0 (fun _ => true) true Try.f4.params.toList args.toList ds p := hA0
  rw [Try.params4] at hA hval hsz
  obtain ⟨v0, vs0, d0, ds0, p0, q0, hargs, rfl, rfl, h0, r0⟩ := trodAll_cons hA
  obtain ⟨v1, vs1, d1, ds1, p1, q1, rfl, rfl, rfl, h1, r1⟩ := trodAll_cons r0
  obtain ⟨v2, vs2, d2, ds2, p2, q2, rfl, rfl, rfl, h2, r2⟩ := trodAll_cons r1
  obtain ⟨v3, vs3, d3, ds3, p3, q3, rfl, rfl, rfl, h3, r3⟩ := trodAll_cons r2
  obtain ⟨v4, vs4, d4, ds4, p4, q4, rfl, rfl, rfl, h4, r4⟩ := trodAll_cons r3
  obtain ⟨rfl, rfl, rfl⟩ := trodAll_nil r4
  obtain rfl : args = #[v0, v1, v2, v3, v4] := by cases args; simp_all
  obtain ⟨rfl, rfl⟩ := trodVars_none hV
  have lt0 : ∀ x ∈ p0, x.block < W.heap.size := by obtain ⟨m, hm⟩ := h0; exact DataW.trod_lt m _ _ _ hm
  obtain ⟨a, n, c, A, rfl, k0, kw0, kc0⟩ := open_account_held (hval 0 28 v0 rfl rfl) h0 (fun n hn => by have h := List.all_eq_true.1 hsz n (DataW.weights_mem_each (j := 0) rfl rfl n hn); simpa using h)
  have lt1 : ∀ x ∈ p1, x.block < W.heap.size := by obtain ⟨m, hm⟩ := h1; exact DataW.trod_lt m _ _ _ hm
  obtain ⟨l, rfl, kl⟩ := open_lock_held (hval 1 26 v1 rfl rfl) h1 (fun n hn => by have h := List.all_eq_true.1 hsz n (DataW.weights_mem_each (j := 1) rfl rfl n hn); simpa using h)
  have lt2 : ∀ x ∈ p2, x.block < W.heap.size := by obtain ⟨m, hm⟩ := h2; exact DataW.trod_lt m _ _ _ hm
  obtain ⟨v, rfl, kv⟩ := open_i64 (hval 2 3 v2 rfl rfl) h2
  have lt3 : ∀ x ∈ p3, x.block < W.heap.size := by obtain ⟨m, hm⟩ := h3; exact DataW.trod_lt m _ _ _ hm
  obtain ⟨lo, hi, rfl, ks1, ks2⟩ := open_span_held (hval 3 23 v3 rfl rfl) h3 (fun n hn => by have h := List.all_eq_true.1 hsz n (DataW.weights_mem_each (j := 3) rfl rfl n hn); simpa using h)
  have lt4 : ∀ x ∈ p4, x.block < W.heap.size := by obtain ⟨m, hm⟩ := h4; exact DataW.trod_lt m _ _ _ hm
  obtain ⟨cm, rfl, kt⟩ := open_bl (hval 4 4 v4 rfl rfl) h4
  clear hA0 hval0
  refine (walk k0 kw0 kl kv ks1 ks2).mono fun e W' ⟨he, bel⟩ => ?_
  subst he
  exact ⟨_, rfl, _, _, _, [], _, [], hW', trodAll_mk1 (shut_bool Try.underlying4 _), (trodAll_cons_mk (Below.trod laidOut (by kernel_rfl) (of_decide_eq_true (by kernel_rfl)) h0 bel lt0) (trodAll_cons_mk (Below.trod laidOut (by kernel_rfl) (of_decide_eq_true (by kernel_rfl)) h1 bel lt1) (trodAll_cons_mk (Below.trod laidOut (by kernel_rfl) (of_decide_eq_true (by kernel_rfl)) h2 bel lt2) (trodAll_cons_mk (Below.trod laidOut (by kernel_rfl) (of_decide_eq_true (by kernel_rfl)) h3 bel lt3) (trodAll_cons_mk (Below.trod laidOut (by kernel_rfl) (of_decide_eq_true (by kernel_rfl)) h4 bel lt4) trodAll_mk0))))), rfl, bel.frame _, fun h => by cases h⟩

theorem over : Rows.accountLocksRow.holds Try.pinned (OpenSpec.ofChange Rows.accountLocksSpec) :=
  OpenClaim.holds_of_wide 4 Try.f4 rfl rfl rfl rfl rfl rfl rfl ⟨rfl, rfl, rfl, rfl, rfl⟩ rfl rfl rfl rfl rfl (by kernel_rfl) Try.func4 (by kernel_rfl)
    (of_decide_eq_true (by kernel_rfl)) (by unfold Func.isWrapper; first | (rw [if_pos (by decide +kernel)]; kernel_rfl) | (rw [if_neg (by decide +kernel)]; exact ⟨rfl, rfl⟩))
    (fun os started H enc _ => lifted os started H enc)

theorem proved : Rows.AccountLocksSaid := over
#print axioms proved
end AccountLocks
theorem accountLocks_holds : Rows.AccountLocksSaid := AccountLocks.proved
end Go.Proofs.Ytfolpnjndlklkab
