/- AccountGrants: what is lent comes out of the room, and goes to that node alone; Base and bounds stay; no condition. -/
import Derived.Test.YtfolpnjndlklkaaAcoX
import Derived.Laws.Tables
import Derived.Deep.Cut
namespace Go.Proofs.Ytfolpnjndlklkaa
namespace AccountGrants
open Go.ChangeShapes Go.WideShapes Go.ChangeAt Go.RowKit Ao
set_option linter.unusedVariables false

/-- what the law asks of the two rooms and the two holders -/
theorem facts {A : Ac} {node lease nodes : Int} (hw : AcW A) (hn : I64 node) (hl : I64 lease) (he : grantE A node lease nodes = 0) :
    ∃ (L : List Hd) (m : Hd), grantA A node lease nodes = { A with hs := L } ∧ findF { A with hs := L } node = some m ∧ m.nd = node ∧ (∀ o, ¬ o = node → findF { A with hs := L } o = findF A o)
      ∧ upOf (findF A node) ≤ m.up ∧ dnOf (findF A node) ≤ m.dn ∧ downR A - downR { A with hs := L } = m.dn - dnOf (findF A node) ∧ upR A - upR { A with hs := L } = m.up - upOf (findF A node)
      ∧ (findF A node = none → m.ls = lease) ∧ (∀ g, findF A node = some g → m.ls = g.ls) ∧ AcW { A with hs := L } ∧ m.up ≤ 9223372036854775807 ∧ m.dn ≤ 9223372036854775807 ∧ 0 ≤ upOf (findF A node) ∧ 0 ≤ dnOf (findF A node)
      ∧ 0 ≤ downR { A with hs := L } ∧ 0 ≤ upR { A with hs := L } := by
  obtain ⟨k1, k2, k3, k4, k5, _, _, _, k6, k7, k8⟩ := grant_said he hw.small
  have e : grantA A node lease nodes = { A with hs := insH (grantH A node lease nodes) A.hs } := by unfold grantA; rw [if_pos he]
  have hR := right_grant he hw.small
  have hr := (grant_ok he).1
  have hwB := acw_grant (nodes := nodes) hw hn hl
  have fA : ∀ o, findF A o = findH A.hs o := fun o => by unfold findF; rw [if_pos ((right_iff _).2 hr)]
  have fB : ∀ o, findF (grantA A node lease nodes) o = findH (grantA A node lease nodes).hs o := fun o => by unfold findF; rw [if_pos ((right_iff _).2 hR)]
  have hmem := hwB.hs _ (find_mem k1).1
  have hnn := of_nonneg hr node
  have hrm := room_nonneg (grantA A node lease nodes)
  refine ⟨insH (grantH A node lease nodes) A.hs, grantH A node lease nodes, e, ?_, rfl, ?_, ?_, ?_, ?_, ?_, ?_, ?_, ?_, hmem.up.2, hmem.dn.2, ?_, ?_, ?_, ?_⟩ <;> (try rw [← e]) <;> (try simp only [fA, fB]) <;> first | assumption | exact hnn.1 | exact hnn.2 | exact hrm.1 | exact hrm.2
set_option maxRecDepth 100000 in
set_option maxHeartbeats 16000000 in
theorem walk {w : World} {a : Option Addr} {n c : Nat} {A : Ac} {node lease nodes : Int} (h : Hs w a n A.hs) (hw : AcW A) (hn : I64 node) (hl : I64 lease) :
    Calls Try.prog 8 #[acval A a n c, .int .i64 node, .int .i64 lease, .int .i64 nodes] w fun e w' => e = .returned (.bool true) ∧ Below w.heap.size w w' := by
  have H := hide h
  have HW := hide hw
  by_cases he : grantE A node lease nodes = 0
  · obtain ⟨L, m, eB, f1, f2, f3, f4, f5, f6, f7, f8, f9, hwB, f10, f11, f12, f13, f14, f15⟩ := facts hw hn hl he
    obtain ⟨d, ed⟩ : ∃ d, d = downR A := ⟨_, rfl⟩
    obtain ⟨u, eu⟩ : ∃ u, u = upR A := ⟨_, rfl⟩
    obtain ⟨d', ed'⟩ : ∃ d, d = downR { A with hs := L } := ⟨_, rfl⟩
    obtain ⟨u', eu'⟩ : ∃ u, u = upR { A with hs := L } := ⟨_, rfl⟩
    rw [← ed, ← ed'] at f6
    rw [← eu, ← eu'] at f7
    rw [← ed'] at f14
    rw [← eu'] at f15
    have EE := hide he
    have EB := hide eB
    have HWB := hide hwB
    have ED := hide ed.symm
    have EU := hide eu.symm
    have ED' := hide ed'.symm
    have EU' := hide eu'.symm
    have FO := hide f3
    have G1 : Hid ((findF { A with hs := L } node).getD hd0 = m) := by show _ = _; rw [f1]; rfl
    have G2 : Hid ((findF { A with hs := L } node).isSome = true) := by show _ = _; rw [f1]; rfl
    obtain ⟨mn, ml, mu, md⟩ := m
    obtain rfl : mn = node := f2
    clear h hw hn hl he eB f1 f3 hwB ed eu ed' eu'
    cases hf : findF A mn with
    | none =>
      have G3 : Hid ((findF A mn).getD hd0 = ⟨0, 0, 0, 0⟩) := by show _ = _; rw [hf]; rfl
      have G4 : Hid ((findF A mn).isSome = false) := by show _ = _; rw [hf]; rfl
      obtain rfl : ml = lease := f8 hf
      rw [hf] at f4 f5 f6 f7 f12 f13
      simp only [upOf, dnOf] at f4 f5 f6 f7
      dsimp only at f4 f5 f6 f7 f10 f11 f12 f13 f14 f15
      clear f8 f9 hf
      have k1 : IntKind.u64.wrap (d - d') = md := by rw [wrapU]; omega
      have k2 : IntKind.u64.wrap (u - u') = mu := by rw [wrapU]; omega
      have k3 : IntKind.i64.wrap (md) = md := by rw [IntKind.wrap_i64]; omega
      have k4 : IntKind.i64.wrap (mu) = mu := by rw [IntKind.wrap_i64]; omega
      have k5 : IntKind.u64.wrap (md) = md := by rw [wrapU]; omega
      have k6 : IntKind.u64.wrap (mu) = mu := by rw [wrapU]; omega
      have k7 : ¬ mu < 0 := by omega
      have k8 : ¬ md < 0 := by omega
      clear f4 f5 f6 f7 f10 f11 f12 f13 f14 f15
      unfold acval
      go_enter Try.func8, Try.ntmps8
      go_wp2_with fail
      obtain ⟨w1, ew, hb1, ha1⟩ := one_new w A a n c
      rw [← ew]
      have HB1 := hide hb1
      have HA := hide ha1
      have H := hide (H.out.below hb1)
      clear hb1 ha1 ew
      have HL : Hid (w.heap.size < w1.heap.size) := HA.out.lt
      refine (awake_any _).mono ?_
      rintro e w2 ⟨rfl, hb⟩
      have HB2 : Hid (Below w.heap.size w w2) := HB1.out.trans (hb.mono HB1.out.size)
      have H := hide (H.out.below hb)
      have HA := hide (HA.out.below hb)
      clear hb
      obtain ⟨z0, z1, z2, z3, z4, z5, z6, z7, z8, z9⟩ := HA.out.at_
      have zl : w.heap.size < w2.heap.size := HA.out.lt
      go_wp2_with fail
      clear z0 z1 z2 z3 z4 z5 z6 z7 z8 z9 zl
      refine (grant_x H.out HW.out EB.out EE.out).mono ?_
      rintro e w3 ⟨a2, n2, c2, rfl, hh, hb, _, hc⟩
      have HB3 : Hid (Below w.heap.size w w3) := HB2.out.trans (hb.mono HB2.out.size)
      have H := hide (H.out.below hb)
      have HA := hide (HA.out.below hb)
      have HH := hide hh
      clear hb hh
      clear hc
      obtain ⟨z0, z1, z2, z3, z4, z5, z6, z7, z8, z9⟩ := HA.out.at_
      have zl : w.heap.size < w3.heap.size := HA.out.lt
      go_wp2_with fail
      clear z0 z1 z2 z3 z4 z5 z6 z7 z8 z9 zl
      obtain ⟨w4, ew, hbu, hau⟩ := one_new w3 { A with hs := L } a2 n2 c2
      rw [← ew]
      have HB4 : Hid (Below w.heap.size w w4) := HB3.out.trans (hbu.mono HB3.out.size)
      have H := hide (H.out.below hbu)
      have HH := hide (HH.out.below hbu)
      have HA := hide (HA.out.below hbu)
      obtain ⟨q1, eq⟩ : ∃ q1, q1 = w3.heap.size := ⟨_, rfl⟩
      rw [← eq] at hau
      try rw [← eq]
      have HX := hide hau
      clear ew hbu hau eq
      refine (find_x HH.out HWB.out G1.out G2.out).mono ?_
      rintro e w5 ⟨rfl, hb⟩
      have HB5 : Hid (Below w.heap.size w w5) := HB4.out.trans (hb.mono HB4.out.size)
      have H := hide (H.out.below hb)
      have HH := hide (HH.out.below hb)
      have HA := hide (HA.out.below hb)
      have HX := hide (HX.out.below hb)
      clear hb
      obtain ⟨z0, z1, z2, z3, z4, z5, z6, z7, z8, z9⟩ := HA.out.at_
      have zl : w.heap.size < w5.heap.size := HA.out.lt
      obtain ⟨y0, y1, y2, y3, y4, y5, y6, y7, y8, y9⟩ := HX.out.at_
      have yl : q1 < w5.heap.size := HX.out.lt
      go_wp2_with fail
      clear z0 z1 z2 z3 z4 z5 z6 z7 z8 z9 zl y0 y1 y2 y3 y4 y5 y6 y7 y8 y9 yl
      obtain ⟨w6, ew, hbu, hau⟩ := hk_new w5 ⟨mn, ml, mu, md⟩
      rw [← ew]
      have HB6 : Hid (Below w.heap.size w w6) := HB5.out.trans (hbu.mono HB5.out.size)
      have H := hide (H.out.below hbu)
      have HH := hide (HH.out.below hbu)
      have HA := hide (HA.out.below hbu)
      have HX := hide (HX.out.below hbu)
      obtain ⟨q2, eq⟩ : ∃ q2, q2 = w5.heap.size := ⟨_, rfl⟩
      rw [← eq] at hau
      try rw [← eq]
      have HM := hide hau
      clear ew hbu hau eq
      refine (find_x H.out HW.out G3.out G4.out).mono ?_
      rintro e w7 ⟨rfl, hb⟩
      have HB7 : Hid (Below w.heap.size w w7) := HB6.out.trans (hb.mono HB6.out.size)
      have H := hide (H.out.below hb)
      have HH := hide (HH.out.below hb)
      have HM := hide (HM.out.below hb)
      have HA := hide (HA.out.below hb)
      have HX := hide (HX.out.below hb)
      clear hb
      obtain ⟨z0, z1, z2, z3, z4, z5, z6, z7, z8, z9⟩ := HA.out.at_
      have zl : w.heap.size < w7.heap.size := HA.out.lt
      obtain ⟨y0, y1, y2, y3, y4, y5, y6, y7, y8, y9⟩ := HX.out.at_
      have yl : q1 < w7.heap.size := HX.out.lt
      go_wp2_with fail
      clear z0 z1 z2 z3 z4 z5 z6 z7 z8 z9 zl y0 y1 y2 y3 y4 y5 y6 y7 y8 y9 yl
      obtain ⟨w8, ew, hbu, hau⟩ := hk_new w7 ⟨0, 0, 0, 0⟩
      rw [← ew]
      have HB8 : Hid (Below w.heap.size w w8) := HB7.out.trans (hbu.mono HB7.out.size)
      have H := hide (H.out.below hbu)
      have HH := hide (HH.out.below hbu)
      have HM := hide (HM.out.below hbu)
      have HA := hide (HA.out.below hbu)
      have HX := hide (HX.out.below hbu)
      obtain ⟨q3, eq⟩ : ∃ q3, q3 = w7.heap.size := ⟨_, rfl⟩
      rw [← eq] at hau
      try rw [← eq]
      have HG := hide hau
      clear ew hbu hau eq
      refine (room_x H.out HW.out ED.out EU.out).mono ?_
      rintro e w9 ⟨rfl, hb⟩
      have HB9 : Hid (Below w.heap.size w w9) := HB8.out.trans (hb.mono HB8.out.size)
      have H := hide (H.out.below hb)
      have HH := hide (HH.out.below hb)
      have HM := hide (HM.out.below hb)
      have HG := hide (HG.out.below hb)
      have HA := hide (HA.out.below hb)
      have HX := hide (HX.out.below hb)
      clear hb
      obtain ⟨z0, z1, z2, z3, z4, z5, z6, z7, z8, z9⟩ := HA.out.at_
      have zl : w.heap.size < w9.heap.size := HA.out.lt
      obtain ⟨y0, y1, y2, y3, y4, y5, y6, y7, y8, y9⟩ := HX.out.at_
      have yl : q1 < w9.heap.size := HX.out.lt
      go_wp2_with fail
      clear z0 z1 z2 z3 z4 z5 z6 z7 z8 z9 zl y0 y1 y2 y3 y4 y5 y6 y7 y8 y9 yl
      refine (room_x HH.out HWB.out ED'.out EU'.out).mono ?_
      rintro e w10 ⟨rfl, hb⟩
      have HB10 : Hid (Below w.heap.size w w10) := HB9.out.trans (hb.mono HB9.out.size)
      have H := hide (H.out.below hb)
      have HH := hide (HH.out.below hb)
      have HM := hide (HM.out.below hb)
      have HG := hide (HG.out.below hb)
      have HA := hide (HA.out.below hb)
      have HX := hide (HX.out.below hb)
      clear hb
      obtain ⟨b0, b1, b2, b3⟩ := HM.out.at_
      have bl := HM.out.lt
      obtain ⟨e0, e1, e2, e3⟩ := HG.out.at_
      have el := HG.out.lt
      obtain ⟨z0, z1, z2, z3, z4, z5, z6, z7, z8, z9⟩ := HA.out.at_
      have zl : w.heap.size < w10.heap.size := HA.out.lt
      obtain ⟨y0, y1, y2, y3, y4, y5, y6, y7, y8, y9⟩ := HX.out.at_
      have yl : q1 < w10.heap.size := HX.out.lt
      go_upto_region 12 with fail
      clear b0 b1 b2 b3 bl e0 e1 e2 e3 el z0 z1 z2 z3 z4 z5 z6 z7 z8 z9 zl y0 y1 y2 y3 y4 y5 y6 y7 y8 y9 yl k1 k2 k3 k4 k5 k6 k7 k8 HM HG
      go_wp2_with fail
      go_loopw [19, 20, 21, 22, 23] (fun iv _ _ _ _ wr => ∃ k : Nat, 1 ≤ k ∧ k ≤ 6 ∧ iv = .int .i64 k ∧ Hid (Below w.heap.size w wr) ∧ Hid (Ab wr w.heap.size A a n c) ∧ Hid (Ab wr q1 { A with hs := L } a2 n2 c2) ∧ Hid (Hs wr a n A.hs) ∧ Hid (Hs wr a2 n2 ({ A with hs := L } : Ac).hs)) (fun iv _ _ _ _ _ => 6 - (intOf iv).toNat)
      case atStart => exact ⟨1, by omega, by omega, rfl, HB10.out, HA.out, HX.out, H.out, HH.out⟩
      case round =>
        obtain ⟨k, hk1, hk6, rfl, HB, RA, RX, RH, RHH⟩ := hrel
        clear HA HX H HH
        by_cases hlt : k < 6
        · have i1 : (k : Int) ≤ 5 := by omega
          obtain ⟨z, ez⟩ : ∃ z, z = (findF A (k : Int)).getD hd0 := ⟨_, rfl⟩
          obtain ⟨b, eb⟩ : ∃ b, b = (findF A (k : Int)).isSome := ⟨_, rfl⟩
          have EZ := hide ez.symm
          have EBB := hide eb.symm
          obtain ⟨y, ey⟩ : ∃ z, z = (findF { A with hs := L } (k : Int)).getD hd0 := ⟨_, rfl⟩
          obtain ⟨b', eb'⟩ : ∃ b, b = (findF { A with hs := L } (k : Int)).isSome := ⟨_, rfl⟩
          have EY := hide ey.symm
          have EBB' := hide eb'.symm
          have EQ : Hid (¬ (k : Int) = mn → y = z ∧ b' = b) := fun hne => by rw [ey, ez, eb, eb', FO.out _ hne]; exact ⟨rfl, rfl⟩
          clear ez eb ey eb'
          obtain ⟨z0, z1, z2, z3, z4, z5, z6, z7, z8, z9⟩ := RA.out.at_
          have zl := RA.out.lt
          obtain ⟨y0, y1, y2, y3, y4, y5, y6, y7, y8, y9⟩ := RX.out.at_
          have yl := RX.out.lt
          go_wp2_with fail
          clear z0 z1 z2 z3 z4 z5 z6 z7 z8 z9 zl y0 y1 y2 y3 y4 y5 y6 y7 y8 y9 yl
          refine (find_x RHH.out HWB.out EY.out EBB'.out).mono ?_
          rintro e u1 ⟨rfl, hb⟩
          obtain ⟨u2, eu2, hbu, hau⟩ := hk_new u1 y
          have BB : Below wr.heap.size wr u2 := hb.trans (hbu.mono hb.size)
          have HB2 : Hid (Below w.heap.size w u2) := HB.out.trans (BB.mono HB.out.size)
          have RA2 := hide (RA.out.below BB)
          have RX2 := hide (RX.out.below BB)
          have RH2 := hide (RH.out.below BB)
          have RHH2 := hide (RHH.out.below BB)
          have HKY := hide hau
          obtain ⟨p1, ep1⟩ : ∃ p, p = u1.heap.size := ⟨_, rfl⟩
          rw [← ep1] at HKY
          have EU2 := hide eu2
          have EP1 := hide ep1
          clear hb hbu hau BB eu2 ep1
          obtain ⟨z0, z1, z2, z3, z4, z5, z6, z7, z8, z9⟩ := RA2.out.at_
          have zl := RA2.out.lt
          have hul : u1.heap.size < u2.heap.size := by rw [EU2.out]; simp
          go_upto_region 16 with fail
          rw [← EU2.out]
          try rw [← EP1.out]
          go_wp2_with fail
          clear z0 z1 z2 z3 z4 z5 z6 z7 z8 z9 zl hul
          refine (find_x RH2.out HW.out EZ.out EBB.out).mono ?_
          rintro e u3 ⟨rfl, hb⟩
          obtain ⟨u4, eu4, hbu, hau⟩ := hk_new u3 z
          have BB : Below u2.heap.size u2 u4 := hb.trans (hbu.mono hb.size)
          have HB4 : Hid (Below w.heap.size w u4) := HB2.out.trans (BB.mono HB2.out.size)
          have RA4 := hide (RA2.out.below BB)
          have RX4 := hide (RX2.out.below BB)
          have RH4 := hide (RH2.out.below BB)
          have RHH4 := hide (RHH2.out.below BB)
          have HKY4 := hide (HKY.out.below BB)
          have HKZ4 := hide hau
          obtain ⟨p2, ep2⟩ : ∃ p, p = u3.heap.size := ⟨_, rfl⟩
          rw [← ep2] at HKZ4
          have EU4 := hide eu4
          have EP2 := hide ep2
          clear hb hbu hau BB eu4 ep2
          go_upto_region 17 with fail
          rw [← EU4.out]
          try rw [← EP2.out]
          clear RA RX RH RHH RA2 RX2 RH2 RHH2 HKY HB HB2 EU2 EU4 EP1 EP2
          by_cases hkn : (k : Int) = mn
          · have kn1 : ((k : Int) != mn) = false := by simpa using hkn
            clear EQ
            go_wp2_with fail
            go_roundw
            case rel => exact ⟨k + 1, by omega, by omega, by go_num, HB4.out, RA4.out, RX4.out, RH4.out, RHH4.out⟩
            case measure => simp [intOf]; omega
          · obtain ⟨rfl, rfl⟩ := EQ.out hkn
            clear EQ
            obtain ⟨c0, c1, c2', c3⟩ := HKY4.out.at_
            have cl := HKY4.out.lt
            obtain ⟨d0, d1, d2, d3⟩ := HKZ4.out.at_
            have dl := HKZ4.out.lt
            go_wp2_with fail
            go_roundw
            case rel => exact ⟨k + 1, by omega, by omega, by go_num, HB4.out, RA4.out, RX4.out, RH4.out, RHH4.out⟩
            case measure => simp [intOf]; omega
        · obtain rfl : k = 6 := by omega
          go_wp2_with fail
          go_returns
          exact ⟨rfl, HB.out⟩
    | some g =>
      have G3 : Hid ((findF A mn).getD hd0 = g) := by show _ = _; rw [hf]; rfl
      have G4 : Hid ((findF A mn).isSome = true) := by show _ = _; rw [hf]; rfl
      obtain ⟨gn, gl, gu, gd⟩ := g
      obtain rfl : ml = gl := f9 _ hf
      rw [hf] at f4 f5 f6 f7 f12 f13
      simp only [upOf, dnOf] at f4 f5 f6 f7 f12 f13
      dsimp only at f4 f5 f6 f7 f10 f11 f12 f13 f14 f15
      clear f8 f9 hf
      by_cases hml : ml = lease
      · subst hml
        have k1 : IntKind.u64.wrap (d - d') = md - gd := by rw [wrapU]; omega
        have k2 : IntKind.u64.wrap (u - u') = mu - gu := by rw [wrapU]; omega
        have k3 : IntKind.i64.wrap (md - gd) = md - gd := by rw [IntKind.wrap_i64]; omega
        have k4 : IntKind.i64.wrap (mu - gu) = mu - gu := by rw [IntKind.wrap_i64]; omega
        have k5 : IntKind.u64.wrap (md - gd) = md - gd := by rw [wrapU]; omega
        have k6 : IntKind.u64.wrap (mu - gu) = mu - gu := by rw [wrapU]; omega
        have k7 : ¬ mu < gu := by omega
        have k8 : ¬ md < gd := by omega
        clear f4 f5 f6 f7 f10 f11 f12 f13 f14 f15
        unfold acval
        go_enter Try.func8, Try.ntmps8
        go_wp2_with fail
        obtain ⟨w1, ew, hb1, ha1⟩ := one_new w A a n c
        rw [← ew]
        have HB1 := hide hb1
        have HA := hide ha1
        have H := hide (H.out.below hb1)
        clear hb1 ha1 ew
        have HL : Hid (w.heap.size < w1.heap.size) := HA.out.lt
        refine (awake_any _).mono ?_
        rintro e w2 ⟨rfl, hb⟩
        have HB2 : Hid (Below w.heap.size w w2) := HB1.out.trans (hb.mono HB1.out.size)
        have H := hide (H.out.below hb)
        have HA := hide (HA.out.below hb)
        clear hb
        obtain ⟨z0, z1, z2, z3, z4, z5, z6, z7, z8, z9⟩ := HA.out.at_
        have zl : w.heap.size < w2.heap.size := HA.out.lt
        go_wp2_with fail
        clear z0 z1 z2 z3 z4 z5 z6 z7 z8 z9 zl
        refine (grant_x H.out HW.out EB.out EE.out).mono ?_
        rintro e w3 ⟨a2, n2, c2, rfl, hh, hb, _, hc⟩
        have HB3 : Hid (Below w.heap.size w w3) := HB2.out.trans (hb.mono HB2.out.size)
        have H := hide (H.out.below hb)
        have HA := hide (HA.out.below hb)
        have HH := hide hh
        clear hb hh
        clear hc
        obtain ⟨z0, z1, z2, z3, z4, z5, z6, z7, z8, z9⟩ := HA.out.at_
        have zl : w.heap.size < w3.heap.size := HA.out.lt
        go_wp2_with fail
        clear z0 z1 z2 z3 z4 z5 z6 z7 z8 z9 zl
        obtain ⟨w4, ew, hbu, hau⟩ := one_new w3 { A with hs := L } a2 n2 c2
        rw [← ew]
        have HB4 : Hid (Below w.heap.size w w4) := HB3.out.trans (hbu.mono HB3.out.size)
        have H := hide (H.out.below hbu)
        have HH := hide (HH.out.below hbu)
        have HA := hide (HA.out.below hbu)
        obtain ⟨q1, eq⟩ : ∃ q1, q1 = w3.heap.size := ⟨_, rfl⟩
        rw [← eq] at hau
        try rw [← eq]
        have HX := hide hau
        clear ew hbu hau eq
        refine (find_x HH.out HWB.out G1.out G2.out).mono ?_
        rintro e w5 ⟨rfl, hb⟩
        have HB5 : Hid (Below w.heap.size w w5) := HB4.out.trans (hb.mono HB4.out.size)
        have H := hide (H.out.below hb)
        have HH := hide (HH.out.below hb)
        have HA := hide (HA.out.below hb)
        have HX := hide (HX.out.below hb)
        clear hb
        obtain ⟨z0, z1, z2, z3, z4, z5, z6, z7, z8, z9⟩ := HA.out.at_
        have zl : w.heap.size < w5.heap.size := HA.out.lt
        obtain ⟨y0, y1, y2, y3, y4, y5, y6, y7, y8, y9⟩ := HX.out.at_
        have yl : q1 < w5.heap.size := HX.out.lt
        go_wp2_with fail
        clear z0 z1 z2 z3 z4 z5 z6 z7 z8 z9 zl y0 y1 y2 y3 y4 y5 y6 y7 y8 y9 yl
        obtain ⟨w6, ew, hbu, hau⟩ := hk_new w5 ⟨mn, ml, mu, md⟩
        rw [← ew]
        have HB6 : Hid (Below w.heap.size w w6) := HB5.out.trans (hbu.mono HB5.out.size)
        have H := hide (H.out.below hbu)
        have HH := hide (HH.out.below hbu)
        have HA := hide (HA.out.below hbu)
        have HX := hide (HX.out.below hbu)
        obtain ⟨q2, eq⟩ : ∃ q2, q2 = w5.heap.size := ⟨_, rfl⟩
        rw [← eq] at hau
        try rw [← eq]
        have HM := hide hau
        clear ew hbu hau eq
        refine (find_x H.out HW.out G3.out G4.out).mono ?_
        rintro e w7 ⟨rfl, hb⟩
        have HB7 : Hid (Below w.heap.size w w7) := HB6.out.trans (hb.mono HB6.out.size)
        have H := hide (H.out.below hb)
        have HH := hide (HH.out.below hb)
        have HM := hide (HM.out.below hb)
        have HA := hide (HA.out.below hb)
        have HX := hide (HX.out.below hb)
        clear hb
        obtain ⟨z0, z1, z2, z3, z4, z5, z6, z7, z8, z9⟩ := HA.out.at_
        have zl : w.heap.size < w7.heap.size := HA.out.lt
        obtain ⟨y0, y1, y2, y3, y4, y5, y6, y7, y8, y9⟩ := HX.out.at_
        have yl : q1 < w7.heap.size := HX.out.lt
        go_wp2_with fail
        clear z0 z1 z2 z3 z4 z5 z6 z7 z8 z9 zl y0 y1 y2 y3 y4 y5 y6 y7 y8 y9 yl
        obtain ⟨w8, ew, hbu, hau⟩ := hk_new w7 ⟨gn, ml, gu, gd⟩
        rw [← ew]
        have HB8 : Hid (Below w.heap.size w w8) := HB7.out.trans (hbu.mono HB7.out.size)
        have H := hide (H.out.below hbu)
        have HH := hide (HH.out.below hbu)
        have HM := hide (HM.out.below hbu)
        have HA := hide (HA.out.below hbu)
        have HX := hide (HX.out.below hbu)
        obtain ⟨q3, eq⟩ : ∃ q3, q3 = w7.heap.size := ⟨_, rfl⟩
        rw [← eq] at hau
        try rw [← eq]
        have HG := hide hau
        clear ew hbu hau eq
        refine (room_x H.out HW.out ED.out EU.out).mono ?_
        rintro e w9 ⟨rfl, hb⟩
        have HB9 : Hid (Below w.heap.size w w9) := HB8.out.trans (hb.mono HB8.out.size)
        have H := hide (H.out.below hb)
        have HH := hide (HH.out.below hb)
        have HM := hide (HM.out.below hb)
        have HG := hide (HG.out.below hb)
        have HA := hide (HA.out.below hb)
        have HX := hide (HX.out.below hb)
        clear hb
        obtain ⟨z0, z1, z2, z3, z4, z5, z6, z7, z8, z9⟩ := HA.out.at_
        have zl : w.heap.size < w9.heap.size := HA.out.lt
        obtain ⟨y0, y1, y2, y3, y4, y5, y6, y7, y8, y9⟩ := HX.out.at_
        have yl : q1 < w9.heap.size := HX.out.lt
        go_wp2_with fail
        clear z0 z1 z2 z3 z4 z5 z6 z7 z8 z9 zl y0 y1 y2 y3 y4 y5 y6 y7 y8 y9 yl
        refine (room_x HH.out HWB.out ED'.out EU'.out).mono ?_
        rintro e w10 ⟨rfl, hb⟩
        have HB10 : Hid (Below w.heap.size w w10) := HB9.out.trans (hb.mono HB9.out.size)
        have H := hide (H.out.below hb)
        have HH := hide (HH.out.below hb)
        have HM := hide (HM.out.below hb)
        have HG := hide (HG.out.below hb)
        have HA := hide (HA.out.below hb)
        have HX := hide (HX.out.below hb)
        clear hb
        obtain ⟨b0, b1, b2, b3⟩ := HM.out.at_
        have bl := HM.out.lt
        obtain ⟨e0, e1, e2, e3⟩ := HG.out.at_
        have el := HG.out.lt
        obtain ⟨z0, z1, z2, z3, z4, z5, z6, z7, z8, z9⟩ := HA.out.at_
        have zl : w.heap.size < w10.heap.size := HA.out.lt
        obtain ⟨y0, y1, y2, y3, y4, y5, y6, y7, y8, y9⟩ := HX.out.at_
        have yl : q1 < w10.heap.size := HX.out.lt
        go_upto_region 12 with fail
        clear b0 b1 b2 b3 bl e0 e1 e2 e3 el z0 z1 z2 z3 z4 z5 z6 z7 z8 z9 zl y0 y1 y2 y3 y4 y5 y6 y7 y8 y9 yl k1 k2 k3 k4 k5 k6 k7 k8 HM HG
        go_wp2_with fail
        go_loopw [19, 20, 21, 22, 23] (fun iv _ _ _ _ wr => ∃ k : Nat, 1 ≤ k ∧ k ≤ 6 ∧ iv = .int .i64 k ∧ Hid (Below w.heap.size w wr) ∧ Hid (Ab wr w.heap.size A a n c) ∧ Hid (Ab wr q1 { A with hs := L } a2 n2 c2) ∧ Hid (Hs wr a n A.hs) ∧ Hid (Hs wr a2 n2 ({ A with hs := L } : Ac).hs)) (fun iv _ _ _ _ _ => 6 - (intOf iv).toNat)
        case atStart => exact ⟨1, by omega, by omega, rfl, HB10.out, HA.out, HX.out, H.out, HH.out⟩
        case round =>
          obtain ⟨k, hk1, hk6, rfl, HB, RA, RX, RH, RHH⟩ := hrel
          clear HA HX H HH
          by_cases hlt : k < 6
          · have i1 : (k : Int) ≤ 5 := by omega
            obtain ⟨z, ez⟩ : ∃ z, z = (findF A (k : Int)).getD hd0 := ⟨_, rfl⟩
            obtain ⟨b, eb⟩ : ∃ b, b = (findF A (k : Int)).isSome := ⟨_, rfl⟩
            have EZ := hide ez.symm
            have EBB := hide eb.symm
            obtain ⟨y, ey⟩ : ∃ z, z = (findF { A with hs := L } (k : Int)).getD hd0 := ⟨_, rfl⟩
            obtain ⟨b', eb'⟩ : ∃ b, b = (findF { A with hs := L } (k : Int)).isSome := ⟨_, rfl⟩
            have EY := hide ey.symm
            have EBB' := hide eb'.symm
            have EQ : Hid (¬ (k : Int) = mn → y = z ∧ b' = b) := fun hne => by rw [ey, ez, eb, eb', FO.out _ hne]; exact ⟨rfl, rfl⟩
            clear ez eb ey eb'
            obtain ⟨z0, z1, z2, z3, z4, z5, z6, z7, z8, z9⟩ := RA.out.at_
            have zl := RA.out.lt
            obtain ⟨y0, y1, y2, y3, y4, y5, y6, y7, y8, y9⟩ := RX.out.at_
            have yl := RX.out.lt
            go_wp2_with fail
            clear z0 z1 z2 z3 z4 z5 z6 z7 z8 z9 zl y0 y1 y2 y3 y4 y5 y6 y7 y8 y9 yl
            refine (find_x RHH.out HWB.out EY.out EBB'.out).mono ?_
            rintro e u1 ⟨rfl, hb⟩
            obtain ⟨u2, eu2, hbu, hau⟩ := hk_new u1 y
            have BB : Below wr.heap.size wr u2 := hb.trans (hbu.mono hb.size)
            have HB2 : Hid (Below w.heap.size w u2) := HB.out.trans (BB.mono HB.out.size)
            have RA2 := hide (RA.out.below BB)
            have RX2 := hide (RX.out.below BB)
            have RH2 := hide (RH.out.below BB)
            have RHH2 := hide (RHH.out.below BB)
            have HKY := hide hau
            obtain ⟨p1, ep1⟩ : ∃ p, p = u1.heap.size := ⟨_, rfl⟩
            rw [← ep1] at HKY
            have EU2 := hide eu2
            have EP1 := hide ep1
            clear hb hbu hau BB eu2 ep1
            obtain ⟨z0, z1, z2, z3, z4, z5, z6, z7, z8, z9⟩ := RA2.out.at_
            have zl := RA2.out.lt
            have hul : u1.heap.size < u2.heap.size := by rw [EU2.out]; simp
            go_upto_region 16 with fail
            rw [← EU2.out]
            try rw [← EP1.out]
            go_wp2_with fail
            clear z0 z1 z2 z3 z4 z5 z6 z7 z8 z9 zl hul
            refine (find_x RH2.out HW.out EZ.out EBB.out).mono ?_
            rintro e u3 ⟨rfl, hb⟩
            obtain ⟨u4, eu4, hbu, hau⟩ := hk_new u3 z
            have BB : Below u2.heap.size u2 u4 := hb.trans (hbu.mono hb.size)
            have HB4 : Hid (Below w.heap.size w u4) := HB2.out.trans (BB.mono HB2.out.size)
            have RA4 := hide (RA2.out.below BB)
            have RX4 := hide (RX2.out.below BB)
            have RH4 := hide (RH2.out.below BB)
            have RHH4 := hide (RHH2.out.below BB)
            have HKY4 := hide (HKY.out.below BB)
            have HKZ4 := hide hau
            obtain ⟨p2, ep2⟩ : ∃ p, p = u3.heap.size := ⟨_, rfl⟩
            rw [← ep2] at HKZ4
            have EU4 := hide eu4
            have EP2 := hide ep2
            clear hb hbu hau BB eu4 ep2
            go_upto_region 17 with fail
            rw [← EU4.out]
            try rw [← EP2.out]
            clear RA RX RH RHH RA2 RX2 RH2 RHH2 HKY HB HB2 EU2 EU4 EP1 EP2
            by_cases hkn : (k : Int) = mn
            · have kn1 : ((k : Int) != mn) = false := by simpa using hkn
              clear EQ
              go_wp2_with fail
              go_roundw
              case rel => exact ⟨k + 1, by omega, by omega, by go_num, HB4.out, RA4.out, RX4.out, RH4.out, RHH4.out⟩
              case measure => simp [intOf]; omega
            · obtain ⟨rfl, rfl⟩ := EQ.out hkn
              clear EQ
              obtain ⟨c0, c1, c2', c3⟩ := HKY4.out.at_
              have cl := HKY4.out.lt
              obtain ⟨d0, d1, d2, d3⟩ := HKZ4.out.at_
              have dl := HKZ4.out.lt
              go_wp2_with fail
              go_roundw
              case rel => exact ⟨k + 1, by omega, by omega, by go_num, HB4.out, RA4.out, RX4.out, RH4.out, RHH4.out⟩
              case measure => simp [intOf]; omega
          · obtain rfl : k = 6 := by omega
            go_wp2_with fail
            go_returns
            exact ⟨rfl, HB.out⟩
      · have k9 : ¬ ml = lease := hml
        have k1 : IntKind.u64.wrap (d - d') = md - gd := by rw [wrapU]; omega
        have k2 : IntKind.u64.wrap (u - u') = mu - gu := by rw [wrapU]; omega
        have k3 : IntKind.i64.wrap (md - gd) = md - gd := by rw [IntKind.wrap_i64]; omega
        have k4 : IntKind.i64.wrap (mu - gu) = mu - gu := by rw [IntKind.wrap_i64]; omega
        have k5 : IntKind.u64.wrap (md - gd) = md - gd := by rw [wrapU]; omega
        have k6 : IntKind.u64.wrap (mu - gu) = mu - gu := by rw [wrapU]; omega
        have k7 : ¬ mu < gu := by omega
        have k8 : ¬ md < gd := by omega
        clear f4 f5 f6 f7 f10 f11 f12 f13 f14 f15
        unfold acval
        go_enter Try.func8, Try.ntmps8
        go_wp2_with fail
        obtain ⟨w1, ew, hb1, ha1⟩ := one_new w A a n c
        rw [← ew]
        have HB1 := hide hb1
        have HA := hide ha1
        have H := hide (H.out.below hb1)
        clear hb1 ha1 ew
        have HL : Hid (w.heap.size < w1.heap.size) := HA.out.lt
        refine (awake_any _).mono ?_
        rintro e w2 ⟨rfl, hb⟩
        have HB2 : Hid (Below w.heap.size w w2) := HB1.out.trans (hb.mono HB1.out.size)
        have H := hide (H.out.below hb)
        have HA := hide (HA.out.below hb)
        clear hb
        obtain ⟨z0, z1, z2, z3, z4, z5, z6, z7, z8, z9⟩ := HA.out.at_
        have zl : w.heap.size < w2.heap.size := HA.out.lt
        go_wp2_with fail
        clear z0 z1 z2 z3 z4 z5 z6 z7 z8 z9 zl
        refine (grant_x H.out HW.out EB.out EE.out).mono ?_
        rintro e w3 ⟨a2, n2, c2, rfl, hh, hb, _, hc⟩
        have HB3 : Hid (Below w.heap.size w w3) := HB2.out.trans (hb.mono HB2.out.size)
        have H := hide (H.out.below hb)
        have HA := hide (HA.out.below hb)
        have HH := hide hh
        clear hb hh
        clear hc
        obtain ⟨z0, z1, z2, z3, z4, z5, z6, z7, z8, z9⟩ := HA.out.at_
        have zl : w.heap.size < w3.heap.size := HA.out.lt
        go_wp2_with fail
        clear z0 z1 z2 z3 z4 z5 z6 z7 z8 z9 zl
        obtain ⟨w4, ew, hbu, hau⟩ := one_new w3 { A with hs := L } a2 n2 c2
        rw [← ew]
        have HB4 : Hid (Below w.heap.size w w4) := HB3.out.trans (hbu.mono HB3.out.size)
        have H := hide (H.out.below hbu)
        have HH := hide (HH.out.below hbu)
        have HA := hide (HA.out.below hbu)
        obtain ⟨q1, eq⟩ : ∃ q1, q1 = w3.heap.size := ⟨_, rfl⟩
        rw [← eq] at hau
        try rw [← eq]
        have HX := hide hau
        clear ew hbu hau eq
        refine (find_x HH.out HWB.out G1.out G2.out).mono ?_
        rintro e w5 ⟨rfl, hb⟩
        have HB5 : Hid (Below w.heap.size w w5) := HB4.out.trans (hb.mono HB4.out.size)
        have H := hide (H.out.below hb)
        have HH := hide (HH.out.below hb)
        have HA := hide (HA.out.below hb)
        have HX := hide (HX.out.below hb)
        clear hb
        obtain ⟨z0, z1, z2, z3, z4, z5, z6, z7, z8, z9⟩ := HA.out.at_
        have zl : w.heap.size < w5.heap.size := HA.out.lt
        obtain ⟨y0, y1, y2, y3, y4, y5, y6, y7, y8, y9⟩ := HX.out.at_
        have yl : q1 < w5.heap.size := HX.out.lt
        go_wp2_with fail
        clear z0 z1 z2 z3 z4 z5 z6 z7 z8 z9 zl y0 y1 y2 y3 y4 y5 y6 y7 y8 y9 yl
        obtain ⟨w6, ew, hbu, hau⟩ := hk_new w5 ⟨mn, ml, mu, md⟩
        rw [← ew]
        have HB6 : Hid (Below w.heap.size w w6) := HB5.out.trans (hbu.mono HB5.out.size)
        have H := hide (H.out.below hbu)
        have HH := hide (HH.out.below hbu)
        have HA := hide (HA.out.below hbu)
        have HX := hide (HX.out.below hbu)
        obtain ⟨q2, eq⟩ : ∃ q2, q2 = w5.heap.size := ⟨_, rfl⟩
        rw [← eq] at hau
        try rw [← eq]
        have HM := hide hau
        clear ew hbu hau eq
        refine (find_x H.out HW.out G3.out G4.out).mono ?_
        rintro e w7 ⟨rfl, hb⟩
        have HB7 : Hid (Below w.heap.size w w7) := HB6.out.trans (hb.mono HB6.out.size)
        have H := hide (H.out.below hb)
        have HH := hide (HH.out.below hb)
        have HM := hide (HM.out.below hb)
        have HA := hide (HA.out.below hb)
        have HX := hide (HX.out.below hb)
        clear hb
        obtain ⟨z0, z1, z2, z3, z4, z5, z6, z7, z8, z9⟩ := HA.out.at_
        have zl : w.heap.size < w7.heap.size := HA.out.lt
        obtain ⟨y0, y1, y2, y3, y4, y5, y6, y7, y8, y9⟩ := HX.out.at_
        have yl : q1 < w7.heap.size := HX.out.lt
        go_wp2_with fail
        clear z0 z1 z2 z3 z4 z5 z6 z7 z8 z9 zl y0 y1 y2 y3 y4 y5 y6 y7 y8 y9 yl
        obtain ⟨w8, ew, hbu, hau⟩ := hk_new w7 ⟨gn, ml, gu, gd⟩
        rw [← ew]
        have HB8 : Hid (Below w.heap.size w w8) := HB7.out.trans (hbu.mono HB7.out.size)
        have H := hide (H.out.below hbu)
        have HH := hide (HH.out.below hbu)
        have HM := hide (HM.out.below hbu)
        have HA := hide (HA.out.below hbu)
        have HX := hide (HX.out.below hbu)
        obtain ⟨q3, eq⟩ : ∃ q3, q3 = w7.heap.size := ⟨_, rfl⟩
        rw [← eq] at hau
        try rw [← eq]
        have HG := hide hau
        clear ew hbu hau eq
        refine (room_x H.out HW.out ED.out EU.out).mono ?_
        rintro e w9 ⟨rfl, hb⟩
        have HB9 : Hid (Below w.heap.size w w9) := HB8.out.trans (hb.mono HB8.out.size)
        have H := hide (H.out.below hb)
        have HH := hide (HH.out.below hb)
        have HM := hide (HM.out.below hb)
        have HG := hide (HG.out.below hb)
        have HA := hide (HA.out.below hb)
        have HX := hide (HX.out.below hb)
        clear hb
        obtain ⟨z0, z1, z2, z3, z4, z5, z6, z7, z8, z9⟩ := HA.out.at_
        have zl : w.heap.size < w9.heap.size := HA.out.lt
        obtain ⟨y0, y1, y2, y3, y4, y5, y6, y7, y8, y9⟩ := HX.out.at_
        have yl : q1 < w9.heap.size := HX.out.lt
        go_wp2_with fail
        clear z0 z1 z2 z3 z4 z5 z6 z7 z8 z9 zl y0 y1 y2 y3 y4 y5 y6 y7 y8 y9 yl
        refine (room_x HH.out HWB.out ED'.out EU'.out).mono ?_
        rintro e w10 ⟨rfl, hb⟩
        have HB10 : Hid (Below w.heap.size w w10) := HB9.out.trans (hb.mono HB9.out.size)
        have H := hide (H.out.below hb)
        have HH := hide (HH.out.below hb)
        have HM := hide (HM.out.below hb)
        have HG := hide (HG.out.below hb)
        have HA := hide (HA.out.below hb)
        have HX := hide (HX.out.below hb)
        clear hb
        obtain ⟨b0, b1, b2, b3⟩ := HM.out.at_
        have bl := HM.out.lt
        obtain ⟨e0, e1, e2, e3⟩ := HG.out.at_
        have el := HG.out.lt
        obtain ⟨z0, z1, z2, z3, z4, z5, z6, z7, z8, z9⟩ := HA.out.at_
        have zl : w.heap.size < w10.heap.size := HA.out.lt
        obtain ⟨y0, y1, y2, y3, y4, y5, y6, y7, y8, y9⟩ := HX.out.at_
        have yl : q1 < w10.heap.size := HX.out.lt
        go_upto_region 12 with fail
        clear b0 b1 b2 b3 bl e0 e1 e2 e3 el z0 z1 z2 z3 z4 z5 z6 z7 z8 z9 zl y0 y1 y2 y3 y4 y5 y6 y7 y8 y9 yl k1 k2 k3 k4 k5 k6 k7 k8 HM HG
        go_wp2_with fail
        go_loopw [19, 20, 21, 22, 23] (fun iv _ _ _ _ wr => ∃ k : Nat, 1 ≤ k ∧ k ≤ 6 ∧ iv = .int .i64 k ∧ Hid (Below w.heap.size w wr) ∧ Hid (Ab wr w.heap.size A a n c) ∧ Hid (Ab wr q1 { A with hs := L } a2 n2 c2) ∧ Hid (Hs wr a n A.hs) ∧ Hid (Hs wr a2 n2 ({ A with hs := L } : Ac).hs)) (fun iv _ _ _ _ _ => 6 - (intOf iv).toNat)
        case atStart => exact ⟨1, by omega, by omega, rfl, HB10.out, HA.out, HX.out, H.out, HH.out⟩
        case round =>
          obtain ⟨k, hk1, hk6, rfl, HB, RA, RX, RH, RHH⟩ := hrel
          clear HA HX H HH
          by_cases hlt : k < 6
          · have i1 : (k : Int) ≤ 5 := by omega
            obtain ⟨z, ez⟩ : ∃ z, z = (findF A (k : Int)).getD hd0 := ⟨_, rfl⟩
            obtain ⟨b, eb⟩ : ∃ b, b = (findF A (k : Int)).isSome := ⟨_, rfl⟩
            have EZ := hide ez.symm
            have EBB := hide eb.symm
            obtain ⟨y, ey⟩ : ∃ z, z = (findF { A with hs := L } (k : Int)).getD hd0 := ⟨_, rfl⟩
            obtain ⟨b', eb'⟩ : ∃ b, b = (findF { A with hs := L } (k : Int)).isSome := ⟨_, rfl⟩
            have EY := hide ey.symm
            have EBB' := hide eb'.symm
            have EQ : Hid (¬ (k : Int) = mn → y = z ∧ b' = b) := fun hne => by rw [ey, ez, eb, eb', FO.out _ hne]; exact ⟨rfl, rfl⟩
            clear ez eb ey eb'
            obtain ⟨z0, z1, z2, z3, z4, z5, z6, z7, z8, z9⟩ := RA.out.at_
            have zl := RA.out.lt
            obtain ⟨y0, y1, y2, y3, y4, y5, y6, y7, y8, y9⟩ := RX.out.at_
            have yl := RX.out.lt
            go_wp2_with fail
            clear z0 z1 z2 z3 z4 z5 z6 z7 z8 z9 zl y0 y1 y2 y3 y4 y5 y6 y7 y8 y9 yl
            refine (find_x RHH.out HWB.out EY.out EBB'.out).mono ?_
            rintro e u1 ⟨rfl, hb⟩
            obtain ⟨u2, eu2, hbu, hau⟩ := hk_new u1 y
            have BB : Below wr.heap.size wr u2 := hb.trans (hbu.mono hb.size)
            have HB2 : Hid (Below w.heap.size w u2) := HB.out.trans (BB.mono HB.out.size)
            have RA2 := hide (RA.out.below BB)
            have RX2 := hide (RX.out.below BB)
            have RH2 := hide (RH.out.below BB)
            have RHH2 := hide (RHH.out.below BB)
            have HKY := hide hau
            obtain ⟨p1, ep1⟩ : ∃ p, p = u1.heap.size := ⟨_, rfl⟩
            rw [← ep1] at HKY
            have EU2 := hide eu2
            have EP1 := hide ep1
            clear hb hbu hau BB eu2 ep1
            obtain ⟨z0, z1, z2, z3, z4, z5, z6, z7, z8, z9⟩ := RA2.out.at_
            have zl := RA2.out.lt
            have hul : u1.heap.size < u2.heap.size := by rw [EU2.out]; simp
            go_upto_region 16 with fail
            rw [← EU2.out]
            try rw [← EP1.out]
            go_wp2_with fail
            clear z0 z1 z2 z3 z4 z5 z6 z7 z8 z9 zl hul
            refine (find_x RH2.out HW.out EZ.out EBB.out).mono ?_
            rintro e u3 ⟨rfl, hb⟩
            obtain ⟨u4, eu4, hbu, hau⟩ := hk_new u3 z
            have BB : Below u2.heap.size u2 u4 := hb.trans (hbu.mono hb.size)
            have HB4 : Hid (Below w.heap.size w u4) := HB2.out.trans (BB.mono HB2.out.size)
            have RA4 := hide (RA2.out.below BB)
            have RX4 := hide (RX2.out.below BB)
            have RH4 := hide (RH2.out.below BB)
            have RHH4 := hide (RHH2.out.below BB)
            have HKY4 := hide (HKY.out.below BB)
            have HKZ4 := hide hau
            obtain ⟨p2, ep2⟩ : ∃ p, p = u3.heap.size := ⟨_, rfl⟩
            rw [← ep2] at HKZ4
            have EU4 := hide eu4
            have EP2 := hide ep2
            clear hb hbu hau BB eu4 ep2
            go_upto_region 17 with fail
            rw [← EU4.out]
            try rw [← EP2.out]
            clear RA RX RH RHH RA2 RX2 RH2 RHH2 HKY HB HB2 EU2 EU4 EP1 EP2
            by_cases hkn : (k : Int) = mn
            · have kn1 : ((k : Int) != mn) = false := by simpa using hkn
              clear EQ
              go_wp2_with fail
              go_roundw
              case rel => exact ⟨k + 1, by omega, by omega, by go_num, HB4.out, RA4.out, RX4.out, RH4.out, RHH4.out⟩
              case measure => simp [intOf]; omega
            · obtain ⟨rfl, rfl⟩ := EQ.out hkn
              clear EQ
              obtain ⟨c0, c1, c2', c3⟩ := HKY4.out.at_
              have cl := HKY4.out.lt
              obtain ⟨d0, d1, d2, d3⟩ := HKZ4.out.at_
              have dl := HKZ4.out.lt
              go_wp2_with fail
              go_roundw
              case rel => exact ⟨k + 1, by omega, by omega, by go_num, HB4.out, RA4.out, RX4.out, RH4.out, RHH4.out⟩
              case measure => simp [intOf]; omega
          · obtain rfl : k = 6 := by omega
            go_wp2_with fail
            go_returns
            exact ⟨rfl, HB.out⟩
  · obtain ⟨E, eE⟩ : ∃ E, E = grantE A node lease nodes := ⟨_, rfl⟩
    obtain ⟨B, eB⟩ : ∃ B, B = grantA A node lease nodes := ⟨_, rfl⟩
    have EE := hide eE.symm
    have EB := hide eB.symm
    have hB0 : B = ac0 := by rw [eB]; unfold grantA; rw [if_neg he]
    have B0 := hide hB0
    have NE : Hid (¬ E = 0) := by show ¬ E = 0; rw [eE]; exact he
    clear h hw hn hl eB he eE hB0
    unfold acval
    go_enter Try.func8, Try.ntmps8
    go_wp2_with fail
    obtain ⟨w1, ew, hb1, ha1⟩ := one_new w A a n c
    rw [← ew]
    have HB1 := hide hb1
    have HA := hide ha1
    have H := hide (H.out.below hb1)
    clear hb1 ha1 ew
    have HL : Hid (w.heap.size < w1.heap.size) := HA.out.lt
    refine (awake_any _).mono ?_
    rintro e w2 ⟨rfl, hb⟩
    have HB2 : Hid (Below w.heap.size w w2) := HB1.out.trans (hb.mono HB1.out.size)
    have H := hide (H.out.below hb)
    have HA := hide (HA.out.below hb)
    clear hb
    obtain ⟨z0, z1, z2, z3, z4, z5, z6, z7, z8, z9⟩ := HA.out.at_
    have zl : w.heap.size < w2.heap.size := HA.out.lt
    go_wp2_with fail
    clear z0 z1 z2 z3 z4 z5 z6 z7 z8 z9 zl
    refine (grant_x H.out HW.out EB.out EE.out).mono ?_
    rintro e w3 ⟨a2, n2, c2, rfl, hh, hb, _, hc⟩
    have HB3 : Hid (Below w.heap.size w w3) := HB2.out.trans (hb.mono HB2.out.size)
    have H := hide (H.out.below hb)
    have HA := hide (HA.out.below hb)
    have HH := hide hh
    clear hb hh
    clear hc
    have ne := NE.out
    have ne2 : (E == 0) = false := by simpa using NE.out
    obtain ⟨z0, z1, z2, z3, z4, z5, z6, z7, z8, z9⟩ := HA.out.at_
    have zl : w.heap.size < w3.heap.size := HA.out.lt
    go_wp2_with fail
    clear z0 z1 z2 z3 z4 z5 z6 z7 z8 z9 zl
    obtain ⟨w4, ew, hbu, hau⟩ := one_new w3 B a2 n2 c2
    rw [← ew]
    have HB4 : Hid (Below w.heap.size w w4) := HB3.out.trans (hbu.mono HB3.out.size)
    have H := hide (H.out.below hbu)
    have HH := hide (HH.out.below hbu)
    have HA := hide (HA.out.below hbu)
    obtain ⟨q1, eq⟩ : ∃ q1, q1 = w3.heap.size := ⟨_, rfl⟩
    rw [← eq] at hau
    try rw [← eq]
    have HX := hide hau
    clear ew hbu hau eq
    refine (same_none HH.out B0.out).mono ?_
    rintro e w5 ⟨rfl, hb⟩
    have HB5 : Hid (Below w.heap.size w w5) := HB4.out.trans (hb.mono HB4.out.size)
    have H := hide (H.out.below hb)
    have HH := hide (HH.out.below hb)
    have HA := hide (HA.out.below hb)
    have HX := hide (HX.out.below hb)
    clear hb
    obtain ⟨z0, z1, z2, z3, z4, z5, z6, z7, z8, z9⟩ := HA.out.at_
    have zl : w.heap.size < w5.heap.size := HA.out.lt
    go_wp2_with fail
    clear z0 z1 z2 z3 z4 z5 z6 z7 z8 z9 zl
    go_returns
    exact ⟨rfl, HB5.out⟩

set_option maxRecDepth 100000 in
theorem lifted (os : Os) (started : os.Started) (H : Type) (enc : TypeId × Value → H) :
    ReturnsInHanded {} Try.checked os 8 .any (Rows.accountGrantsSpec.pre6 enc Try.prog Try.f8 Rows.accountGrantsRow.domain false) (Rows.accountGrantsSpec.post enc Try.prog Try.f8 false true false false) := by
  refine returnsInHanded_of_change_sized (C := Try.checked) own started (by kernel_rfl) Try.func8
    (ChangeSpec.witness6 (enc := enc) (C := Try.checked) false ⟨#[], #[.agg #[.string ByteArray.empty, .int .i64 0, .int .i64 0, .int .i64 0, .int .i64 0, .slice none 0 0, .int .i64 0, .int .i64 0, .int .i64 0, .int .i64 0], .int .i64 0, .int .i64 0, .int .i64 0], []⟩ 8 (by kernel_rfl) (by kernel_rfl) (by kernel_rfl) (by kernel_rfl)) ?_
  intro W base args ds gs before hval0 hW hcnd hsz0 _
  have hsz : (DataW.weightsEach Try.prog (Try.f8.params.toList ++ Rows.accountGrantsSpec.plain.varTypes Try.prog) (ds ++ gs)).all (· ≤ reachBytes) = true := hsz0
  have hval : ∀ (j : Nat) t v, Try.f8.params[j]? = some t → args[j]? = some v → Value.okWide Try.prog W .any base t v := hval0
  have hW' := hW
  obtain ⟨p, q, hA0, hV, rfl, hfz, hnd⟩ := hW
  have hA : DataW.TrodAll enc Try.prog W 0 (fun _ => true) true Try.f8.params.toList args.toList ds p := hA0
  rw [Try.params8] at hA hval hsz
  obtain ⟨v0, vs0, d0, ds0, p0, q0, hargs, rfl, rfl, h0, r0⟩ := trodAll_cons hA
  obtain ⟨v1, vs1, d1, ds1, p1, q1, rfl, rfl, rfl, h1, r1⟩ := trodAll_cons r0
  obtain ⟨v2, vs2, d2, ds2, p2, q2, rfl, rfl, rfl, h2, r2⟩ := trodAll_cons r1
  obtain ⟨v3, vs3, d3, ds3, p3, q3, rfl, rfl, rfl, h3, r3⟩ := trodAll_cons r2
  obtain ⟨rfl, rfl, rfl⟩ := trodAll_nil r3
  obtain rfl : args = #[v0, v1, v2, v3] := by cases args; simp_all
  obtain ⟨rfl, rfl⟩ := trodVars_none hV
  have lt0 : ∀ x ∈ p0, x.block < W.heap.size := by obtain ⟨m, hm⟩ := h0; exact DataW.trod_lt m _ _ _ hm
  obtain ⟨a, n, c, A, rfl, k0, kw0, kc0⟩ := open_account_held (hval 0 28 v0 rfl rfl) h0 (fun n hn => by have h := List.all_eq_true.1 hsz n (DataW.weights_mem_each (j := 0) rfl rfl n hn); simpa using h)
  have lt1 : ∀ x ∈ p1, x.block < W.heap.size := by obtain ⟨m, hm⟩ := h1; exact DataW.trod_lt m _ _ _ hm
  obtain ⟨nd, rfl, kn⟩ := open_i64 (hval 1 3 v1 rfl rfl) h1
  have lt2 : ∀ x ∈ p2, x.block < W.heap.size := by obtain ⟨m, hm⟩ := h2; exact DataW.trod_lt m _ _ _ hm
  obtain ⟨ls, rfl, kl⟩ := open_i64 (hval 2 3 v2 rfl rfl) h2
  have lt3 : ∀ x ∈ p3, x.block < W.heap.size := by obtain ⟨m, hm⟩ := h3; exact DataW.trod_lt m _ _ _ hm
  obtain ⟨ns, rfl, ks⟩ := open_i64 (hval 3 3 v3 rfl rfl) h3
  clear hA0 hval0
  refine (walk k0 kw0 kn kl).mono fun e W' ⟨he, bel⟩ => ?_
  subst he
  exact ⟨_, rfl, _, _, _, [], _, [], hW', trodAll_mk1 (shut_bool Try.underlying4 _), (trodAll_cons_mk (Below.trod laidOut (by kernel_rfl) (of_decide_eq_true (by kernel_rfl)) h0 bel lt0) (trodAll_cons_mk (Below.trod laidOut (by kernel_rfl) (of_decide_eq_true (by kernel_rfl)) h1 bel lt1) (trodAll_cons_mk (Below.trod laidOut (by kernel_rfl) (of_decide_eq_true (by kernel_rfl)) h2 bel lt2) (trodAll_cons_mk (Below.trod laidOut (by kernel_rfl) (of_decide_eq_true (by kernel_rfl)) h3 bel lt3) trodAll_mk0)))), rfl, bel.frame _, fun h => by cases h⟩

theorem over : Rows.accountGrantsRow.holds Try.pinned (OpenSpec.ofChange Rows.accountGrantsSpec) :=
  OpenClaim.holds_of_wide 8 Try.f8 rfl rfl rfl rfl rfl rfl rfl ⟨rfl, rfl, rfl, rfl, rfl⟩ rfl rfl rfl rfl rfl (by kernel_rfl) Try.func8 (by kernel_rfl)
    (of_decide_eq_true (by kernel_rfl)) (by unfold Func.isWrapper; first | (rw [if_pos (by decide +kernel)]; kernel_rfl) | (rw [if_neg (by decide +kernel)]; exact ⟨rfl, rfl⟩))
    (fun os started H enc _ => lifted os started H enc)

theorem proved : Rows.AccountGrantsSaid := over
#print axioms proved
end AccountGrants
theorem accountGrants_holds : Rows.AccountGrantsSaid := AccountGrants.proved
end Go.Proofs.Ytfolpnjndlklkaa
