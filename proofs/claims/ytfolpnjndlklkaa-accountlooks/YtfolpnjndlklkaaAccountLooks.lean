/- AccountLooks: which accounts are right, what room there is, whether the total is known, who holds, and which are plain; no condition. -/
import Derived.Below
import Derived.Test.YtfolpnjndlklkaaAcoRefD
import Derived.Laws.Tables
namespace Go.Proofs.Ytfolpnjndlklkaa
namespace AccountLooks
open Go.ChangeShapes Go.WideShapes Go.ChangeAt Go.RowKit Ao
set_option linter.unusedVariables false

theorem rroom_x {w : World} {a : Option Addr} {n c : Nat} {A : Ac} {d u : Int} (h : Hs w a n A.hs) (hw : AcW A) (ed : downR A = d) (eu : upR A = u) : Calls Try.prog 14 #[.agg #[.string A.key, .int .i64 A.lo, .int .i64 A.hi, .int .i64 A.base, .int .i64 A.rd, .slice a n c, .int .i64 A.lk.c, .int .i64 A.lk.s, .int .i64 A.lk.h, .int .i64 A.lk.n]] w fun e w' => e = .returned (.tuple #[.int .u64 d, .int .u64 u]) ∧ Below w.heap.size w w' := by
  subst ed; subst eu
  exact rroom_any h hw
theorem rtotal_x {w : World} {a : Option Addr} {n c : Nat} {A : Ac} {v : Int} {b : Bool} (h : Hs w a n A.hs) (hw : AcW A) (ev : totalV A = v) (eb : totalB A = b) : Calls Try.prog 16 #[.agg #[.string A.key, .int .i64 A.lo, .int .i64 A.hi, .int .i64 A.base, .int .i64 A.rd, .slice a n c, .int .i64 A.lk.c, .int .i64 A.lk.s, .int .i64 A.lk.h, .int .i64 A.lk.n]] w fun e w' => e = .returned (.tuple #[.int .i64 v, .bool b]) ∧ Below w.heap.size w w' := by
  subst ev; subst eb
  exact rtotal_any h hw
theorem rfind_x {w : World} {a : Option Addr} {n c : Nat} {A : Ac} {node : Int} {x : Hd} {b : Bool} (h : Hs w a n A.hs) (hw : AcW A) (ex : (findF A node).getD hd0 = x) (eb : (findF A node).isSome = b) : Calls Try.prog 18 #[.agg #[.string A.key, .int .i64 A.lo, .int .i64 A.hi, .int .i64 A.base, .int .i64 A.rd, .slice a n c, .int .i64 A.lk.c, .int .i64 A.lk.s, .int .i64 A.lk.h, .int .i64 A.lk.n], .int .i64 node] w fun e w' => e = .returned (.tuple #[.agg #[.int .i64 x.nd, .int .i64 x.ls, .int .i64 x.up, .int .i64 x.dn], .bool b]) ∧ Below w.heap.size w w' := by
  subst ex; subst eb
  exact rfind_any h hw
theorem rplain_x {w : World} {a : Option Addr} {n c : Nat} {A : Ac} {b : Bool} (h : Hs w a n A.hs) (eb : plainB A = b) : Calls Try.prog 23 #[.agg #[.string A.key, .int .i64 A.lo, .int .i64 A.hi, .int .i64 A.base, .int .i64 A.rd, .slice a n c, .int .i64 A.lk.c, .int .i64 A.lk.s, .int .i64 A.lk.h, .int .i64 A.lk.n]] w fun e w' => e = .returned (.bool b) ∧ Below w.heap.size w w' := by
  subst eb
  exact rplain_any h
theorem rright_x {w : World} {a : Option Addr} {n c : Nat} {A : Ac} {b : Bool} (h : Hs w a n A.hs) (hw : AcW A) (eb : rightB A = b) : Calls Try.prog 10 #[.agg #[.string A.key, .int .i64 A.lo, .int .i64 A.hi, .int .i64 A.base, .int .i64 A.rd, .slice a n c, .int .i64 A.lk.c, .int .i64 A.lk.s, .int .i64 A.lk.h, .int .i64 A.lk.n]] w fun e w' => e = .returned (.bool b) ∧ Below w.heap.size w w' := by
  subst eb
  exact rright_any h hw
theorem new_x {k : ByteArray} {K : Ac} {E : Int} (w : World) (eK : newA k = K) (eE : newE k = E) : Calls Try.prog 11 #[.string k] w fun e w' => e = .returned (.tuple #[.agg #[.string K.key, .int .i64 K.lo, .int .i64 K.hi, .int .i64 K.base, .int .i64 K.rd, .slice none 0 0, .int .i64 K.lk.c, .int .i64 K.lk.s, .int .i64 K.lk.h, .int .i64 K.lk.n], .int .i64 E]) ∧ Below w.heap.size w w' := by
  subst eK; subst eE
  exact new_any k w
theorem rnew_x {k : ByteArray} {K : Ac} {E : Int} (w : World) (eK : newA k = K) (eE : newE k = E) : Calls Try.prog 12 #[.string k] w fun e w' => e = .returned (.tuple #[.agg #[.string K.key, .int .i64 K.lo, .int .i64 K.hi, .int .i64 K.base, .int .i64 K.rd, .slice none 0 0, .int .i64 K.lk.c, .int .i64 K.lk.s, .int .i64 K.lk.h, .int .i64 K.lk.n], .int .i64 E]) ∧ Below w.heap.size w w' := by
  subst eK; subst eE
  exact rnew_any k w
theorem newA_hs (k : ByteArray) : (newA k).hs = [] := by unfold newA; split <;> rfl
theorem owned_put {w : World} {B g len : Nat} {l : List Hd} {x o : Nat} {u : Value} (h : Owned w B g len l) (hx : x < B) : Owned (w.setCell ⟨x, o, none⟩ u) B g len l :=
  ⟨ownsRow_setCell_below h.row hx u, rl_put h.ms (fun _ ad e => by
    obtain rfl := Option.some.inj e
    have := (h.row.lt g rfl).1
    show ¬ g = x
    omega)⟩
/-- all that the last look reads -/
structure Lq (w v : World) (A K : Ac) (a : Option Addr) (n c B g q2 q3 q4 q5 : Nat) (x : Hd) : Prop where
  b : Below w.heap.size w v
  h : Hs v a n A.hs
  a0 : Ab v w.heap.size A a n c
  a1 : Ab v (w.heap.size + 1) A (some ⟨g, 0, none⟩) n (n + 2)
  k2 : Ab v q2 K none 0 0
  k3 : Ab v q3 K none 0 0
  h4 : Hk v q4 x
  h5 : Hk v q5 x
  o : Owned v B g n A.hs
theorem Lq.below {w v v' : World} {A K : Ac} {a : Option Addr} {n c B g q2 q3 q4 q5 : Nat} {x : Hd} (h : Lq w v A K a n c B g q2 q3 q4 q5 x) (hb : Below v.heap.size v v') : Lq w v' A K a n c B g q2 q3 q4 q5 x :=
  ⟨h.b.trans (hb.mono h.b.size), h.h.below hb, h.a0.below hb, h.a1.below hb, h.k2.below hb, h.k3.below hb, h.h4.below hb, h.h5.below hb, h.o.below hb⟩
set_option maxRecDepth 100000 in
set_option maxHeartbeats 8000000 in
theorem walk {w : World} {a : Option Addr} {n c : Nat} {A : Ac} {key : ByteArray} {node : Int} (h : Hs w a n A.hs) (hw : AcW A) (hc : Cp a n c) :
    Calls Try.prog 3 #[acval A a n c, .string key, .int .i64 node] w fun e w' => e = .returned (.bool true) ∧ Below w.heap.size w w' := by
  have H := hide h
  have HW := hide hw
  have HC : Hid (a = none → c = 0) := hc.no
  have AWA : Hid (Aw (w.heap.size + 1) a n) := aw_old h (by omega)
  obtain ⟨d, ed⟩ : ∃ d, d = downR A := ⟨_, rfl⟩
  obtain ⟨u, eu⟩ : ∃ u, u = upR A := ⟨_, rfl⟩
  obtain ⟨tv, ev⟩ : ∃ z, z = totalV A := ⟨_, rfl⟩
  obtain ⟨tb, et⟩ : ∃ z, z = totalB A := ⟨_, rfl⟩
  obtain ⟨hx, ex⟩ : ∃ z, z = (findF A node).getD hd0 := ⟨_, rfl⟩
  obtain ⟨fb, ef⟩ : ∃ z, z = (findF A node).isSome := ⟨_, rfl⟩
  obtain ⟨pb, ep⟩ : ∃ z, z = plainB A := ⟨_, rfl⟩
  obtain ⟨K, ek⟩ : ∃ z, z = newA key := ⟨_, rfl⟩
  obtain ⟨E, ee⟩ : ∃ z, z = newE key := ⟨_, rfl⟩
  have KN : Hid (∀ W : World, Hs W none 0 K.hs) := fun W => by rw [ek, newA_hs]; exact Rl.nil _
  have ED := hide ed.symm
  have EU := hide eu.symm
  have EV := hide ev.symm
  have ET := hide et.symm
  have EX := hide ex.symm
  have EF := hide ef.symm
  have EP := hide ep.symm
  have EK := hide ek.symm
  have EE := hide ee.symm
  clear h hw hc ed eu ev et ex ef ep ek ee
  unfold acval
  by_cases hr : rightB A = true
  · have RB := hide hr
    have CE : Hid (checkE A = 0) := if_pos hr
    clear hr
    go_enter Try.func3, Try.ntmps3
    go_wp2_with fail
    obtain ⟨w1, ew, hb1, ha1, hx1⟩ := acc_two w A A a a n c n c
    rw [← ew]
    have HB1 := hide hb1
    have HA := hide ha1
    have HX := hide hx1
    replace H := hide (H.out.below hb1)
    clear hb1 ha1 hx1 ew
    have HL : Hid (w.heap.size < w1.heap.size) := HA.out.lt
    obtain ⟨B, eB⟩ : ∃ B, B = w1.heap.size := ⟨_, rfl⟩
    have HBL : Hid (w.heap.size + 1 < B) := by show _ < _; rw [eB]; exact HX.out.lt
    refine (own_h H.out HC.out).mono ?_
    rintro e w2 ⟨g, rfl, hb, ho⟩
    have HB2 : Hid (Below w.heap.size w w2) := HB1.out.trans (hb.mono HB1.out.size)
    replace H := hide (H.out.below hb)
    replace HA := hide (HA.out.below hb)
    replace HX := hide (HX.out.below hb)
    replace HL := hide (Nat.lt_of_lt_of_le HL.out hb.size)
    clear hb HB1
    rw [← eB] at ho
    have HO := hide ho
    clear ho eB
    obtain ⟨z0, z1, z2, z3, z4, z5, z6, z7, z8, z9⟩ := HA.out.at_
    have zl : w.heap.size < w2.heap.size := HA.out.lt
    obtain ⟨y0, y1, y2, y3, y4, y5, y6, y7, y8, y9⟩ := HX.out.at_
    have yl : (w.heap.size + 1) < w2.heap.size := HX.out.lt
    have yf : ∀ o, w2.frozen? ⟨w.heap.size + 1, o, none⟩ = false := fun o => frozen_of_row _ _ _ _ _ HX.out.row
    go_wp2_with fail
    clear z0 z1 z2 z3 z4 z5 z6 z7 z8 z9 zl y0 y1 y2 y3 y4 y5 y6 y7 y8 y9 yl
    obtain ⟨w3, ew⟩ : ∃ w3, w3 = w2.setCell ⟨w.heap.size + 1, 5, none⟩ (.slice (some ⟨g, 0, none⟩) n (n + 2)) := ⟨_, rfl⟩
    rw [← ew]
    clear yf
    have HB3 : Hid (Below w.heap.size w w3) := by rw [ew]; exact HB2.out.setCell (p := ⟨w.heap.size + 1, 5, none⟩) (show w.heap.size ≤ w.heap.size + 1 by omega) _
    have HQ : Hid (Hs w3 a n A.hs) := by rw [ew]; exact hs_put H.out AWA.out
    have HA' : Hid (Ab w3 w.heap.size A a n c) := by rw [ew]; exact HA.out.put_far (by omega)
    have HX' : Hid (Ab w3 (w.heap.size + 1) A (some ⟨g, 0, none⟩) n (n + 2)) := by rw [ew]; exact ⟨put_row' HX.out.row⟩
    have HO' : Hid (Owned w3 B g n A.hs) := by rw [ew]; exact owned_put HO.out HBL.out
    have HL' : Hid (w.heap.size < w3.heap.size) := HA'.out.lt
    clear ew HB2 H HA HX HO HL
    have H := HQ
    have HA := HA'
    have HX := HX'
    have HO := HO'
    have HL := HL'
    clear HQ HA' HX' HO' HL'
    refine (rright_x H.out HW.out RB.out).mono ?_
    rintro e w4 ⟨rfl, hb⟩
    have HB4 : Hid (Below w.heap.size w w4) := HB3.out.trans (hb.mono HB3.out.size)
    replace H := hide (H.out.below hb)
    replace HO := hide (HO.out.below hb)
    replace HA := hide (HA.out.below hb)
    replace HX := hide (HX.out.below hb)
    replace HL := hide (Nat.lt_of_lt_of_le HL.out hb.size)
    clear hb HB3
    obtain ⟨z0, z1, z2, z3, z4, z5, z6, z7, z8, z9⟩ := HA.out.at_
    have zl : w.heap.size < w4.heap.size := HA.out.lt
    obtain ⟨y0, y1, y2, y3, y4, y5, y6, y7, y8, y9⟩ := HX.out.at_
    have yl : (w.heap.size + 1) < w4.heap.size := HX.out.lt
    go_wp2_with fail
    clear z0 z1 z2 z3 z4 z5 z6 z7 z8 z9 zl y0 y1 y2 y3 y4 y5 y6 y7 y8 y9 yl
    refine (new_x _ EK.out EE.out).mono ?_
    rintro e w5 ⟨rfl, hb⟩
    have HB5 : Hid (Below w.heap.size w w5) := HB4.out.trans (hb.mono HB4.out.size)
    replace H := hide (H.out.below hb)
    replace HO := hide (HO.out.below hb)
    replace HA := hide (HA.out.below hb)
    replace HX := hide (HX.out.below hb)
    replace HL := hide (Nat.lt_of_lt_of_le HL.out hb.size)
    clear hb HB4
    obtain ⟨z0, z1, z2, z3, z4, z5, z6, z7, z8, z9⟩ := HA.out.at_
    have zl : w.heap.size < w5.heap.size := HA.out.lt
    obtain ⟨y0, y1, y2, y3, y4, y5, y6, y7, y8, y9⟩ := HX.out.at_
    have yl : (w.heap.size + 1) < w5.heap.size := HX.out.lt
    go_wp2_with fail
    clear z0 z1 z2 z3 z4 z5 z6 z7 z8 z9 zl y0 y1 y2 y3 y4 y5 y6 y7 y8 y9 yl
    obtain ⟨w6, ew, hbu, hau⟩ := one_new w5 K none 0 0
    rw [← ew]
    have HB6 : Hid (Below w.heap.size w w6) := HB5.out.trans (hbu.mono HB5.out.size)
    replace H := hide (H.out.below hbu)
    replace HO := hide (HO.out.below hbu)
    replace HA := hide (HA.out.below hbu)
    replace HX := hide (HX.out.below hbu)
    obtain ⟨q2, eq⟩ : ∃ q2, q2 = w5.heap.size := ⟨_, rfl⟩
    have HKN : Hid (w.heap.size < q2) := by show w.heap.size < q2; rw [eq]; exact HL.out
    replace HL := hide (Nat.lt_of_lt_of_le HL.out hbu.size)
    rw [← eq] at hau
    try rw [← eq]
    have HK := hide hau
    clear ew hbu hau eq HB5
    refine (rnew_x _ EK.out EE.out).mono ?_
    rintro e w7 ⟨rfl, hb⟩
    have HB7 : Hid (Below w.heap.size w w7) := HB6.out.trans (hb.mono HB6.out.size)
    replace H := hide (H.out.below hb)
    replace HO := hide (HO.out.below hb)
    replace HA := hide (HA.out.below hb)
    replace HX := hide (HX.out.below hb)
    replace HK := hide (HK.out.below hb)
    replace HL := hide (Nat.lt_of_lt_of_le HL.out hb.size)
    clear hb HB6
    obtain ⟨z0, z1, z2, z3, z4, z5, z6, z7, z8, z9⟩ := HA.out.at_
    have zl : w.heap.size < w7.heap.size := HA.out.lt
    obtain ⟨y0, y1, y2, y3, y4, y5, y6, y7, y8, y9⟩ := HX.out.at_
    have yl : (w.heap.size + 1) < w7.heap.size := HX.out.lt
    obtain ⟨x0, x1, x2, x3, x4, x5, x6, x7, x8, x9⟩ := HK.out.at_
    have xl : q2 < w7.heap.size := HK.out.lt
    go_wp2_with fail
    clear z0 z1 z2 z3 z4 z5 z6 z7 z8 z9 zl y0 y1 y2 y3 y4 y5 y6 y7 y8 y9 yl x0 x1 x2 x3 x4 x5 x6 x7 x8 x9 xl
    obtain ⟨w8, ew, hbu, hau⟩ := one_new w7 K none 0 0
    rw [← ew]
    have HB8 : Hid (Below w.heap.size w w8) := HB7.out.trans (hbu.mono HB7.out.size)
    replace H := hide (H.out.below hbu)
    replace HO := hide (HO.out.below hbu)
    replace HA := hide (HA.out.below hbu)
    replace HX := hide (HX.out.below hbu)
    replace HK := hide (HK.out.below hbu)
    obtain ⟨q3, eq⟩ : ∃ q3, q3 = w7.heap.size := ⟨_, rfl⟩
    have HMN : Hid (w.heap.size < q3) := by show w.heap.size < q3; rw [eq]; exact HL.out
    replace HL := hide (Nat.lt_of_lt_of_le HL.out hbu.size)
    rw [← eq] at hau
    try rw [← eq]
    have HM := hide hau
    clear ew hbu hau eq HB7
    refine (room_x HO.out.ms HW.out ED.out EU.out).mono ?_
    rintro e w9 ⟨rfl, hb⟩
    have HB9 : Hid (Below w.heap.size w w9) := HB8.out.trans (hb.mono HB8.out.size)
    replace H := hide (H.out.below hb)
    replace HO := hide (HO.out.below hb)
    replace HA := hide (HA.out.below hb)
    replace HX := hide (HX.out.below hb)
    replace HK := hide (HK.out.below hb)
    replace HM := hide (HM.out.below hb)
    replace HL := hide (Nat.lt_of_lt_of_le HL.out hb.size)
    clear hb HB8
    obtain ⟨z0, z1, z2, z3, z4, z5, z6, z7, z8, z9⟩ := HA.out.at_
    have zl : w.heap.size < w9.heap.size := HA.out.lt
    obtain ⟨y0, y1, y2, y3, y4, y5, y6, y7, y8, y9⟩ := HX.out.at_
    have yl : (w.heap.size + 1) < w9.heap.size := HX.out.lt
    obtain ⟨x0, x1, x2, x3, x4, x5, x6, x7, x8, x9⟩ := HK.out.at_
    have xl : q2 < w9.heap.size := HK.out.lt
    obtain ⟨v0, v1, v2, v3, v4, v5, v6, v7, v8, v9⟩ := HM.out.at_
    have vl : q3 < w9.heap.size := HM.out.lt
    go_wp2_with fail
    clear z0 z1 z2 z3 z4 z5 z6 z7 z8 z9 zl y0 y1 y2 y3 y4 y5 y6 y7 y8 y9 yl x0 x1 x2 x3 x4 x5 x6 x7 x8 x9 xl v0 v1 v2 v3 v4 v5 v6 v7 v8 v9 vl
    refine (rroom_x H.out HW.out ED.out EU.out).mono ?_
    rintro e w10 ⟨rfl, hb⟩
    have HB10 : Hid (Below w.heap.size w w10) := HB9.out.trans (hb.mono HB9.out.size)
    replace H := hide (H.out.below hb)
    replace HO := hide (HO.out.below hb)
    replace HA := hide (HA.out.below hb)
    replace HX := hide (HX.out.below hb)
    replace HK := hide (HK.out.below hb)
    replace HM := hide (HM.out.below hb)
    replace HL := hide (Nat.lt_of_lt_of_le HL.out hb.size)
    clear hb HB9
    obtain ⟨z0, z1, z2, z3, z4, z5, z6, z7, z8, z9⟩ := HA.out.at_
    have zl : w.heap.size < w10.heap.size := HA.out.lt
    obtain ⟨y0, y1, y2, y3, y4, y5, y6, y7, y8, y9⟩ := HX.out.at_
    have yl : (w.heap.size + 1) < w10.heap.size := HX.out.lt
    obtain ⟨x0, x1, x2, x3, x4, x5, x6, x7, x8, x9⟩ := HK.out.at_
    have xl : q2 < w10.heap.size := HK.out.lt
    obtain ⟨v0, v1, v2, v3, v4, v5, v6, v7, v8, v9⟩ := HM.out.at_
    have vl : q3 < w10.heap.size := HM.out.lt
    go_wp2_with fail
    clear z0 z1 z2 z3 z4 z5 z6 z7 z8 z9 zl y0 y1 y2 y3 y4 y5 y6 y7 y8 y9 yl x0 x1 x2 x3 x4 x5 x6 x7 x8 x9 xl v0 v1 v2 v3 v4 v5 v6 v7 v8 v9 vl
    refine (total_x HO.out.ms HW.out EV.out ET.out).mono ?_
    rintro e w11 ⟨rfl, hb⟩
    have HB11 : Hid (Below w.heap.size w w11) := HB10.out.trans (hb.mono HB10.out.size)
    replace H := hide (H.out.below hb)
    replace HO := hide (HO.out.below hb)
    replace HA := hide (HA.out.below hb)
    replace HX := hide (HX.out.below hb)
    replace HK := hide (HK.out.below hb)
    replace HM := hide (HM.out.below hb)
    replace HL := hide (Nat.lt_of_lt_of_le HL.out hb.size)
    clear hb HB10
    obtain ⟨z0, z1, z2, z3, z4, z5, z6, z7, z8, z9⟩ := HA.out.at_
    have zl : w.heap.size < w11.heap.size := HA.out.lt
    obtain ⟨y0, y1, y2, y3, y4, y5, y6, y7, y8, y9⟩ := HX.out.at_
    have yl : (w.heap.size + 1) < w11.heap.size := HX.out.lt
    obtain ⟨x0, x1, x2, x3, x4, x5, x6, x7, x8, x9⟩ := HK.out.at_
    have xl : q2 < w11.heap.size := HK.out.lt
    obtain ⟨v0, v1, v2, v3, v4, v5, v6, v7, v8, v9⟩ := HM.out.at_
    have vl : q3 < w11.heap.size := HM.out.lt
    go_wp2_with fail
    clear z0 z1 z2 z3 z4 z5 z6 z7 z8 z9 zl y0 y1 y2 y3 y4 y5 y6 y7 y8 y9 yl x0 x1 x2 x3 x4 x5 x6 x7 x8 x9 xl v0 v1 v2 v3 v4 v5 v6 v7 v8 v9 vl
    refine (rtotal_x H.out HW.out EV.out ET.out).mono ?_
    rintro e w12 ⟨rfl, hb⟩
    have HB12 : Hid (Below w.heap.size w w12) := HB11.out.trans (hb.mono HB11.out.size)
    replace H := hide (H.out.below hb)
    replace HO := hide (HO.out.below hb)
    replace HA := hide (HA.out.below hb)
    replace HX := hide (HX.out.below hb)
    replace HK := hide (HK.out.below hb)
    replace HM := hide (HM.out.below hb)
    replace HL := hide (Nat.lt_of_lt_of_le HL.out hb.size)
    clear hb HB11
    obtain ⟨z0, z1, z2, z3, z4, z5, z6, z7, z8, z9⟩ := HA.out.at_
    have zl : w.heap.size < w12.heap.size := HA.out.lt
    obtain ⟨y0, y1, y2, y3, y4, y5, y6, y7, y8, y9⟩ := HX.out.at_
    have yl : (w.heap.size + 1) < w12.heap.size := HX.out.lt
    obtain ⟨x0, x1, x2, x3, x4, x5, x6, x7, x8, x9⟩ := HK.out.at_
    have xl : q2 < w12.heap.size := HK.out.lt
    obtain ⟨v0, v1, v2, v3, v4, v5, v6, v7, v8, v9⟩ := HM.out.at_
    have vl : q3 < w12.heap.size := HM.out.lt
    go_wp2_with fail
    clear z0 z1 z2 z3 z4 z5 z6 z7 z8 z9 zl y0 y1 y2 y3 y4 y5 y6 y7 y8 y9 yl x0 x1 x2 x3 x4 x5 x6 x7 x8 x9 xl v0 v1 v2 v3 v4 v5 v6 v7 v8 v9 vl
    refine (find_x HO.out.ms HW.out EX.out EF.out).mono ?_
    rintro e w13 ⟨rfl, hb⟩
    have HB13 : Hid (Below w.heap.size w w13) := HB12.out.trans (hb.mono HB12.out.size)
    replace H := hide (H.out.below hb)
    replace HO := hide (HO.out.below hb)
    replace HA := hide (HA.out.below hb)
    replace HX := hide (HX.out.below hb)
    replace HK := hide (HK.out.below hb)
    replace HM := hide (HM.out.below hb)
    replace HL := hide (Nat.lt_of_lt_of_le HL.out hb.size)
    clear hb HB12
    obtain ⟨z0, z1, z2, z3, z4, z5, z6, z7, z8, z9⟩ := HA.out.at_
    have zl : w.heap.size < w13.heap.size := HA.out.lt
    obtain ⟨y0, y1, y2, y3, y4, y5, y6, y7, y8, y9⟩ := HX.out.at_
    have yl : (w.heap.size + 1) < w13.heap.size := HX.out.lt
    obtain ⟨x0, x1, x2, x3, x4, x5, x6, x7, x8, x9⟩ := HK.out.at_
    have xl : q2 < w13.heap.size := HK.out.lt
    obtain ⟨v0, v1, v2, v3, v4, v5, v6, v7, v8, v9⟩ := HM.out.at_
    have vl : q3 < w13.heap.size := HM.out.lt
    go_wp2_with fail
    clear z0 z1 z2 z3 z4 z5 z6 z7 z8 z9 zl y0 y1 y2 y3 y4 y5 y6 y7 y8 y9 yl x0 x1 x2 x3 x4 x5 x6 x7 x8 x9 xl v0 v1 v2 v3 v4 v5 v6 v7 v8 v9 vl
    obtain ⟨w14, ew, hbu, hau⟩ := hk_new w13 hx
    rw [← ew]
    have HB14 : Hid (Below w.heap.size w w14) := HB13.out.trans (hbu.mono HB13.out.size)
    replace H := hide (H.out.below hbu)
    replace HO := hide (HO.out.below hbu)
    replace HA := hide (HA.out.below hbu)
    replace HX := hide (HX.out.below hbu)
    replace HK := hide (HK.out.below hbu)
    replace HM := hide (HM.out.below hbu)
    obtain ⟨q4, eq⟩ : ∃ q4, q4 = w13.heap.size := ⟨_, rfl⟩
    replace HL := hide (Nat.lt_of_lt_of_le HL.out hbu.size)
    rw [← eq] at hau
    try rw [← eq]
    have H4 := hide hau
    clear ew hbu hau eq HB13
    refine (rfind_x H.out HW.out EX.out EF.out).mono ?_
    rintro e w15 ⟨rfl, hb⟩
    have HB15 : Hid (Below w.heap.size w w15) := HB14.out.trans (hb.mono HB14.out.size)
    replace H := hide (H.out.below hb)
    replace HO := hide (HO.out.below hb)
    replace H4 := hide (H4.out.below hb)
    replace HA := hide (HA.out.below hb)
    replace HX := hide (HX.out.below hb)
    replace HK := hide (HK.out.below hb)
    replace HM := hide (HM.out.below hb)
    replace HL := hide (Nat.lt_of_lt_of_le HL.out hb.size)
    clear hb HB14
    obtain ⟨z0, z1, z2, z3, z4, z5, z6, z7, z8, z9⟩ := HA.out.at_
    have zl : w.heap.size < w15.heap.size := HA.out.lt
    obtain ⟨y0, y1, y2, y3, y4, y5, y6, y7, y8, y9⟩ := HX.out.at_
    have yl : (w.heap.size + 1) < w15.heap.size := HX.out.lt
    obtain ⟨x0, x1, x2, x3, x4, x5, x6, x7, x8, x9⟩ := HK.out.at_
    have xl : q2 < w15.heap.size := HK.out.lt
    obtain ⟨v0, v1, v2, v3, v4, v5, v6, v7, v8, v9⟩ := HM.out.at_
    have vl : q3 < w15.heap.size := HM.out.lt
    go_upto_region 14 with fail
    clear z0 z1 z2 z3 z4 z5 z6 z7 z8 z9 zl y0 y1 y2 y3 y4 y5 y6 y7 y8 y9 yl x0 x1 x2 x3 x4 x5 x6 x7 x8 x9 xl v0 v1 v2 v3 v4 v5 v6 v7 v8 v9 vl
    obtain ⟨w16, ew, hbu, hau⟩ := hk_new w15 hx
    rw [← ew]
    have HB16 : Hid (Below w.heap.size w w16) := HB15.out.trans (hbu.mono HB15.out.size)
    replace H := hide (H.out.below hbu)
    replace HO := hide (HO.out.below hbu)
    replace H4 := hide (H4.out.below hbu)
    replace HA := hide (HA.out.below hbu)
    replace HX := hide (HX.out.below hbu)
    replace HK := hide (HK.out.below hbu)
    replace HM := hide (HM.out.below hbu)
    obtain ⟨q5, eq⟩ : ∃ q5, q5 = w15.heap.size := ⟨_, rfl⟩
    replace HL := hide (Nat.lt_of_lt_of_le HL.out hbu.size)
    rw [← eq] at hau
    try rw [← eq]
    have H5 := hide hau
    clear ew hbu hau eq HB15
    have HQ : Hid (Lq w w16 A K a n c B g q2 q3 q4 q5 hx) := ⟨HB16.out, H.out, HA.out, HX.out, HK.out, HM.out, H4.out, H5.out, HO.out⟩
    clear H HA HX HK HM H4 H5 HO HL HB16 HKN HMN
    refine region_tree (n := 63) (fun v => Lq w v A K a n c B g q2 q3 q4 q5 hx) (by kernel_rfl) (by kernel_rfl) ?_
    have HQ0 : Hid (Lq w w16.drew A K a n c B g q2 q3 q4 q5 hx) := HQ.out.below (below_drew1 _)
    generalize w16.drew = u0 at HQ0 ⊢
    clear HQ
    refine any_fork [0] (by kernel_rfl) (by simp) ?_
    refine fork_one ?_
    refine any_op rfl (fun K' hK => ?_)
    simp only [List.getElem_toArray, List.getElem_cons_zero]
    go_simp
    refine (awake_any _).mono ?_; rintro e u1 ⟨rfl, hb⟩; have HQ1 := hide (HQ0.out.below hb); clear hb HQ0
    refine hK _ _ ⟨HQ1.out, ?_⟩
    clear hK K'
    refine any_take 1 (v := ?_) (by kernel_rfl) (by kernel_rfl) (by kernel_rfl) rfl (fun _ _ _ h => h) (by rfl) HQ1.out ?_ ?_
    rotate_left
    · (intro y hy; simp only [List.getElem_toArray, List.getElem_cons_zero, List.getElem_cons_succ]; go_simp; try with_reducible rfl)
    simp only [List.getElem_toArray, List.getElem_cons_zero, List.getElem_cons_succ, Act.put, List.setIfInBounds_toArray, List.set_cons_zero, List.set_cons_succ]
    refine any_take 2 (v := ?_) (by kernel_rfl) (by kernel_rfl) (by kernel_rfl) rfl (fun _ _ _ h => h) (by rfl) HQ1.out ?_ ?_
    rotate_left
    · (intro y hy; obtain ⟨z0, z1, z2, z3, z4, z5, z6, z7, z8, z9⟩ := hy.a1.at_; simp only [List.getElem_toArray, List.getElem_cons_zero, List.getElem_cons_succ]; go_simp; try with_reducible rfl)
    simp only [List.getElem_toArray, List.getElem_cons_zero, List.getElem_cons_succ, Act.put, List.setIfInBounds_toArray, List.set_cons_zero, List.set_cons_succ]
    refine any_take 4 (v := ?_) (by kernel_rfl) (by kernel_rfl) (by kernel_rfl) rfl (fun _ _ _ h => h) (by rfl) HQ1.out ?_ ?_
    rotate_left
    · (intro y hy; simp only [List.getElem_toArray, List.getElem_cons_zero, List.getElem_cons_succ]; go_simp; try with_reducible rfl)
    simp only [List.getElem_toArray, List.getElem_cons_zero, List.getElem_cons_succ, Act.put, List.setIfInBounds_toArray, List.set_cons_zero, List.set_cons_succ]
    refine any_fork [3] (by kernel_rfl) (by simp) ?_
    refine fork_one ?_
    refine any_op rfl (fun K' hK => ?_)
    simp only [List.getElem_toArray, List.getElem_cons_zero, List.getElem_cons_succ]
    go_simp
    refine (check_x HQ1.out.o.ms HW.out CE.out).mono ?_; rintro e u2 ⟨rfl, hb⟩; have HQ2 := hide (HQ1.out.below hb); clear hb HQ1
    refine hK _ _ ⟨HQ2.out, ?_⟩
    clear hK K'
    refine any_take 5 (v := ?_) (by kernel_rfl) (by kernel_rfl) (by kernel_rfl) rfl (fun _ _ _ h => h) (by rfl) HQ2.out ?_ ?_
    rotate_left
    · (intro y hy; simp only [List.getElem_toArray, List.getElem_cons_zero, List.getElem_cons_succ]; go_simp; try with_reducible rfl)
    simp only [List.getElem_toArray, List.getElem_cons_zero, List.getElem_cons_succ, Act.put, List.setIfInBounds_toArray, List.set_cons_zero, List.set_cons_succ]
    refine any_take 6 (v := ?_) (by kernel_rfl) (by kernel_rfl) (by kernel_rfl) rfl (fun _ _ _ h => h) (by rfl) HQ2.out ?_ ?_
    rotate_left
    · (intro y hy; simp only [List.getElem_toArray, List.getElem_cons_zero, List.getElem_cons_succ]; go_simp; try with_reducible rfl)
    simp only [List.getElem_toArray, List.getElem_cons_zero, List.getElem_cons_succ, Act.put, List.setIfInBounds_toArray, List.set_cons_zero, List.set_cons_succ]
    refine any_take 7 (v := ?_) (by kernel_rfl) (by kernel_rfl) (by kernel_rfl) rfl (fun _ _ _ h => h) (by rfl) HQ2.out ?_ ?_
    rotate_left
    · (intro y hy; simp only [List.getElem_toArray, List.getElem_cons_zero, List.getElem_cons_succ]; go_simp; try with_reducible rfl)
    simp only [List.getElem_toArray, List.getElem_cons_zero, List.getElem_cons_succ, Act.put, List.setIfInBounds_toArray, List.set_cons_zero, List.set_cons_succ]
    refine any_take 8 (v := ?_) (by kernel_rfl) (by kernel_rfl) (by kernel_rfl) rfl (fun _ _ _ h => h) (by rfl) HQ2.out ?_ ?_
    rotate_left
    · (intro y hy; obtain ⟨z0, z1, z2, z3, z4, z5, z6, z7, z8, z9⟩ := hy.k2.at_; simp only [List.getElem_toArray, List.getElem_cons_zero, List.getElem_cons_succ]; go_simp; try with_reducible rfl)
    simp only [List.getElem_toArray, List.getElem_cons_zero, List.getElem_cons_succ, Act.put, List.setIfInBounds_toArray, List.set_cons_zero, List.set_cons_succ]
    refine any_take 9 (v := ?_) (by kernel_rfl) (by kernel_rfl) (by kernel_rfl) rfl (fun _ _ _ h => h) (by rfl) HQ2.out ?_ ?_
    rotate_left
    · (intro y hy; obtain ⟨z0, z1, z2, z3, z4, z5, z6, z7, z8, z9⟩ := hy.k3.at_; simp only [List.getElem_toArray, List.getElem_cons_zero, List.getElem_cons_succ]; go_simp; try with_reducible rfl)
    simp only [List.getElem_toArray, List.getElem_cons_zero, List.getElem_cons_succ, Act.put, List.setIfInBounds_toArray, List.set_cons_zero, List.set_cons_succ]
    refine any_fork [10] (by kernel_rfl) (by simp) ?_
    refine fork_one ?_
    refine any_op rfl (fun K' hK => ?_)
    simp only [List.getElem_toArray, List.getElem_cons_zero, List.getElem_cons_succ]
    go_simp
    refine (same_x (A := K) (B := K) (KN.out _) (KN.out _) rfl).mono ?_; rintro e u3 ⟨rfl, hb⟩; have HQ3 := hide (HQ2.out.below hb); clear hb HQ2
    refine hK _ _ ⟨HQ3.out, ?_⟩
    clear hK K'
    refine any_take 11 (v := ?_) (by kernel_rfl) (by kernel_rfl) (by kernel_rfl) rfl (fun _ _ _ h => h) (by rfl) HQ3.out ?_ ?_
    rotate_left
    · (intro y hy; simp only [List.getElem_toArray, List.getElem_cons_zero, List.getElem_cons_succ]; go_simp; try with_reducible rfl)
    simp only [List.getElem_toArray, List.getElem_cons_zero, List.getElem_cons_succ, Act.put, List.setIfInBounds_toArray, List.set_cons_zero, List.set_cons_succ]
    refine any_take 12 (v := ?_) (by kernel_rfl) (by kernel_rfl) (by kernel_rfl) rfl (fun _ _ _ h => h) (by rfl) HQ3.out ?_ ?_
    rotate_left
    · (intro y hy; simp only [List.getElem_toArray, List.getElem_cons_zero, List.getElem_cons_succ]; go_simp; try with_reducible rfl)
    simp only [List.getElem_toArray, List.getElem_cons_zero, List.getElem_cons_succ, Act.put, List.setIfInBounds_toArray, List.set_cons_zero, List.set_cons_succ]
    refine any_take 13 (v := ?_) (by kernel_rfl) (by kernel_rfl) (by kernel_rfl) rfl (fun _ _ _ h => h) (by rfl) HQ3.out ?_ ?_
    rotate_left
    · (intro y hy; simp only [List.getElem_toArray, List.getElem_cons_zero, List.getElem_cons_succ]; go_simp; try with_reducible rfl)
    simp only [List.getElem_toArray, List.getElem_cons_zero, List.getElem_cons_succ, Act.put, List.setIfInBounds_toArray, List.set_cons_zero, List.set_cons_succ]
    refine any_take 14 (v := ?_) (by kernel_rfl) (by kernel_rfl) (by kernel_rfl) rfl (fun _ _ _ h => h) (by rfl) HQ3.out ?_ ?_
    rotate_left
    · (intro y hy; simp only [List.getElem_toArray, List.getElem_cons_zero, List.getElem_cons_succ]; go_simp; try with_reducible rfl)
    simp only [List.getElem_toArray, List.getElem_cons_zero, List.getElem_cons_succ, Act.put, List.setIfInBounds_toArray, List.set_cons_zero, List.set_cons_succ]
    refine any_take 15 (v := ?_) (by kernel_rfl) (by kernel_rfl) (by kernel_rfl) rfl (fun _ _ _ h => h) (by rfl) HQ3.out ?_ ?_
    rotate_left
    · (intro y hy; simp only [List.getElem_toArray, List.getElem_cons_zero, List.getElem_cons_succ]; go_simp; try with_reducible rfl)
    simp only [List.getElem_toArray, List.getElem_cons_zero, List.getElem_cons_succ, Act.put, List.setIfInBounds_toArray, List.set_cons_zero, List.set_cons_succ]
    refine any_take 16 (v := ?_) (by kernel_rfl) (by kernel_rfl) (by kernel_rfl) rfl (fun _ _ _ h => h) (by rfl) HQ3.out ?_ ?_
    rotate_left
    · (intro y hy; simp only [List.getElem_toArray, List.getElem_cons_zero, List.getElem_cons_succ]; go_simp; try with_reducible rfl)
    simp only [List.getElem_toArray, List.getElem_cons_zero, List.getElem_cons_succ, Act.put, List.setIfInBounds_toArray, List.set_cons_zero, List.set_cons_succ]
    refine any_take 17 (v := ?_) (by kernel_rfl) (by kernel_rfl) (by kernel_rfl) rfl (fun _ _ _ h => h) (by rfl) HQ3.out ?_ ?_
    rotate_left
    · (intro y hy; simp only [List.getElem_toArray, List.getElem_cons_zero, List.getElem_cons_succ]; go_simp; try with_reducible rfl)
    simp only [List.getElem_toArray, List.getElem_cons_zero, List.getElem_cons_succ, Act.put, List.setIfInBounds_toArray, List.set_cons_zero, List.set_cons_succ]
    refine any_take 18 (v := ?_) (by kernel_rfl) (by kernel_rfl) (by kernel_rfl) rfl (fun _ _ _ h => h) (by rfl) HQ3.out ?_ ?_
    rotate_left
    · (intro y hy; simp only [List.getElem_toArray, List.getElem_cons_zero, List.getElem_cons_succ]; go_simp; try with_reducible rfl)
    simp only [List.getElem_toArray, List.getElem_cons_zero, List.getElem_cons_succ, Act.put, List.setIfInBounds_toArray, List.set_cons_zero, List.set_cons_succ]
    refine any_take 19 (v := ?_) (by kernel_rfl) (by kernel_rfl) (by kernel_rfl) rfl (fun _ _ _ h => h) (by rfl) HQ3.out ?_ ?_
    rotate_left
    · (intro y hy; simp only [List.getElem_toArray, List.getElem_cons_zero, List.getElem_cons_succ]; go_simp; try with_reducible rfl)
    simp only [List.getElem_toArray, List.getElem_cons_zero, List.getElem_cons_succ, Act.put, List.setIfInBounds_toArray, List.set_cons_zero, List.set_cons_succ]
    refine any_take 20 (v := ?_) (by kernel_rfl) (by kernel_rfl) (by kernel_rfl) rfl (fun _ _ _ h => h) (by rfl) HQ3.out ?_ ?_
    rotate_left
    · (intro y hy; simp only [List.getElem_toArray, List.getElem_cons_zero, List.getElem_cons_succ]; go_simp; try with_reducible rfl)
    simp only [List.getElem_toArray, List.getElem_cons_zero, List.getElem_cons_succ, Act.put, List.setIfInBounds_toArray, List.set_cons_zero, List.set_cons_succ]
    refine any_take 21 (v := ?_) (by kernel_rfl) (by kernel_rfl) (by kernel_rfl) rfl (fun _ _ _ h => h) (by rfl) HQ3.out ?_ ?_
    rotate_left
    · (intro y hy; simp only [List.getElem_toArray, List.getElem_cons_zero, List.getElem_cons_succ]; go_simp; try with_reducible rfl)
    simp only [List.getElem_toArray, List.getElem_cons_zero, List.getElem_cons_succ, Act.put, List.setIfInBounds_toArray, List.set_cons_zero, List.set_cons_succ]
    refine any_take 22 (v := ?_) (by kernel_rfl) (by kernel_rfl) (by kernel_rfl) rfl (fun _ _ _ h => h) (by rfl) HQ3.out ?_ ?_
    rotate_left
    · (intro y hy; simp only [List.getElem_toArray, List.getElem_cons_zero, List.getElem_cons_succ]; go_simp; try with_reducible rfl)
    simp only [List.getElem_toArray, List.getElem_cons_zero, List.getElem_cons_succ, Act.put, List.setIfInBounds_toArray, List.set_cons_zero, List.set_cons_succ]
    refine any_take 23 (v := ?_) (by kernel_rfl) (by kernel_rfl) (by kernel_rfl) rfl (fun _ _ _ h => h) (by rfl) HQ3.out ?_ ?_
    rotate_left
    · (intro y hy; simp only [List.getElem_toArray, List.getElem_cons_zero, List.getElem_cons_succ]; go_simp; try with_reducible rfl)
    simp only [List.getElem_toArray, List.getElem_cons_zero, List.getElem_cons_succ, Act.put, List.setIfInBounds_toArray, List.set_cons_zero, List.set_cons_succ]
    refine any_take 24 (v := ?_) (by kernel_rfl) (by kernel_rfl) (by kernel_rfl) rfl (fun _ _ _ h => h) (by rfl) HQ3.out ?_ ?_
    rotate_left
    · (intro y hy; simp only [List.getElem_toArray, List.getElem_cons_zero, List.getElem_cons_succ]; go_simp; try with_reducible rfl)
    simp only [List.getElem_toArray, List.getElem_cons_zero, List.getElem_cons_succ, Act.put, List.setIfInBounds_toArray, List.set_cons_zero, List.set_cons_succ]
    refine any_take 25 (v := ?_) (by kernel_rfl) (by kernel_rfl) (by kernel_rfl) rfl (fun _ _ _ h => h) (by rfl) HQ3.out ?_ ?_
    rotate_left
    · (intro y hy; simp only [List.getElem_toArray, List.getElem_cons_zero, List.getElem_cons_succ]; go_simp; try with_reducible rfl)
    simp only [List.getElem_toArray, List.getElem_cons_zero, List.getElem_cons_succ, Act.put, List.setIfInBounds_toArray, List.set_cons_zero, List.set_cons_succ]
    refine any_take 26 (v := ?_) (by kernel_rfl) (by kernel_rfl) (by kernel_rfl) rfl (fun _ _ _ h => h) (by rfl) HQ3.out ?_ ?_
    rotate_left
    · (intro y hy; simp only [List.getElem_toArray, List.getElem_cons_zero, List.getElem_cons_succ]; go_simp; try with_reducible rfl)
    simp only [List.getElem_toArray, List.getElem_cons_zero, List.getElem_cons_succ, Act.put, List.setIfInBounds_toArray, List.set_cons_zero, List.set_cons_succ]
    refine any_take 27 (v := ?_) (by kernel_rfl) (by kernel_rfl) (by kernel_rfl) rfl (fun _ _ _ h => h) (by rfl) HQ3.out ?_ ?_
    rotate_left
    · (intro y hy; simp only [List.getElem_toArray, List.getElem_cons_zero, List.getElem_cons_succ]; go_simp; try with_reducible rfl)
    simp only [List.getElem_toArray, List.getElem_cons_zero, List.getElem_cons_succ, Act.put, List.setIfInBounds_toArray, List.set_cons_zero, List.set_cons_succ]
    refine any_take 28 (v := ?_) (by kernel_rfl) (by kernel_rfl) (by kernel_rfl) rfl (fun _ _ _ h => h) (by rfl) HQ3.out ?_ ?_
    rotate_left
    · (intro y hy; simp only [List.getElem_toArray, List.getElem_cons_zero, List.getElem_cons_succ]; go_simp; try with_reducible rfl)
    simp only [List.getElem_toArray, List.getElem_cons_zero, List.getElem_cons_succ, Act.put, List.setIfInBounds_toArray, List.set_cons_zero, List.set_cons_succ]
    refine any_take 29 (v := ?_) (by kernel_rfl) (by kernel_rfl) (by kernel_rfl) rfl (fun _ _ _ h => h) (by rfl) HQ3.out ?_ ?_
    rotate_left
    · (intro y hy; simp only [List.getElem_toArray, List.getElem_cons_zero, List.getElem_cons_succ]; go_simp; try with_reducible rfl)
    simp only [List.getElem_toArray, List.getElem_cons_zero, List.getElem_cons_succ, Act.put, List.setIfInBounds_toArray, List.set_cons_zero, List.set_cons_succ]
    refine any_take 30 (v := ?_) (by kernel_rfl) (by kernel_rfl) (by kernel_rfl) rfl (fun _ _ _ h => h) (by rfl) HQ3.out ?_ ?_
    rotate_left
    · (intro y hy; simp only [List.getElem_toArray, List.getElem_cons_zero, List.getElem_cons_succ]; go_simp; try with_reducible rfl)
    simp only [List.getElem_toArray, List.getElem_cons_zero, List.getElem_cons_succ, Act.put, List.setIfInBounds_toArray, List.set_cons_zero, List.set_cons_succ]
    refine any_take 31 (v := ?_) (by kernel_rfl) (by kernel_rfl) (by kernel_rfl) rfl (fun _ _ _ h => h) (by rfl) HQ3.out ?_ ?_
    rotate_left
    · (intro y hy; simp only [List.getElem_toArray, List.getElem_cons_zero, List.getElem_cons_succ]; go_simp; try with_reducible rfl)
    simp only [List.getElem_toArray, List.getElem_cons_zero, List.getElem_cons_succ, Act.put, List.setIfInBounds_toArray, List.set_cons_zero, List.set_cons_succ]
    refine any_take 32 (v := ?_) (by kernel_rfl) (by kernel_rfl) (by kernel_rfl) rfl (fun _ _ _ h => h) (by rfl) HQ3.out ?_ ?_
    rotate_left
    · (intro y hy; simp only [List.getElem_toArray, List.getElem_cons_zero, List.getElem_cons_succ]; go_simp; try with_reducible rfl)
    simp only [List.getElem_toArray, List.getElem_cons_zero, List.getElem_cons_succ, Act.put, List.setIfInBounds_toArray, List.set_cons_zero, List.set_cons_succ]
    refine any_take 33 (v := ?_) (by kernel_rfl) (by kernel_rfl) (by kernel_rfl) rfl (fun _ _ _ h => h) (by rfl) HQ3.out ?_ ?_
    rotate_left
    · (intro y hy; simp only [List.getElem_toArray, List.getElem_cons_zero, List.getElem_cons_succ]; go_simp; try with_reducible rfl)
    simp only [List.getElem_toArray, List.getElem_cons_zero, List.getElem_cons_succ, Act.put, List.setIfInBounds_toArray, List.set_cons_zero, List.set_cons_succ]
    refine any_take 34 (v := ?_) (by kernel_rfl) (by kernel_rfl) (by kernel_rfl) rfl (fun _ _ _ h => h) (by rfl) HQ3.out ?_ ?_
    rotate_left
    · (intro y hy; simp only [List.getElem_toArray, List.getElem_cons_zero, List.getElem_cons_succ]; go_simp; try with_reducible rfl)
    simp only [List.getElem_toArray, List.getElem_cons_zero, List.getElem_cons_succ, Act.put, List.setIfInBounds_toArray, List.set_cons_zero, List.set_cons_succ]
    refine any_take 35 (v := ?_) (by kernel_rfl) (by kernel_rfl) (by kernel_rfl) rfl (fun _ _ _ h => h) (by rfl) HQ3.out ?_ ?_
    rotate_left
    · (intro y hy; simp only [List.getElem_toArray, List.getElem_cons_zero, List.getElem_cons_succ]; go_simp; try with_reducible rfl)
    simp only [List.getElem_toArray, List.getElem_cons_zero, List.getElem_cons_succ, Act.put, List.setIfInBounds_toArray, List.set_cons_zero, List.set_cons_succ]
    refine any_take 36 (v := ?_) (by kernel_rfl) (by kernel_rfl) (by kernel_rfl) rfl (fun _ _ _ h => h) (by rfl) HQ3.out ?_ ?_
    rotate_left
    · (intro y hy; simp only [List.getElem_toArray, List.getElem_cons_zero, List.getElem_cons_succ]; go_simp; try with_reducible rfl)
    simp only [List.getElem_toArray, List.getElem_cons_zero, List.getElem_cons_succ, Act.put, List.setIfInBounds_toArray, List.set_cons_zero, List.set_cons_succ]
    refine any_take 37 (v := ?_) (by kernel_rfl) (by kernel_rfl) (by kernel_rfl) rfl (fun _ _ _ h => h) (by rfl) HQ3.out ?_ ?_
    rotate_left
    · (intro y hy; simp only [List.getElem_toArray, List.getElem_cons_zero, List.getElem_cons_succ]; go_simp; try with_reducible rfl)
    simp only [List.getElem_toArray, List.getElem_cons_zero, List.getElem_cons_succ, Act.put, List.setIfInBounds_toArray, List.set_cons_zero, List.set_cons_succ]
    refine any_take 38 (v := ?_) (by kernel_rfl) (by kernel_rfl) (by kernel_rfl) rfl (fun _ _ _ h => h) (by rfl) HQ3.out ?_ ?_
    rotate_left
    · (intro y hy; obtain ⟨z0, z1, z2, z3⟩ := hy.h4.at_; simp only [List.getElem_toArray, List.getElem_cons_zero, List.getElem_cons_succ]; go_simp; try with_reducible rfl)
    simp only [List.getElem_toArray, List.getElem_cons_zero, List.getElem_cons_succ, Act.put, List.setIfInBounds_toArray, List.set_cons_zero, List.set_cons_succ]
    refine any_take 39 (v := ?_) (by kernel_rfl) (by kernel_rfl) (by kernel_rfl) rfl (fun _ _ _ h => h) (by rfl) HQ3.out ?_ ?_
    rotate_left
    · (intro y hy; obtain ⟨z0, z1, z2, z3⟩ := hy.h5.at_; simp only [List.getElem_toArray, List.getElem_cons_zero, List.getElem_cons_succ]; go_simp; try with_reducible rfl)
    simp only [List.getElem_toArray, List.getElem_cons_zero, List.getElem_cons_succ, Act.put, List.setIfInBounds_toArray, List.set_cons_zero, List.set_cons_succ]
    refine any_take 40 (v := ?_) (by kernel_rfl) (by kernel_rfl) (by kernel_rfl) rfl (fun _ _ _ h => h) (by rfl) HQ3.out ?_ ?_
    rotate_left
    · (intro y hy; simp only [List.getElem_toArray, List.getElem_cons_zero, List.getElem_cons_succ]; go_simp; try with_reducible rfl)
    simp only [List.getElem_toArray, List.getElem_cons_zero, List.getElem_cons_succ, Act.put, List.setIfInBounds_toArray, List.set_cons_zero, List.set_cons_succ]
    refine any_take 41 (v := ?_) (by kernel_rfl) (by kernel_rfl) (by kernel_rfl) rfl (fun _ _ _ h => h) (by rfl) HQ3.out ?_ ?_
    rotate_left
    · (intro y hy; simp only [List.getElem_toArray, List.getElem_cons_zero, List.getElem_cons_succ]; go_simp; try with_reducible rfl)
    simp only [List.getElem_toArray, List.getElem_cons_zero, List.getElem_cons_succ, Act.put, List.setIfInBounds_toArray, List.set_cons_zero, List.set_cons_succ]
    refine any_take 42 (v := ?_) (by kernel_rfl) (by kernel_rfl) (by kernel_rfl) rfl (fun _ _ _ h => h) (by rfl) HQ3.out ?_ ?_
    rotate_left
    · (intro y hy; simp only [List.getElem_toArray, List.getElem_cons_zero, List.getElem_cons_succ]; go_simp; try with_reducible rfl)
    simp only [List.getElem_toArray, List.getElem_cons_zero, List.getElem_cons_succ, Act.put, List.setIfInBounds_toArray, List.set_cons_zero, List.set_cons_succ]
    refine any_take 43 (v := ?_) (by kernel_rfl) (by kernel_rfl) (by kernel_rfl) rfl (fun _ _ _ h => h) (by rfl) HQ3.out ?_ ?_
    rotate_left
    · (intro y hy; simp only [List.getElem_toArray, List.getElem_cons_zero, List.getElem_cons_succ]; go_simp; try with_reducible rfl)
    simp only [List.getElem_toArray, List.getElem_cons_zero, List.getElem_cons_succ, Act.put, List.setIfInBounds_toArray, List.set_cons_zero, List.set_cons_succ]
    refine any_take 44 (v := ?_) (by kernel_rfl) (by kernel_rfl) (by kernel_rfl) rfl (fun _ _ _ h => h) (by rfl) HQ3.out ?_ ?_
    rotate_left
    · (intro y hy; simp only [List.getElem_toArray, List.getElem_cons_zero, List.getElem_cons_succ]; go_simp; try with_reducible rfl)
    simp only [List.getElem_toArray, List.getElem_cons_zero, List.getElem_cons_succ, Act.put, List.setIfInBounds_toArray, List.set_cons_zero, List.set_cons_succ]
    refine any_take 45 (v := ?_) (by kernel_rfl) (by kernel_rfl) (by kernel_rfl) rfl (fun _ _ _ h => h) (by rfl) HQ3.out ?_ ?_
    rotate_left
    · (intro y hy; simp only [List.getElem_toArray, List.getElem_cons_zero, List.getElem_cons_succ]; go_simp; try with_reducible rfl)
    simp only [List.getElem_toArray, List.getElem_cons_zero, List.getElem_cons_succ, Act.put, List.setIfInBounds_toArray, List.set_cons_zero, List.set_cons_succ]
    refine any_take 46 (v := ?_) (by kernel_rfl) (by kernel_rfl) (by kernel_rfl) rfl (fun _ _ _ h => h) (by rfl) HQ3.out ?_ ?_
    rotate_left
    · (intro y hy; simp only [List.getElem_toArray, List.getElem_cons_zero, List.getElem_cons_succ]; go_simp; try with_reducible rfl)
    simp only [List.getElem_toArray, List.getElem_cons_zero, List.getElem_cons_succ, Act.put, List.setIfInBounds_toArray, List.set_cons_zero, List.set_cons_succ]
    refine any_take 47 (v := ?_) (by kernel_rfl) (by kernel_rfl) (by kernel_rfl) rfl (fun _ _ _ h => h) (by rfl) HQ3.out ?_ ?_
    rotate_left
    · (intro y hy; simp only [List.getElem_toArray, List.getElem_cons_zero, List.getElem_cons_succ]; go_simp; try with_reducible rfl)
    simp only [List.getElem_toArray, List.getElem_cons_zero, List.getElem_cons_succ, Act.put, List.setIfInBounds_toArray, List.set_cons_zero, List.set_cons_succ]
    refine any_take 48 (v := ?_) (by kernel_rfl) (by kernel_rfl) (by kernel_rfl) rfl (fun _ _ _ h => h) (by rfl) HQ3.out ?_ ?_
    rotate_left
    · (intro y hy; obtain ⟨z0, z1, z2, z3, z4, z5, z6, z7, z8, z9⟩ := hy.a1.at_; simp only [List.getElem_toArray, List.getElem_cons_zero, List.getElem_cons_succ]; go_simp; try with_reducible rfl)
    simp only [List.getElem_toArray, List.getElem_cons_zero, List.getElem_cons_succ, Act.put, List.setIfInBounds_toArray, List.set_cons_zero, List.set_cons_succ]
    refine any_take 50 (v := ?_) (by kernel_rfl) (by kernel_rfl) (by kernel_rfl) rfl (fun _ _ _ h => h) (by rfl) HQ3.out ?_ ?_
    rotate_left
    · (intro y hy; obtain ⟨z0, z1, z2, z3, z4, z5, z6, z7, z8, z9⟩ := hy.a0.at_; simp only [List.getElem_toArray, List.getElem_cons_zero, List.getElem_cons_succ]; go_simp; try with_reducible rfl)
    simp only [List.getElem_toArray, List.getElem_cons_zero, List.getElem_cons_succ, Act.put, List.setIfInBounds_toArray, List.set_cons_zero, List.set_cons_succ]
    refine any_fork [49] (by kernel_rfl) (by simp) ?_
    refine fork_one ?_
    refine any_op rfl (fun K' hK => ?_)
    simp only [List.getElem_toArray, List.getElem_cons_zero, List.getElem_cons_succ]
    go_simp
    refine (plain_x HQ3.out.o.ms HW.out EP.out).mono ?_; rintro e u4 ⟨rfl, hb⟩; have HQ4 := hide (HQ3.out.below hb); clear hb HQ3
    refine hK _ _ ⟨HQ4.out, ?_⟩
    clear hK K'
    refine any_fork [51] (by kernel_rfl) (by simp) ?_
    refine fork_one ?_
    refine any_op rfl (fun K' hK => ?_)
    simp only [List.getElem_toArray, List.getElem_cons_zero, List.getElem_cons_succ]
    go_simp
    refine (rplain_x HQ4.out.h EP.out).mono ?_; rintro e u5 ⟨rfl, hb⟩; have HQ5 := hide (HQ4.out.below hb); clear hb HQ4
    refine hK _ _ ⟨HQ5.out, ?_⟩
    clear hK K'
    refine any_take 52 (v := ?_) (by kernel_rfl) (by kernel_rfl) (by kernel_rfl) rfl (fun _ _ _ h => h) (by rfl) HQ5.out ?_ ?_
    rotate_left
    · (intro y hy; simp only [List.getElem_toArray, List.getElem_cons_zero, List.getElem_cons_succ]; go_simp; try with_reducible rfl)
    simp only [List.getElem_toArray, List.getElem_cons_zero, List.getElem_cons_succ, Act.put, List.setIfInBounds_toArray, List.set_cons_zero, List.set_cons_succ]
    refine any_take 53 (v := ?_) (by kernel_rfl) (by kernel_rfl) (by kernel_rfl) rfl (fun _ _ _ h => h) (by rfl) HQ5.out ?_ ?_
    rotate_left
    · (intro y hy; simp only [List.getElem_toArray, List.getElem_cons_zero, List.getElem_cons_succ]; go_simp; try with_reducible rfl)
    simp only [List.getElem_toArray, List.getElem_cons_zero, List.getElem_cons_succ, Act.put, List.setIfInBounds_toArray, List.set_cons_zero, List.set_cons_succ]
    refine any_take 54 (v := ?_) (by kernel_rfl) (by kernel_rfl) (by kernel_rfl) rfl (fun _ _ _ h => h) (by rfl) HQ5.out ?_ ?_
    rotate_left
    · (intro y hy; simp only [List.getElem_toArray, List.getElem_cons_zero, List.getElem_cons_succ]; go_simp; try with_reducible rfl)
    simp only [List.getElem_toArray, List.getElem_cons_zero, List.getElem_cons_succ, Act.put, List.setIfInBounds_toArray, List.set_cons_zero, List.set_cons_succ]
    refine any_take 55 (v := ?_) (by kernel_rfl) (by kernel_rfl) (by kernel_rfl) rfl (fun _ _ _ h => h) (by rfl) HQ5.out ?_ ?_
    rotate_left
    · (intro y hy; simp only [List.getElem_toArray, List.getElem_cons_zero, List.getElem_cons_succ]; go_simp; try with_reducible rfl)
    simp only [List.getElem_toArray, List.getElem_cons_zero, List.getElem_cons_succ, Act.put, List.setIfInBounds_toArray, List.set_cons_zero, List.set_cons_succ]
    refine any_take 56 (v := ?_) (by kernel_rfl) (by kernel_rfl) (by kernel_rfl) rfl (fun _ _ _ h => h) (by rfl) HQ5.out ?_ ?_
    rotate_left
    · (intro y hy; obtain ⟨z0, z1, z2, z3, z4, z5, z6, z7, z8, z9⟩ := hy.a1.at_; simp only [List.getElem_toArray, List.getElem_cons_zero, List.getElem_cons_succ]; go_simp; try with_reducible rfl)
    simp only [List.getElem_toArray, List.getElem_cons_zero, List.getElem_cons_succ, Act.put, List.setIfInBounds_toArray, List.set_cons_zero, List.set_cons_succ]
    refine any_take 57 (v := ?_) (by kernel_rfl) (by kernel_rfl) (by kernel_rfl) rfl (fun _ _ _ h => h) (by rfl) HQ5.out ?_ ?_
    rotate_left
    · (intro y hy; simp only [List.getElem_toArray, List.getElem_cons_zero, List.getElem_cons_succ]; go_simp; try with_reducible rfl)
    simp only [List.getElem_toArray, List.getElem_cons_zero, List.getElem_cons_succ, Act.put, List.setIfInBounds_toArray, List.set_cons_zero, List.set_cons_succ]
    refine any_take 58 (v := ?_) (by kernel_rfl) (by kernel_rfl) (by kernel_rfl) rfl (fun _ _ _ h => h) (by rfl) HQ5.out ?_ ?_
    rotate_left
    · (intro y hy; obtain ⟨z0, z1, z2, z3, z4, z5, z6, z7, z8, z9⟩ := hy.a0.at_; simp only [List.getElem_toArray, List.getElem_cons_zero, List.getElem_cons_succ]; go_simp; try with_reducible rfl)
    simp only [List.getElem_toArray, List.getElem_cons_zero, List.getElem_cons_succ, Act.put, List.setIfInBounds_toArray, List.set_cons_zero, List.set_cons_succ]
    refine any_take 59 (v := ?_) (by kernel_rfl) (by kernel_rfl) (by kernel_rfl) rfl (fun _ _ _ h => h) (by rfl) HQ5.out ?_ ?_
    rotate_left
    · (intro y hy; simp only [List.getElem_toArray, List.getElem_cons_zero, List.getElem_cons_succ]; go_simp; try with_reducible rfl)
    simp only [List.getElem_toArray, List.getElem_cons_zero, List.getElem_cons_succ, Act.put, List.setIfInBounds_toArray, List.set_cons_zero, List.set_cons_succ]
    refine any_fork [60] (by kernel_rfl) (by simp) ?_
    refine fork_one ?_
    refine any_op rfl (fun K' hK => ?_)
    simp only [List.getElem_toArray, List.getElem_cons_zero, List.getElem_cons_succ]
    go_simp
    refine (kept_h HQ5.out.h HQ5.out.o).mono ?_; rintro e u6 ⟨rfl, hb⟩; have HQ6 := hide (HQ5.out.below hb); clear hb HQ5
    refine hK _ _ ⟨HQ6.out, ?_⟩
    clear hK K'
    refine any_take 61 (v := ?_) (by kernel_rfl) (by kernel_rfl) (by kernel_rfl) rfl (fun _ _ _ h => h) (by rfl) HQ6.out ?_ ?_
    rotate_left
    · (intro y hy; simp only [List.getElem_toArray, List.getElem_cons_zero, List.getElem_cons_succ]; go_simp; try with_reducible rfl)
    simp only [List.getElem_toArray, List.getElem_cons_zero, List.getElem_cons_succ, Act.put, List.setIfInBounds_toArray, List.set_cons_zero, List.set_cons_succ]
    refine any_take 62 (v := ?_) (by kernel_rfl) (by kernel_rfl) (by kernel_rfl) rfl (fun _ _ _ h => h) (by rfl) HQ6.out ?_ ?_
    rotate_left
    · (intro y hy; simp only [List.getElem_toArray, List.getElem_cons_zero, List.getElem_cons_succ]; go_simp; try with_reducible rfl)
    simp only [List.getElem_toArray, List.getElem_cons_zero, List.getElem_cons_succ, Act.put, List.setIfInBounds_toArray, List.set_cons_zero, List.set_cons_succ]
    refine any_done (by kernel_rfl) ?_
    go_wp2_with fail
    go_returns
    exact ⟨rfl, HQ6.out.b⟩

  · have RB : Hid (rightB A = false) := by show _ = _; simpa using hr
    have CE : Hid (checkE A = 21) := if_neg hr
    clear hr
    go_enter Try.func3, Try.ntmps3
    go_wp2_with fail
    obtain ⟨w1, ew, hb1, ha1, hx1⟩ := acc_two w A A a a n c n c
    rw [← ew]
    have HB1 := hide hb1
    have HA := hide ha1
    have HX := hide hx1
    replace H := hide (H.out.below hb1)
    clear hb1 ha1 hx1 ew
    have HL : Hid (w.heap.size < w1.heap.size) := HA.out.lt
    obtain ⟨B, eB⟩ : ∃ B, B = w1.heap.size := ⟨_, rfl⟩
    have HBL : Hid (w.heap.size + 1 < B) := by show _ < _; rw [eB]; exact HX.out.lt
    refine (own_h H.out HC.out).mono ?_
    rintro e w2 ⟨g, rfl, hb, ho⟩
    have HB2 : Hid (Below w.heap.size w w2) := HB1.out.trans (hb.mono HB1.out.size)
    replace H := hide (H.out.below hb)
    replace HA := hide (HA.out.below hb)
    replace HX := hide (HX.out.below hb)
    replace HL := hide (Nat.lt_of_lt_of_le HL.out hb.size)
    clear hb HB1
    rw [← eB] at ho
    have HO := hide ho
    clear ho eB
    obtain ⟨z0, z1, z2, z3, z4, z5, z6, z7, z8, z9⟩ := HA.out.at_
    have zl : w.heap.size < w2.heap.size := HA.out.lt
    obtain ⟨y0, y1, y2, y3, y4, y5, y6, y7, y8, y9⟩ := HX.out.at_
    have yl : (w.heap.size + 1) < w2.heap.size := HX.out.lt
    have yf : ∀ o, w2.frozen? ⟨w.heap.size + 1, o, none⟩ = false := fun o => frozen_of_row _ _ _ _ _ HX.out.row
    go_wp2_with fail
    clear z0 z1 z2 z3 z4 z5 z6 z7 z8 z9 zl y0 y1 y2 y3 y4 y5 y6 y7 y8 y9 yl
    obtain ⟨w3, ew⟩ : ∃ w3, w3 = w2.setCell ⟨w.heap.size + 1, 5, none⟩ (.slice (some ⟨g, 0, none⟩) n (n + 2)) := ⟨_, rfl⟩
    rw [← ew]
    clear yf
    have HB3 : Hid (Below w.heap.size w w3) := by rw [ew]; exact HB2.out.setCell (p := ⟨w.heap.size + 1, 5, none⟩) (show w.heap.size ≤ w.heap.size + 1 by omega) _
    have HQ : Hid (Hs w3 a n A.hs) := by rw [ew]; exact hs_put H.out AWA.out
    have HA' : Hid (Ab w3 w.heap.size A a n c) := by rw [ew]; exact HA.out.put_far (by omega)
    have HX' : Hid (Ab w3 (w.heap.size + 1) A (some ⟨g, 0, none⟩) n (n + 2)) := by rw [ew]; exact ⟨put_row' HX.out.row⟩
    have HO' : Hid (Owned w3 B g n A.hs) := by rw [ew]; exact owned_put HO.out HBL.out
    have HL' : Hid (w.heap.size < w3.heap.size) := HA'.out.lt
    clear ew HB2 H HA HX HO HL
    have H := HQ
    have HA := HA'
    have HX := HX'
    have HO := HO'
    have HL := HL'
    clear HQ HA' HX' HO' HL'
    refine (rright_x H.out HW.out RB.out).mono ?_
    rintro e w4 ⟨rfl, hb⟩
    have HB4 : Hid (Below w.heap.size w w4) := HB3.out.trans (hb.mono HB3.out.size)
    replace H := hide (H.out.below hb)
    replace HO := hide (HO.out.below hb)
    replace HA := hide (HA.out.below hb)
    replace HX := hide (HX.out.below hb)
    replace HL := hide (Nat.lt_of_lt_of_le HL.out hb.size)
    clear hb HB3
    obtain ⟨z0, z1, z2, z3, z4, z5, z6, z7, z8, z9⟩ := HA.out.at_
    have zl : w.heap.size < w4.heap.size := HA.out.lt
    obtain ⟨y0, y1, y2, y3, y4, y5, y6, y7, y8, y9⟩ := HX.out.at_
    have yl : (w.heap.size + 1) < w4.heap.size := HX.out.lt
    go_wp2_with fail
    clear z0 z1 z2 z3 z4 z5 z6 z7 z8 z9 zl y0 y1 y2 y3 y4 y5 y6 y7 y8 y9 yl
    refine (new_x _ EK.out EE.out).mono ?_
    rintro e w5 ⟨rfl, hb⟩
    have HB5 : Hid (Below w.heap.size w w5) := HB4.out.trans (hb.mono HB4.out.size)
    replace H := hide (H.out.below hb)
    replace HO := hide (HO.out.below hb)
    replace HA := hide (HA.out.below hb)
    replace HX := hide (HX.out.below hb)
    replace HL := hide (Nat.lt_of_lt_of_le HL.out hb.size)
    clear hb HB4
    obtain ⟨z0, z1, z2, z3, z4, z5, z6, z7, z8, z9⟩ := HA.out.at_
    have zl : w.heap.size < w5.heap.size := HA.out.lt
    obtain ⟨y0, y1, y2, y3, y4, y5, y6, y7, y8, y9⟩ := HX.out.at_
    have yl : (w.heap.size + 1) < w5.heap.size := HX.out.lt
    go_wp2_with fail
    clear z0 z1 z2 z3 z4 z5 z6 z7 z8 z9 zl y0 y1 y2 y3 y4 y5 y6 y7 y8 y9 yl
    obtain ⟨w6, ew, hbu, hau⟩ := one_new w5 K none 0 0
    rw [← ew]
    have HB6 : Hid (Below w.heap.size w w6) := HB5.out.trans (hbu.mono HB5.out.size)
    replace H := hide (H.out.below hbu)
    replace HO := hide (HO.out.below hbu)
    replace HA := hide (HA.out.below hbu)
    replace HX := hide (HX.out.below hbu)
    obtain ⟨q2, eq⟩ : ∃ q2, q2 = w5.heap.size := ⟨_, rfl⟩
    have HKN : Hid (w.heap.size < q2) := by show w.heap.size < q2; rw [eq]; exact HL.out
    replace HL := hide (Nat.lt_of_lt_of_le HL.out hbu.size)
    rw [← eq] at hau
    try rw [← eq]
    have HK := hide hau
    clear ew hbu hau eq HB5
    refine (rnew_x _ EK.out EE.out).mono ?_
    rintro e w7 ⟨rfl, hb⟩
    have HB7 : Hid (Below w.heap.size w w7) := HB6.out.trans (hb.mono HB6.out.size)
    replace H := hide (H.out.below hb)
    replace HO := hide (HO.out.below hb)
    replace HA := hide (HA.out.below hb)
    replace HX := hide (HX.out.below hb)
    replace HK := hide (HK.out.below hb)
    replace HL := hide (Nat.lt_of_lt_of_le HL.out hb.size)
    clear hb HB6
    obtain ⟨z0, z1, z2, z3, z4, z5, z6, z7, z8, z9⟩ := HA.out.at_
    have zl : w.heap.size < w7.heap.size := HA.out.lt
    obtain ⟨y0, y1, y2, y3, y4, y5, y6, y7, y8, y9⟩ := HX.out.at_
    have yl : (w.heap.size + 1) < w7.heap.size := HX.out.lt
    obtain ⟨x0, x1, x2, x3, x4, x5, x6, x7, x8, x9⟩ := HK.out.at_
    have xl : q2 < w7.heap.size := HK.out.lt
    go_wp2_with fail
    clear z0 z1 z2 z3 z4 z5 z6 z7 z8 z9 zl y0 y1 y2 y3 y4 y5 y6 y7 y8 y9 yl x0 x1 x2 x3 x4 x5 x6 x7 x8 x9 xl
    obtain ⟨w8, ew, hbu, hau⟩ := one_new w7 K none 0 0
    rw [← ew]
    have HB8 : Hid (Below w.heap.size w w8) := HB7.out.trans (hbu.mono HB7.out.size)
    replace H := hide (H.out.below hbu)
    replace HO := hide (HO.out.below hbu)
    replace HA := hide (HA.out.below hbu)
    replace HX := hide (HX.out.below hbu)
    replace HK := hide (HK.out.below hbu)
    obtain ⟨q3, eq⟩ : ∃ q3, q3 = w7.heap.size := ⟨_, rfl⟩
    have HMN : Hid (w.heap.size < q3) := by show w.heap.size < q3; rw [eq]; exact HL.out
    replace HL := hide (Nat.lt_of_lt_of_le HL.out hbu.size)
    rw [← eq] at hau
    try rw [← eq]
    have HM := hide hau
    clear ew hbu hau eq HB7
    refine (room_x HO.out.ms HW.out ED.out EU.out).mono ?_
    rintro e w9 ⟨rfl, hb⟩
    have HB9 : Hid (Below w.heap.size w w9) := HB8.out.trans (hb.mono HB8.out.size)
    replace H := hide (H.out.below hb)
    replace HO := hide (HO.out.below hb)
    replace HA := hide (HA.out.below hb)
    replace HX := hide (HX.out.below hb)
    replace HK := hide (HK.out.below hb)
    replace HM := hide (HM.out.below hb)
    replace HL := hide (Nat.lt_of_lt_of_le HL.out hb.size)
    clear hb HB8
    obtain ⟨z0, z1, z2, z3, z4, z5, z6, z7, z8, z9⟩ := HA.out.at_
    have zl : w.heap.size < w9.heap.size := HA.out.lt
    obtain ⟨y0, y1, y2, y3, y4, y5, y6, y7, y8, y9⟩ := HX.out.at_
    have yl : (w.heap.size + 1) < w9.heap.size := HX.out.lt
    obtain ⟨x0, x1, x2, x3, x4, x5, x6, x7, x8, x9⟩ := HK.out.at_
    have xl : q2 < w9.heap.size := HK.out.lt
    obtain ⟨v0, v1, v2, v3, v4, v5, v6, v7, v8, v9⟩ := HM.out.at_
    have vl : q3 < w9.heap.size := HM.out.lt
    go_wp2_with fail
    clear z0 z1 z2 z3 z4 z5 z6 z7 z8 z9 zl y0 y1 y2 y3 y4 y5 y6 y7 y8 y9 yl x0 x1 x2 x3 x4 x5 x6 x7 x8 x9 xl v0 v1 v2 v3 v4 v5 v6 v7 v8 v9 vl
    refine (rroom_x H.out HW.out ED.out EU.out).mono ?_
    rintro e w10 ⟨rfl, hb⟩
    have HB10 : Hid (Below w.heap.size w w10) := HB9.out.trans (hb.mono HB9.out.size)
    replace H := hide (H.out.below hb)
    replace HO := hide (HO.out.below hb)
    replace HA := hide (HA.out.below hb)
    replace HX := hide (HX.out.below hb)
    replace HK := hide (HK.out.below hb)
    replace HM := hide (HM.out.below hb)
    replace HL := hide (Nat.lt_of_lt_of_le HL.out hb.size)
    clear hb HB9
    obtain ⟨z0, z1, z2, z3, z4, z5, z6, z7, z8, z9⟩ := HA.out.at_
    have zl : w.heap.size < w10.heap.size := HA.out.lt
    obtain ⟨y0, y1, y2, y3, y4, y5, y6, y7, y8, y9⟩ := HX.out.at_
    have yl : (w.heap.size + 1) < w10.heap.size := HX.out.lt
    obtain ⟨x0, x1, x2, x3, x4, x5, x6, x7, x8, x9⟩ := HK.out.at_
    have xl : q2 < w10.heap.size := HK.out.lt
    obtain ⟨v0, v1, v2, v3, v4, v5, v6, v7, v8, v9⟩ := HM.out.at_
    have vl : q3 < w10.heap.size := HM.out.lt
    go_wp2_with fail
    clear z0 z1 z2 z3 z4 z5 z6 z7 z8 z9 zl y0 y1 y2 y3 y4 y5 y6 y7 y8 y9 yl x0 x1 x2 x3 x4 x5 x6 x7 x8 x9 xl v0 v1 v2 v3 v4 v5 v6 v7 v8 v9 vl
    refine (total_x HO.out.ms HW.out EV.out ET.out).mono ?_
    rintro e w11 ⟨rfl, hb⟩
    have HB11 : Hid (Below w.heap.size w w11) := HB10.out.trans (hb.mono HB10.out.size)
    replace H := hide (H.out.below hb)
    replace HO := hide (HO.out.below hb)
    replace HA := hide (HA.out.below hb)
    replace HX := hide (HX.out.below hb)
    replace HK := hide (HK.out.below hb)
    replace HM := hide (HM.out.below hb)
    replace HL := hide (Nat.lt_of_lt_of_le HL.out hb.size)
    clear hb HB10
    obtain ⟨z0, z1, z2, z3, z4, z5, z6, z7, z8, z9⟩ := HA.out.at_
    have zl : w.heap.size < w11.heap.size := HA.out.lt
    obtain ⟨y0, y1, y2, y3, y4, y5, y6, y7, y8, y9⟩ := HX.out.at_
    have yl : (w.heap.size + 1) < w11.heap.size := HX.out.lt
    obtain ⟨x0, x1, x2, x3, x4, x5, x6, x7, x8, x9⟩ := HK.out.at_
    have xl : q2 < w11.heap.size := HK.out.lt
    obtain ⟨v0, v1, v2, v3, v4, v5, v6, v7, v8, v9⟩ := HM.out.at_
    have vl : q3 < w11.heap.size := HM.out.lt
    go_wp2_with fail
    clear z0 z1 z2 z3 z4 z5 z6 z7 z8 z9 zl y0 y1 y2 y3 y4 y5 y6 y7 y8 y9 yl x0 x1 x2 x3 x4 x5 x6 x7 x8 x9 xl v0 v1 v2 v3 v4 v5 v6 v7 v8 v9 vl
    refine (rtotal_x H.out HW.out EV.out ET.out).mono ?_
    rintro e w12 ⟨rfl, hb⟩
    have HB12 : Hid (Below w.heap.size w w12) := HB11.out.trans (hb.mono HB11.out.size)
    replace H := hide (H.out.below hb)
    replace HO := hide (HO.out.below hb)
    replace HA := hide (HA.out.below hb)
    replace HX := hide (HX.out.below hb)
    replace HK := hide (HK.out.below hb)
    replace HM := hide (HM.out.below hb)
    replace HL := hide (Nat.lt_of_lt_of_le HL.out hb.size)
    clear hb HB11
    obtain ⟨z0, z1, z2, z3, z4, z5, z6, z7, z8, z9⟩ := HA.out.at_
    have zl : w.heap.size < w12.heap.size := HA.out.lt
    obtain ⟨y0, y1, y2, y3, y4, y5, y6, y7, y8, y9⟩ := HX.out.at_
    have yl : (w.heap.size + 1) < w12.heap.size := HX.out.lt
    obtain ⟨x0, x1, x2, x3, x4, x5, x6, x7, x8, x9⟩ := HK.out.at_
    have xl : q2 < w12.heap.size := HK.out.lt
    obtain ⟨v0, v1, v2, v3, v4, v5, v6, v7, v8, v9⟩ := HM.out.at_
    have vl : q3 < w12.heap.size := HM.out.lt
    go_wp2_with fail
    clear z0 z1 z2 z3 z4 z5 z6 z7 z8 z9 zl y0 y1 y2 y3 y4 y5 y6 y7 y8 y9 yl x0 x1 x2 x3 x4 x5 x6 x7 x8 x9 xl v0 v1 v2 v3 v4 v5 v6 v7 v8 v9 vl
    refine (find_x HO.out.ms HW.out EX.out EF.out).mono ?_
    rintro e w13 ⟨rfl, hb⟩
    have HB13 : Hid (Below w.heap.size w w13) := HB12.out.trans (hb.mono HB12.out.size)
    replace H := hide (H.out.below hb)
    replace HO := hide (HO.out.below hb)
    replace HA := hide (HA.out.below hb)
    replace HX := hide (HX.out.below hb)
    replace HK := hide (HK.out.below hb)
    replace HM := hide (HM.out.below hb)
    replace HL := hide (Nat.lt_of_lt_of_le HL.out hb.size)
    clear hb HB12
    obtain ⟨z0, z1, z2, z3, z4, z5, z6, z7, z8, z9⟩ := HA.out.at_
    have zl : w.heap.size < w13.heap.size := HA.out.lt
    obtain ⟨y0, y1, y2, y3, y4, y5, y6, y7, y8, y9⟩ := HX.out.at_
    have yl : (w.heap.size + 1) < w13.heap.size := HX.out.lt
    obtain ⟨x0, x1, x2, x3, x4, x5, x6, x7, x8, x9⟩ := HK.out.at_
    have xl : q2 < w13.heap.size := HK.out.lt
    obtain ⟨v0, v1, v2, v3, v4, v5, v6, v7, v8, v9⟩ := HM.out.at_
    have vl : q3 < w13.heap.size := HM.out.lt
    go_wp2_with fail
    clear z0 z1 z2 z3 z4 z5 z6 z7 z8 z9 zl y0 y1 y2 y3 y4 y5 y6 y7 y8 y9 yl x0 x1 x2 x3 x4 x5 x6 x7 x8 x9 xl v0 v1 v2 v3 v4 v5 v6 v7 v8 v9 vl
    obtain ⟨w14, ew, hbu, hau⟩ := hk_new w13 hx
    rw [← ew]
    have HB14 : Hid (Below w.heap.size w w14) := HB13.out.trans (hbu.mono HB13.out.size)
    replace H := hide (H.out.below hbu)
    replace HO := hide (HO.out.below hbu)
    replace HA := hide (HA.out.below hbu)
    replace HX := hide (HX.out.below hbu)
    replace HK := hide (HK.out.below hbu)
    replace HM := hide (HM.out.below hbu)
    obtain ⟨q4, eq⟩ : ∃ q4, q4 = w13.heap.size := ⟨_, rfl⟩
    replace HL := hide (Nat.lt_of_lt_of_le HL.out hbu.size)
    rw [← eq] at hau
    try rw [← eq]
    have H4 := hide hau
    clear ew hbu hau eq HB13
    refine (rfind_x H.out HW.out EX.out EF.out).mono ?_
    rintro e w15 ⟨rfl, hb⟩
    have HB15 : Hid (Below w.heap.size w w15) := HB14.out.trans (hb.mono HB14.out.size)
    replace H := hide (H.out.below hb)
    replace HO := hide (HO.out.below hb)
    replace H4 := hide (H4.out.below hb)
    replace HA := hide (HA.out.below hb)
    replace HX := hide (HX.out.below hb)
    replace HK := hide (HK.out.below hb)
    replace HM := hide (HM.out.below hb)
    replace HL := hide (Nat.lt_of_lt_of_le HL.out hb.size)
    clear hb HB14
    obtain ⟨z0, z1, z2, z3, z4, z5, z6, z7, z8, z9⟩ := HA.out.at_
    have zl : w.heap.size < w15.heap.size := HA.out.lt
    obtain ⟨y0, y1, y2, y3, y4, y5, y6, y7, y8, y9⟩ := HX.out.at_
    have yl : (w.heap.size + 1) < w15.heap.size := HX.out.lt
    obtain ⟨x0, x1, x2, x3, x4, x5, x6, x7, x8, x9⟩ := HK.out.at_
    have xl : q2 < w15.heap.size := HK.out.lt
    obtain ⟨v0, v1, v2, v3, v4, v5, v6, v7, v8, v9⟩ := HM.out.at_
    have vl : q3 < w15.heap.size := HM.out.lt
    go_upto_region 14 with fail
    clear z0 z1 z2 z3 z4 z5 z6 z7 z8 z9 zl y0 y1 y2 y3 y4 y5 y6 y7 y8 y9 yl x0 x1 x2 x3 x4 x5 x6 x7 x8 x9 xl v0 v1 v2 v3 v4 v5 v6 v7 v8 v9 vl
    obtain ⟨w16, ew, hbu, hau⟩ := hk_new w15 hx
    rw [← ew]
    have HB16 : Hid (Below w.heap.size w w16) := HB15.out.trans (hbu.mono HB15.out.size)
    replace H := hide (H.out.below hbu)
    replace HO := hide (HO.out.below hbu)
    replace H4 := hide (H4.out.below hbu)
    replace HA := hide (HA.out.below hbu)
    replace HX := hide (HX.out.below hbu)
    replace HK := hide (HK.out.below hbu)
    replace HM := hide (HM.out.below hbu)
    obtain ⟨q5, eq⟩ : ∃ q5, q5 = w15.heap.size := ⟨_, rfl⟩
    replace HL := hide (Nat.lt_of_lt_of_le HL.out hbu.size)
    rw [← eq] at hau
    try rw [← eq]
    have H5 := hide hau
    clear ew hbu hau eq HB15
    have HQ : Hid (Lq w w16 A K a n c B g q2 q3 q4 q5 hx) := ⟨HB16.out, H.out, HA.out, HX.out, HK.out, HM.out, H4.out, H5.out, HO.out⟩
    clear H HA HX HK HM H4 H5 HO HL HB16 HKN HMN
    refine region_tree (n := 63) (fun v => Lq w v A K a n c B g q2 q3 q4 q5 hx) (by kernel_rfl) (by kernel_rfl) ?_
    have HQ0 : Hid (Lq w w16.drew A K a n c B g q2 q3 q4 q5 hx) := HQ.out.below (below_drew1 _)
    generalize w16.drew = u0 at HQ0 ⊢
    clear HQ
    refine any_fork [0] (by kernel_rfl) (by simp) ?_
    refine fork_one ?_
    refine any_op rfl (fun K' hK => ?_)
    simp only [List.getElem_toArray, List.getElem_cons_zero]
    go_simp
    refine (awake_any _).mono ?_; rintro e u1 ⟨rfl, hb⟩; have HQ1 := hide (HQ0.out.below hb); clear hb HQ0
    refine hK _ _ ⟨HQ1.out, ?_⟩
    clear hK K'
    refine any_take 1 (v := ?_) (by kernel_rfl) (by kernel_rfl) (by kernel_rfl) rfl (fun _ _ _ h => h) (by rfl) HQ1.out ?_ ?_
    rotate_left
    · (intro y hy; simp only [List.getElem_toArray, List.getElem_cons_zero, List.getElem_cons_succ]; go_simp; try with_reducible rfl)
    simp only [List.getElem_toArray, List.getElem_cons_zero, List.getElem_cons_succ, Act.put, List.setIfInBounds_toArray, List.set_cons_zero, List.set_cons_succ]
    refine any_take 2 (v := ?_) (by kernel_rfl) (by kernel_rfl) (by kernel_rfl) rfl (fun _ _ _ h => h) (by rfl) HQ1.out ?_ ?_
    rotate_left
    · (intro y hy; obtain ⟨z0, z1, z2, z3, z4, z5, z6, z7, z8, z9⟩ := hy.a1.at_; simp only [List.getElem_toArray, List.getElem_cons_zero, List.getElem_cons_succ]; go_simp; try with_reducible rfl)
    simp only [List.getElem_toArray, List.getElem_cons_zero, List.getElem_cons_succ, Act.put, List.setIfInBounds_toArray, List.set_cons_zero, List.set_cons_succ]
    refine any_take 4 (v := ?_) (by kernel_rfl) (by kernel_rfl) (by kernel_rfl) rfl (fun _ _ _ h => h) (by rfl) HQ1.out ?_ ?_
    rotate_left
    · (intro y hy; simp only [List.getElem_toArray, List.getElem_cons_zero, List.getElem_cons_succ]; go_simp; try with_reducible rfl)
    simp only [List.getElem_toArray, List.getElem_cons_zero, List.getElem_cons_succ, Act.put, List.setIfInBounds_toArray, List.set_cons_zero, List.set_cons_succ]
    refine any_fork [3] (by kernel_rfl) (by simp) ?_
    refine fork_one ?_
    refine any_op rfl (fun K' hK => ?_)
    simp only [List.getElem_toArray, List.getElem_cons_zero, List.getElem_cons_succ]
    go_simp
    refine (check_x HQ1.out.o.ms HW.out CE.out).mono ?_; rintro e u2 ⟨rfl, hb⟩; have HQ2 := hide (HQ1.out.below hb); clear hb HQ1
    refine hK _ _ ⟨HQ2.out, ?_⟩
    clear hK K'
    refine any_take 5 (v := ?_) (by kernel_rfl) (by kernel_rfl) (by kernel_rfl) rfl (fun _ _ _ h => h) (by rfl) HQ2.out ?_ ?_
    rotate_left
    · (intro y hy; simp only [List.getElem_toArray, List.getElem_cons_zero, List.getElem_cons_succ]; go_simp; try with_reducible rfl)
    simp only [List.getElem_toArray, List.getElem_cons_zero, List.getElem_cons_succ, Act.put, List.setIfInBounds_toArray, List.set_cons_zero, List.set_cons_succ]
    refine any_take 6 (v := ?_) (by kernel_rfl) (by kernel_rfl) (by kernel_rfl) rfl (fun _ _ _ h => h) (by rfl) HQ2.out ?_ ?_
    rotate_left
    · (intro y hy; simp only [List.getElem_toArray, List.getElem_cons_zero, List.getElem_cons_succ]; go_simp; try with_reducible rfl)
    simp only [List.getElem_toArray, List.getElem_cons_zero, List.getElem_cons_succ, Act.put, List.setIfInBounds_toArray, List.set_cons_zero, List.set_cons_succ]
    refine any_take 7 (v := ?_) (by kernel_rfl) (by kernel_rfl) (by kernel_rfl) rfl (fun _ _ _ h => h) (by rfl) HQ2.out ?_ ?_
    rotate_left
    · (intro y hy; simp only [List.getElem_toArray, List.getElem_cons_zero, List.getElem_cons_succ]; go_simp; try with_reducible rfl)
    simp only [List.getElem_toArray, List.getElem_cons_zero, List.getElem_cons_succ, Act.put, List.setIfInBounds_toArray, List.set_cons_zero, List.set_cons_succ]
    refine any_take 8 (v := ?_) (by kernel_rfl) (by kernel_rfl) (by kernel_rfl) rfl (fun _ _ _ h => h) (by rfl) HQ2.out ?_ ?_
    rotate_left
    · (intro y hy; obtain ⟨z0, z1, z2, z3, z4, z5, z6, z7, z8, z9⟩ := hy.k2.at_; simp only [List.getElem_toArray, List.getElem_cons_zero, List.getElem_cons_succ]; go_simp; try with_reducible rfl)
    simp only [List.getElem_toArray, List.getElem_cons_zero, List.getElem_cons_succ, Act.put, List.setIfInBounds_toArray, List.set_cons_zero, List.set_cons_succ]
    refine any_take 9 (v := ?_) (by kernel_rfl) (by kernel_rfl) (by kernel_rfl) rfl (fun _ _ _ h => h) (by rfl) HQ2.out ?_ ?_
    rotate_left
    · (intro y hy; obtain ⟨z0, z1, z2, z3, z4, z5, z6, z7, z8, z9⟩ := hy.k3.at_; simp only [List.getElem_toArray, List.getElem_cons_zero, List.getElem_cons_succ]; go_simp; try with_reducible rfl)
    simp only [List.getElem_toArray, List.getElem_cons_zero, List.getElem_cons_succ, Act.put, List.setIfInBounds_toArray, List.set_cons_zero, List.set_cons_succ]
    refine any_fork [10] (by kernel_rfl) (by simp) ?_
    refine fork_one ?_
    refine any_op rfl (fun K' hK => ?_)
    simp only [List.getElem_toArray, List.getElem_cons_zero, List.getElem_cons_succ]
    go_simp
    refine (same_x (A := K) (B := K) (KN.out _) (KN.out _) rfl).mono ?_; rintro e u3 ⟨rfl, hb⟩; have HQ3 := hide (HQ2.out.below hb); clear hb HQ2
    refine hK _ _ ⟨HQ3.out, ?_⟩
    clear hK K'
    refine any_take 11 (v := ?_) (by kernel_rfl) (by kernel_rfl) (by kernel_rfl) rfl (fun _ _ _ h => h) (by rfl) HQ3.out ?_ ?_
    rotate_left
    · (intro y hy; simp only [List.getElem_toArray, List.getElem_cons_zero, List.getElem_cons_succ]; go_simp; try with_reducible rfl)
    simp only [List.getElem_toArray, List.getElem_cons_zero, List.getElem_cons_succ, Act.put, List.setIfInBounds_toArray, List.set_cons_zero, List.set_cons_succ]
    refine any_take 12 (v := ?_) (by kernel_rfl) (by kernel_rfl) (by kernel_rfl) rfl (fun _ _ _ h => h) (by rfl) HQ3.out ?_ ?_
    rotate_left
    · (intro y hy; simp only [List.getElem_toArray, List.getElem_cons_zero, List.getElem_cons_succ]; go_simp; try with_reducible rfl)
    simp only [List.getElem_toArray, List.getElem_cons_zero, List.getElem_cons_succ, Act.put, List.setIfInBounds_toArray, List.set_cons_zero, List.set_cons_succ]
    refine any_take 13 (v := ?_) (by kernel_rfl) (by kernel_rfl) (by kernel_rfl) rfl (fun _ _ _ h => h) (by rfl) HQ3.out ?_ ?_
    rotate_left
    · (intro y hy; simp only [List.getElem_toArray, List.getElem_cons_zero, List.getElem_cons_succ]; go_simp; try with_reducible rfl)
    simp only [List.getElem_toArray, List.getElem_cons_zero, List.getElem_cons_succ, Act.put, List.setIfInBounds_toArray, List.set_cons_zero, List.set_cons_succ]
    refine any_take 14 (v := ?_) (by kernel_rfl) (by kernel_rfl) (by kernel_rfl) rfl (fun _ _ _ h => h) (by rfl) HQ3.out ?_ ?_
    rotate_left
    · (intro y hy; simp only [List.getElem_toArray, List.getElem_cons_zero, List.getElem_cons_succ]; go_simp; try with_reducible rfl)
    simp only [List.getElem_toArray, List.getElem_cons_zero, List.getElem_cons_succ, Act.put, List.setIfInBounds_toArray, List.set_cons_zero, List.set_cons_succ]
    refine any_take 15 (v := ?_) (by kernel_rfl) (by kernel_rfl) (by kernel_rfl) rfl (fun _ _ _ h => h) (by rfl) HQ3.out ?_ ?_
    rotate_left
    · (intro y hy; simp only [List.getElem_toArray, List.getElem_cons_zero, List.getElem_cons_succ]; go_simp; try with_reducible rfl)
    simp only [List.getElem_toArray, List.getElem_cons_zero, List.getElem_cons_succ, Act.put, List.setIfInBounds_toArray, List.set_cons_zero, List.set_cons_succ]
    refine any_take 16 (v := ?_) (by kernel_rfl) (by kernel_rfl) (by kernel_rfl) rfl (fun _ _ _ h => h) (by rfl) HQ3.out ?_ ?_
    rotate_left
    · (intro y hy; simp only [List.getElem_toArray, List.getElem_cons_zero, List.getElem_cons_succ]; go_simp; try with_reducible rfl)
    simp only [List.getElem_toArray, List.getElem_cons_zero, List.getElem_cons_succ, Act.put, List.setIfInBounds_toArray, List.set_cons_zero, List.set_cons_succ]
    refine any_take 17 (v := ?_) (by kernel_rfl) (by kernel_rfl) (by kernel_rfl) rfl (fun _ _ _ h => h) (by rfl) HQ3.out ?_ ?_
    rotate_left
    · (intro y hy; simp only [List.getElem_toArray, List.getElem_cons_zero, List.getElem_cons_succ]; go_simp; try with_reducible rfl)
    simp only [List.getElem_toArray, List.getElem_cons_zero, List.getElem_cons_succ, Act.put, List.setIfInBounds_toArray, List.set_cons_zero, List.set_cons_succ]
    refine any_take 18 (v := ?_) (by kernel_rfl) (by kernel_rfl) (by kernel_rfl) rfl (fun _ _ _ h => h) (by rfl) HQ3.out ?_ ?_
    rotate_left
    · (intro y hy; simp only [List.getElem_toArray, List.getElem_cons_zero, List.getElem_cons_succ]; go_simp; try with_reducible rfl)
    simp only [List.getElem_toArray, List.getElem_cons_zero, List.getElem_cons_succ, Act.put, List.setIfInBounds_toArray, List.set_cons_zero, List.set_cons_succ]
    refine any_take 19 (v := ?_) (by kernel_rfl) (by kernel_rfl) (by kernel_rfl) rfl (fun _ _ _ h => h) (by rfl) HQ3.out ?_ ?_
    rotate_left
    · (intro y hy; simp only [List.getElem_toArray, List.getElem_cons_zero, List.getElem_cons_succ]; go_simp; try with_reducible rfl)
    simp only [List.getElem_toArray, List.getElem_cons_zero, List.getElem_cons_succ, Act.put, List.setIfInBounds_toArray, List.set_cons_zero, List.set_cons_succ]
    refine any_take 20 (v := ?_) (by kernel_rfl) (by kernel_rfl) (by kernel_rfl) rfl (fun _ _ _ h => h) (by rfl) HQ3.out ?_ ?_
    rotate_left
    · (intro y hy; simp only [List.getElem_toArray, List.getElem_cons_zero, List.getElem_cons_succ]; go_simp; try with_reducible rfl)
    simp only [List.getElem_toArray, List.getElem_cons_zero, List.getElem_cons_succ, Act.put, List.setIfInBounds_toArray, List.set_cons_zero, List.set_cons_succ]
    refine any_take 21 (v := ?_) (by kernel_rfl) (by kernel_rfl) (by kernel_rfl) rfl (fun _ _ _ h => h) (by rfl) HQ3.out ?_ ?_
    rotate_left
    · (intro y hy; simp only [List.getElem_toArray, List.getElem_cons_zero, List.getElem_cons_succ]; go_simp; try with_reducible rfl)
    simp only [List.getElem_toArray, List.getElem_cons_zero, List.getElem_cons_succ, Act.put, List.setIfInBounds_toArray, List.set_cons_zero, List.set_cons_succ]
    refine any_take 22 (v := ?_) (by kernel_rfl) (by kernel_rfl) (by kernel_rfl) rfl (fun _ _ _ h => h) (by rfl) HQ3.out ?_ ?_
    rotate_left
    · (intro y hy; simp only [List.getElem_toArray, List.getElem_cons_zero, List.getElem_cons_succ]; go_simp; try with_reducible rfl)
    simp only [List.getElem_toArray, List.getElem_cons_zero, List.getElem_cons_succ, Act.put, List.setIfInBounds_toArray, List.set_cons_zero, List.set_cons_succ]
    refine any_take 23 (v := ?_) (by kernel_rfl) (by kernel_rfl) (by kernel_rfl) rfl (fun _ _ _ h => h) (by rfl) HQ3.out ?_ ?_
    rotate_left
    · (intro y hy; simp only [List.getElem_toArray, List.getElem_cons_zero, List.getElem_cons_succ]; go_simp; try with_reducible rfl)
    simp only [List.getElem_toArray, List.getElem_cons_zero, List.getElem_cons_succ, Act.put, List.setIfInBounds_toArray, List.set_cons_zero, List.set_cons_succ]
    refine any_take 24 (v := ?_) (by kernel_rfl) (by kernel_rfl) (by kernel_rfl) rfl (fun _ _ _ h => h) (by rfl) HQ3.out ?_ ?_
    rotate_left
    · (intro y hy; simp only [List.getElem_toArray, List.getElem_cons_zero, List.getElem_cons_succ]; go_simp; try with_reducible rfl)
    simp only [List.getElem_toArray, List.getElem_cons_zero, List.getElem_cons_succ, Act.put, List.setIfInBounds_toArray, List.set_cons_zero, List.set_cons_succ]
    refine any_take 25 (v := ?_) (by kernel_rfl) (by kernel_rfl) (by kernel_rfl) rfl (fun _ _ _ h => h) (by rfl) HQ3.out ?_ ?_
    rotate_left
    · (intro y hy; simp only [List.getElem_toArray, List.getElem_cons_zero, List.getElem_cons_succ]; go_simp; try with_reducible rfl)
    simp only [List.getElem_toArray, List.getElem_cons_zero, List.getElem_cons_succ, Act.put, List.setIfInBounds_toArray, List.set_cons_zero, List.set_cons_succ]
    refine any_take 26 (v := ?_) (by kernel_rfl) (by kernel_rfl) (by kernel_rfl) rfl (fun _ _ _ h => h) (by rfl) HQ3.out ?_ ?_
    rotate_left
    · (intro y hy; simp only [List.getElem_toArray, List.getElem_cons_zero, List.getElem_cons_succ]; go_simp; try with_reducible rfl)
    simp only [List.getElem_toArray, List.getElem_cons_zero, List.getElem_cons_succ, Act.put, List.setIfInBounds_toArray, List.set_cons_zero, List.set_cons_succ]
    refine any_take 27 (v := ?_) (by kernel_rfl) (by kernel_rfl) (by kernel_rfl) rfl (fun _ _ _ h => h) (by rfl) HQ3.out ?_ ?_
    rotate_left
    · (intro y hy; simp only [List.getElem_toArray, List.getElem_cons_zero, List.getElem_cons_succ]; go_simp; try with_reducible rfl)
    simp only [List.getElem_toArray, List.getElem_cons_zero, List.getElem_cons_succ, Act.put, List.setIfInBounds_toArray, List.set_cons_zero, List.set_cons_succ]
    refine any_take 28 (v := ?_) (by kernel_rfl) (by kernel_rfl) (by kernel_rfl) rfl (fun _ _ _ h => h) (by rfl) HQ3.out ?_ ?_
    rotate_left
    · (intro y hy; simp only [List.getElem_toArray, List.getElem_cons_zero, List.getElem_cons_succ]; go_simp; try with_reducible rfl)
    simp only [List.getElem_toArray, List.getElem_cons_zero, List.getElem_cons_succ, Act.put, List.setIfInBounds_toArray, List.set_cons_zero, List.set_cons_succ]
    refine any_take 29 (v := ?_) (by kernel_rfl) (by kernel_rfl) (by kernel_rfl) rfl (fun _ _ _ h => h) (by rfl) HQ3.out ?_ ?_
    rotate_left
    · (intro y hy; simp only [List.getElem_toArray, List.getElem_cons_zero, List.getElem_cons_succ]; go_simp; try with_reducible rfl)
    simp only [List.getElem_toArray, List.getElem_cons_zero, List.getElem_cons_succ, Act.put, List.setIfInBounds_toArray, List.set_cons_zero, List.set_cons_succ]
    refine any_take 30 (v := ?_) (by kernel_rfl) (by kernel_rfl) (by kernel_rfl) rfl (fun _ _ _ h => h) (by rfl) HQ3.out ?_ ?_
    rotate_left
    · (intro y hy; simp only [List.getElem_toArray, List.getElem_cons_zero, List.getElem_cons_succ]; go_simp; try with_reducible rfl)
    simp only [List.getElem_toArray, List.getElem_cons_zero, List.getElem_cons_succ, Act.put, List.setIfInBounds_toArray, List.set_cons_zero, List.set_cons_succ]
    refine any_take 31 (v := ?_) (by kernel_rfl) (by kernel_rfl) (by kernel_rfl) rfl (fun _ _ _ h => h) (by rfl) HQ3.out ?_ ?_
    rotate_left
    · (intro y hy; simp only [List.getElem_toArray, List.getElem_cons_zero, List.getElem_cons_succ]; go_simp; try with_reducible rfl)
    simp only [List.getElem_toArray, List.getElem_cons_zero, List.getElem_cons_succ, Act.put, List.setIfInBounds_toArray, List.set_cons_zero, List.set_cons_succ]
    refine any_take 32 (v := ?_) (by kernel_rfl) (by kernel_rfl) (by kernel_rfl) rfl (fun _ _ _ h => h) (by rfl) HQ3.out ?_ ?_
    rotate_left
    · (intro y hy; simp only [List.getElem_toArray, List.getElem_cons_zero, List.getElem_cons_succ]; go_simp; try with_reducible rfl)
    simp only [List.getElem_toArray, List.getElem_cons_zero, List.getElem_cons_succ, Act.put, List.setIfInBounds_toArray, List.set_cons_zero, List.set_cons_succ]
    refine any_take 33 (v := ?_) (by kernel_rfl) (by kernel_rfl) (by kernel_rfl) rfl (fun _ _ _ h => h) (by rfl) HQ3.out ?_ ?_
    rotate_left
    · (intro y hy; simp only [List.getElem_toArray, List.getElem_cons_zero, List.getElem_cons_succ]; go_simp; try with_reducible rfl)
    simp only [List.getElem_toArray, List.getElem_cons_zero, List.getElem_cons_succ, Act.put, List.setIfInBounds_toArray, List.set_cons_zero, List.set_cons_succ]
    refine any_take 34 (v := ?_) (by kernel_rfl) (by kernel_rfl) (by kernel_rfl) rfl (fun _ _ _ h => h) (by rfl) HQ3.out ?_ ?_
    rotate_left
    · (intro y hy; simp only [List.getElem_toArray, List.getElem_cons_zero, List.getElem_cons_succ]; go_simp; try with_reducible rfl)
    simp only [List.getElem_toArray, List.getElem_cons_zero, List.getElem_cons_succ, Act.put, List.setIfInBounds_toArray, List.set_cons_zero, List.set_cons_succ]
    refine any_take 35 (v := ?_) (by kernel_rfl) (by kernel_rfl) (by kernel_rfl) rfl (fun _ _ _ h => h) (by rfl) HQ3.out ?_ ?_
    rotate_left
    · (intro y hy; simp only [List.getElem_toArray, List.getElem_cons_zero, List.getElem_cons_succ]; go_simp; try with_reducible rfl)
    simp only [List.getElem_toArray, List.getElem_cons_zero, List.getElem_cons_succ, Act.put, List.setIfInBounds_toArray, List.set_cons_zero, List.set_cons_succ]
    refine any_take 36 (v := ?_) (by kernel_rfl) (by kernel_rfl) (by kernel_rfl) rfl (fun _ _ _ h => h) (by rfl) HQ3.out ?_ ?_
    rotate_left
    · (intro y hy; simp only [List.getElem_toArray, List.getElem_cons_zero, List.getElem_cons_succ]; go_simp; try with_reducible rfl)
    simp only [List.getElem_toArray, List.getElem_cons_zero, List.getElem_cons_succ, Act.put, List.setIfInBounds_toArray, List.set_cons_zero, List.set_cons_succ]
    refine any_take 37 (v := ?_) (by kernel_rfl) (by kernel_rfl) (by kernel_rfl) rfl (fun _ _ _ h => h) (by rfl) HQ3.out ?_ ?_
    rotate_left
    · (intro y hy; simp only [List.getElem_toArray, List.getElem_cons_zero, List.getElem_cons_succ]; go_simp; try with_reducible rfl)
    simp only [List.getElem_toArray, List.getElem_cons_zero, List.getElem_cons_succ, Act.put, List.setIfInBounds_toArray, List.set_cons_zero, List.set_cons_succ]
    refine any_take 38 (v := ?_) (by kernel_rfl) (by kernel_rfl) (by kernel_rfl) rfl (fun _ _ _ h => h) (by rfl) HQ3.out ?_ ?_
    rotate_left
    · (intro y hy; obtain ⟨z0, z1, z2, z3⟩ := hy.h4.at_; simp only [List.getElem_toArray, List.getElem_cons_zero, List.getElem_cons_succ]; go_simp; try with_reducible rfl)
    simp only [List.getElem_toArray, List.getElem_cons_zero, List.getElem_cons_succ, Act.put, List.setIfInBounds_toArray, List.set_cons_zero, List.set_cons_succ]
    refine any_take 39 (v := ?_) (by kernel_rfl) (by kernel_rfl) (by kernel_rfl) rfl (fun _ _ _ h => h) (by rfl) HQ3.out ?_ ?_
    rotate_left
    · (intro y hy; obtain ⟨z0, z1, z2, z3⟩ := hy.h5.at_; simp only [List.getElem_toArray, List.getElem_cons_zero, List.getElem_cons_succ]; go_simp; try with_reducible rfl)
    simp only [List.getElem_toArray, List.getElem_cons_zero, List.getElem_cons_succ, Act.put, List.setIfInBounds_toArray, List.set_cons_zero, List.set_cons_succ]
    refine any_take 40 (v := ?_) (by kernel_rfl) (by kernel_rfl) (by kernel_rfl) rfl (fun _ _ _ h => h) (by rfl) HQ3.out ?_ ?_
    rotate_left
    · (intro y hy; simp only [List.getElem_toArray, List.getElem_cons_zero, List.getElem_cons_succ]; go_simp; try with_reducible rfl)
    simp only [List.getElem_toArray, List.getElem_cons_zero, List.getElem_cons_succ, Act.put, List.setIfInBounds_toArray, List.set_cons_zero, List.set_cons_succ]
    refine any_take 41 (v := ?_) (by kernel_rfl) (by kernel_rfl) (by kernel_rfl) rfl (fun _ _ _ h => h) (by rfl) HQ3.out ?_ ?_
    rotate_left
    · (intro y hy; simp only [List.getElem_toArray, List.getElem_cons_zero, List.getElem_cons_succ]; go_simp; try with_reducible rfl)
    simp only [List.getElem_toArray, List.getElem_cons_zero, List.getElem_cons_succ, Act.put, List.setIfInBounds_toArray, List.set_cons_zero, List.set_cons_succ]
    refine any_take 42 (v := ?_) (by kernel_rfl) (by kernel_rfl) (by kernel_rfl) rfl (fun _ _ _ h => h) (by rfl) HQ3.out ?_ ?_
    rotate_left
    · (intro y hy; simp only [List.getElem_toArray, List.getElem_cons_zero, List.getElem_cons_succ]; go_simp; try with_reducible rfl)
    simp only [List.getElem_toArray, List.getElem_cons_zero, List.getElem_cons_succ, Act.put, List.setIfInBounds_toArray, List.set_cons_zero, List.set_cons_succ]
    refine any_take 43 (v := ?_) (by kernel_rfl) (by kernel_rfl) (by kernel_rfl) rfl (fun _ _ _ h => h) (by rfl) HQ3.out ?_ ?_
    rotate_left
    · (intro y hy; simp only [List.getElem_toArray, List.getElem_cons_zero, List.getElem_cons_succ]; go_simp; try with_reducible rfl)
    simp only [List.getElem_toArray, List.getElem_cons_zero, List.getElem_cons_succ, Act.put, List.setIfInBounds_toArray, List.set_cons_zero, List.set_cons_succ]
    refine any_take 44 (v := ?_) (by kernel_rfl) (by kernel_rfl) (by kernel_rfl) rfl (fun _ _ _ h => h) (by rfl) HQ3.out ?_ ?_
    rotate_left
    · (intro y hy; simp only [List.getElem_toArray, List.getElem_cons_zero, List.getElem_cons_succ]; go_simp; try with_reducible rfl)
    simp only [List.getElem_toArray, List.getElem_cons_zero, List.getElem_cons_succ, Act.put, List.setIfInBounds_toArray, List.set_cons_zero, List.set_cons_succ]
    refine any_take 45 (v := ?_) (by kernel_rfl) (by kernel_rfl) (by kernel_rfl) rfl (fun _ _ _ h => h) (by rfl) HQ3.out ?_ ?_
    rotate_left
    · (intro y hy; simp only [List.getElem_toArray, List.getElem_cons_zero, List.getElem_cons_succ]; go_simp; try with_reducible rfl)
    simp only [List.getElem_toArray, List.getElem_cons_zero, List.getElem_cons_succ, Act.put, List.setIfInBounds_toArray, List.set_cons_zero, List.set_cons_succ]
    refine any_take 46 (v := ?_) (by kernel_rfl) (by kernel_rfl) (by kernel_rfl) rfl (fun _ _ _ h => h) (by rfl) HQ3.out ?_ ?_
    rotate_left
    · (intro y hy; simp only [List.getElem_toArray, List.getElem_cons_zero, List.getElem_cons_succ]; go_simp; try with_reducible rfl)
    simp only [List.getElem_toArray, List.getElem_cons_zero, List.getElem_cons_succ, Act.put, List.setIfInBounds_toArray, List.set_cons_zero, List.set_cons_succ]
    refine any_take 47 (v := ?_) (by kernel_rfl) (by kernel_rfl) (by kernel_rfl) rfl (fun _ _ _ h => h) (by rfl) HQ3.out ?_ ?_
    rotate_left
    · (intro y hy; simp only [List.getElem_toArray, List.getElem_cons_zero, List.getElem_cons_succ]; go_simp; try with_reducible rfl)
    simp only [List.getElem_toArray, List.getElem_cons_zero, List.getElem_cons_succ, Act.put, List.setIfInBounds_toArray, List.set_cons_zero, List.set_cons_succ]
    refine any_take 48 (v := ?_) (by kernel_rfl) (by kernel_rfl) (by kernel_rfl) rfl (fun _ _ _ h => h) (by rfl) HQ3.out ?_ ?_
    rotate_left
    · (intro y hy; obtain ⟨z0, z1, z2, z3, z4, z5, z6, z7, z8, z9⟩ := hy.a1.at_; simp only [List.getElem_toArray, List.getElem_cons_zero, List.getElem_cons_succ]; go_simp; try with_reducible rfl)
    simp only [List.getElem_toArray, List.getElem_cons_zero, List.getElem_cons_succ, Act.put, List.setIfInBounds_toArray, List.set_cons_zero, List.set_cons_succ]
    refine any_take 50 (v := ?_) (by kernel_rfl) (by kernel_rfl) (by kernel_rfl) rfl (fun _ _ _ h => h) (by rfl) HQ3.out ?_ ?_
    rotate_left
    · (intro y hy; obtain ⟨z0, z1, z2, z3, z4, z5, z6, z7, z8, z9⟩ := hy.a0.at_; simp only [List.getElem_toArray, List.getElem_cons_zero, List.getElem_cons_succ]; go_simp; try with_reducible rfl)
    simp only [List.getElem_toArray, List.getElem_cons_zero, List.getElem_cons_succ, Act.put, List.setIfInBounds_toArray, List.set_cons_zero, List.set_cons_succ]
    refine any_fork [49] (by kernel_rfl) (by simp) ?_
    refine fork_one ?_
    refine any_op rfl (fun K' hK => ?_)
    simp only [List.getElem_toArray, List.getElem_cons_zero, List.getElem_cons_succ]
    go_simp
    refine (plain_x HQ3.out.o.ms HW.out EP.out).mono ?_; rintro e u4 ⟨rfl, hb⟩; have HQ4 := hide (HQ3.out.below hb); clear hb HQ3
    refine hK _ _ ⟨HQ4.out, ?_⟩
    clear hK K'
    refine any_fork [51] (by kernel_rfl) (by simp) ?_
    refine fork_one ?_
    refine any_op rfl (fun K' hK => ?_)
    simp only [List.getElem_toArray, List.getElem_cons_zero, List.getElem_cons_succ]
    go_simp
    refine (rplain_x HQ4.out.h EP.out).mono ?_; rintro e u5 ⟨rfl, hb⟩; have HQ5 := hide (HQ4.out.below hb); clear hb HQ4
    refine hK _ _ ⟨HQ5.out, ?_⟩
    clear hK K'
    refine any_take 52 (v := ?_) (by kernel_rfl) (by kernel_rfl) (by kernel_rfl) rfl (fun _ _ _ h => h) (by rfl) HQ5.out ?_ ?_
    rotate_left
    · (intro y hy; simp only [List.getElem_toArray, List.getElem_cons_zero, List.getElem_cons_succ]; go_simp; try with_reducible rfl)
    simp only [List.getElem_toArray, List.getElem_cons_zero, List.getElem_cons_succ, Act.put, List.setIfInBounds_toArray, List.set_cons_zero, List.set_cons_succ]
    refine any_take 53 (v := ?_) (by kernel_rfl) (by kernel_rfl) (by kernel_rfl) rfl (fun _ _ _ h => h) (by rfl) HQ5.out ?_ ?_
    rotate_left
    · (intro y hy; simp only [List.getElem_toArray, List.getElem_cons_zero, List.getElem_cons_succ]; go_simp; try with_reducible rfl)
    simp only [List.getElem_toArray, List.getElem_cons_zero, List.getElem_cons_succ, Act.put, List.setIfInBounds_toArray, List.set_cons_zero, List.set_cons_succ]
    refine any_take 54 (v := ?_) (by kernel_rfl) (by kernel_rfl) (by kernel_rfl) rfl (fun _ _ _ h => h) (by rfl) HQ5.out ?_ ?_
    rotate_left
    · (intro y hy; simp only [List.getElem_toArray, List.getElem_cons_zero, List.getElem_cons_succ]; go_simp; try with_reducible rfl)
    simp only [List.getElem_toArray, List.getElem_cons_zero, List.getElem_cons_succ, Act.put, List.setIfInBounds_toArray, List.set_cons_zero, List.set_cons_succ]
    refine any_take 55 (v := ?_) (by kernel_rfl) (by kernel_rfl) (by kernel_rfl) rfl (fun _ _ _ h => h) (by rfl) HQ5.out ?_ ?_
    rotate_left
    · (intro y hy; simp only [List.getElem_toArray, List.getElem_cons_zero, List.getElem_cons_succ]; go_simp; try with_reducible rfl)
    simp only [List.getElem_toArray, List.getElem_cons_zero, List.getElem_cons_succ, Act.put, List.setIfInBounds_toArray, List.set_cons_zero, List.set_cons_succ]
    refine any_take 56 (v := ?_) (by kernel_rfl) (by kernel_rfl) (by kernel_rfl) rfl (fun _ _ _ h => h) (by rfl) HQ5.out ?_ ?_
    rotate_left
    · (intro y hy; obtain ⟨z0, z1, z2, z3, z4, z5, z6, z7, z8, z9⟩ := hy.a1.at_; simp only [List.getElem_toArray, List.getElem_cons_zero, List.getElem_cons_succ]; go_simp; try with_reducible rfl)
    simp only [List.getElem_toArray, List.getElem_cons_zero, List.getElem_cons_succ, Act.put, List.setIfInBounds_toArray, List.set_cons_zero, List.set_cons_succ]
    refine any_take 57 (v := ?_) (by kernel_rfl) (by kernel_rfl) (by kernel_rfl) rfl (fun _ _ _ h => h) (by rfl) HQ5.out ?_ ?_
    rotate_left
    · (intro y hy; simp only [List.getElem_toArray, List.getElem_cons_zero, List.getElem_cons_succ]; go_simp; try with_reducible rfl)
    simp only [List.getElem_toArray, List.getElem_cons_zero, List.getElem_cons_succ, Act.put, List.setIfInBounds_toArray, List.set_cons_zero, List.set_cons_succ]
    refine any_take 58 (v := ?_) (by kernel_rfl) (by kernel_rfl) (by kernel_rfl) rfl (fun _ _ _ h => h) (by rfl) HQ5.out ?_ ?_
    rotate_left
    · (intro y hy; obtain ⟨z0, z1, z2, z3, z4, z5, z6, z7, z8, z9⟩ := hy.a0.at_; simp only [List.getElem_toArray, List.getElem_cons_zero, List.getElem_cons_succ]; go_simp; try with_reducible rfl)
    simp only [List.getElem_toArray, List.getElem_cons_zero, List.getElem_cons_succ, Act.put, List.setIfInBounds_toArray, List.set_cons_zero, List.set_cons_succ]
    refine any_take 59 (v := ?_) (by kernel_rfl) (by kernel_rfl) (by kernel_rfl) rfl (fun _ _ _ h => h) (by rfl) HQ5.out ?_ ?_
    rotate_left
    · (intro y hy; simp only [List.getElem_toArray, List.getElem_cons_zero, List.getElem_cons_succ]; go_simp; try with_reducible rfl)
    simp only [List.getElem_toArray, List.getElem_cons_zero, List.getElem_cons_succ, Act.put, List.setIfInBounds_toArray, List.set_cons_zero, List.set_cons_succ]
    refine any_fork [60] (by kernel_rfl) (by simp) ?_
    refine fork_one ?_
    refine any_op rfl (fun K' hK => ?_)
    simp only [List.getElem_toArray, List.getElem_cons_zero, List.getElem_cons_succ]
    go_simp
    refine (kept_h HQ5.out.h HQ5.out.o).mono ?_; rintro e u6 ⟨rfl, hb⟩; have HQ6 := hide (HQ5.out.below hb); clear hb HQ5
    refine hK _ _ ⟨HQ6.out, ?_⟩
    clear hK K'
    refine any_take 61 (v := ?_) (by kernel_rfl) (by kernel_rfl) (by kernel_rfl) rfl (fun _ _ _ h => h) (by rfl) HQ6.out ?_ ?_
    rotate_left
    · (intro y hy; simp only [List.getElem_toArray, List.getElem_cons_zero, List.getElem_cons_succ]; go_simp; try with_reducible rfl)
    simp only [List.getElem_toArray, List.getElem_cons_zero, List.getElem_cons_succ, Act.put, List.setIfInBounds_toArray, List.set_cons_zero, List.set_cons_succ]
    refine any_take 62 (v := ?_) (by kernel_rfl) (by kernel_rfl) (by kernel_rfl) rfl (fun _ _ _ h => h) (by rfl) HQ6.out ?_ ?_
    rotate_left
    · (intro y hy; simp only [List.getElem_toArray, List.getElem_cons_zero, List.getElem_cons_succ]; go_simp; try with_reducible rfl)
    simp only [List.getElem_toArray, List.getElem_cons_zero, List.getElem_cons_succ, Act.put, List.setIfInBounds_toArray, List.set_cons_zero, List.set_cons_succ]
    refine any_done (by kernel_rfl) ?_
    go_wp2_with fail
    go_returns
    exact ⟨rfl, HQ6.out.b⟩


set_option maxRecDepth 100000 in
theorem lifted (os : Os) (started : os.Started) (H : Type) (enc : TypeId × Value → H) :
    ReturnsInHanded {} Try.checked os 3 .any (Rows.accountLooksSpec.pre6 enc Try.prog Try.f3 Rows.accountLooksRow.domain false) (Rows.accountLooksSpec.post enc Try.prog Try.f3 false true false false) := by
  refine returnsInHanded_of_change_sized (C := Try.checked) own started (by kernel_rfl) Try.func3
    (ChangeSpec.witness6 (enc := enc) (C := Try.checked) false ⟨#[], #[.agg #[.string ByteArray.empty, .int .i64 0, .int .i64 0, .int .i64 0, .int .i64 0, .slice none 0 0, .int .i64 0, .int .i64 0, .int .i64 0, .int .i64 0], .string ByteArray.empty, .int .i64 0], []⟩ 8 (by kernel_rfl) (by kernel_rfl) (by kernel_rfl) (by kernel_rfl)) ?_
  intro W base args ds gs before hval0 hW hcnd hsz0 _
  have hsz : (DataW.weightsEach Try.prog (Try.f3.params.toList ++ Rows.accountLooksSpec.plain.varTypes Try.prog) (ds ++ gs)).all (· ≤ reachBytes) = true := hsz0
  have hval : ∀ (j : Nat) t v, Try.f3.params[j]? = some t → args[j]? = some v → Value.okWide Try.prog W .any base t v := hval0
  have hW' := hW
  obtain ⟨p, q, hA0, hV, rfl, hfz, hnd⟩ := hW
  have hA : DataW.TrodAll enc Try.prog W 0 (fun _ => true) true Try.f3.params.toList args.toList ds p := hA0
  rw [Try.params3] at hA hval hsz
  obtain ⟨v0, vs0, d0, ds0, p0, q0, hargs, rfl, rfl, h0, r0⟩ := trodAll_cons hA
  obtain ⟨v1, vs1, d1, ds1, p1, q1, rfl, rfl, rfl, h1, r1⟩ := trodAll_cons r0
  obtain ⟨v2, vs2, d2, ds2, p2, q2, rfl, rfl, rfl, h2, r2⟩ := trodAll_cons r1
  obtain ⟨rfl, rfl, rfl⟩ := trodAll_nil r2
  obtain rfl : args = #[v0, v1, v2] := by cases args; simp_all
  obtain ⟨rfl, rfl⟩ := trodVars_none hV
  have lt0 : ∀ x ∈ p0, x.block < W.heap.size := by obtain ⟨m, hm⟩ := h0; exact DataW.trod_lt m _ _ _ hm
  obtain ⟨a, n, c, A, rfl, k0, kw0, kc0⟩ := open_account_held (hval 0 28 v0 rfl rfl) h0 (fun n hn => by have h := List.all_eq_true.1 hsz n (DataW.weights_mem_each (j := 0) rfl rfl n hn); simpa using h)
  have lt1 : ∀ x ∈ p1, x.block < W.heap.size := by obtain ⟨m, hm⟩ := h1; exact DataW.trod_lt m _ _ _ hm
  obtain ⟨key, rfl, kk⟩ := open_str (hval 1 9 v1 rfl rfl) h1
  have lt2 : ∀ x ∈ p2, x.block < W.heap.size := by obtain ⟨m, hm⟩ := h2; exact DataW.trod_lt m _ _ _ hm
  obtain ⟨v, rfl, kv⟩ := open_i64 (hval 2 3 v2 rfl rfl) h2
  clear hA0 hval0
  refine (walk k0 kw0 kc0).mono fun e W' ⟨he, bel⟩ => ?_
  subst he
  exact ⟨_, rfl, _, _, _, [], _, [], hW', trodAll_mk1 (shut_bool Try.underlying4 _), (trodAll_cons_mk (Below.trod laidOut (by kernel_rfl) (of_decide_eq_true (by kernel_rfl)) h0 bel lt0) (trodAll_cons_mk (Below.trod laidOut (by kernel_rfl) (of_decide_eq_true (by kernel_rfl)) h1 bel lt1) (trodAll_cons_mk (Below.trod laidOut (by kernel_rfl) (of_decide_eq_true (by kernel_rfl)) h2 bel lt2) trodAll_mk0))), rfl, bel.frame _, fun h => by cases h⟩

theorem over : Rows.accountLooksRow.holds Try.pinned (OpenSpec.ofChange Rows.accountLooksSpec) :=
  OpenClaim.holds_of_wide 3 Try.f3 rfl rfl rfl rfl rfl rfl rfl ⟨rfl, rfl, rfl, rfl, rfl⟩ rfl rfl rfl rfl rfl (by kernel_rfl) Try.func3 (by kernel_rfl)
    (of_decide_eq_true (by kernel_rfl)) (by unfold Func.isWrapper; first | (rw [if_pos (by decide +kernel)]; kernel_rfl) | (rw [if_neg (by decide +kernel)]; exact ⟨rfl, rfl⟩))
    (fun os started H enc _ => lifted os started H enc)

theorem proved : Rows.AccountLooksSaid := over
#print axioms proved
end AccountLooks
theorem accountLooks_holds : Rows.AccountLooksSaid := AccountLooks.proved
end Go.Proofs.Ytfolpnjndlklkaa
