/- SessionLattice: Join with itself changes nothing, is the same grouped otherwise, and turned round where no two marks of one client and Seq are both ended with unlike answers; no condition. -/
import Derived.Test.YtbeikdppcfpplaaSesHelp
import Derived.Test.YtbeikdppcfpplaaSesJoin
import Derived.Test.YtbeikdppcfpplaaSesRef
import Derived.Test.YtbeikdppcfpplaaSesLawMath
import Derived.Test.YtbeikdppcfpplaaHeld
import Derived.Deep.Cut
import Derived.Deep.CutRange
namespace Go.Proofs.Ytbeikdppcfpplaa
namespace SessionLattice
open Go.ChangeShapes Go.WideShapes Go.ChangeAt Go.RowKit Sn
set_option linter.unusedVariables false

theorem aneq_run (x y : An) (w : World) : (binOp .neq 25 (aval x) (aval y)).run Try.prog w = .ok (.bool (!decide (x = y))) w := by
  obtain ⟨xe, xv, xl, xh⟩ := x
  obtain ⟨ye, yv, yl, yh⟩ := y
  unfold aval
  go_simp
  (repeat' split) <;> simp_all
/-- a mark's block that was just made -/
structure Zb (w : World) (V : Nat) : Prop where
  row : w.heap[V]? = some (.cells #[.int .i64 0, .int .i64 0, .bool false, .int .i64 0, .int .i64 0, .int .i64 0, .int .i64 0] 29 (0, 0))
theorem zb_new (w : World) : Zb (w.alloc (.cells #[.int .i64 0, .int .i64 0, .bool false, .int .i64 0, .int .i64 0, .int .i64 0, .int .i64 0] 29)) w.heap.size := ⟨heap_alloc_new w _⟩
theorem Zb.below {w w' : World} {V : Nat} (h : Zb w V) (hb : Below w.heap.size w w') : Zb w' V := ⟨(hb.block _ (Array.getElem?_eq_some_iff.1 h.row).1).trans h.row⟩
theorem Zb.facts {w : World} {V : Nat} (h : Zb w V) : MkAt w V 0 mk0 ∧ ∀ o, w.frozen? ⟨V, o, none⟩ = false := ⟨mk_row mk0 h.row, fun o => frozen_of_row _ _ _ _ _ h.row⟩
theorem put_row' {w : World} {b o : Nat} {u : Value} {cs : Array Value} {t : TypeId} (h : w.heap[b]? = some (.cells cs t (0, 0))) : (w.setCell ⟨b, o, none⟩ u).heap[b]? = some (.cells (cs.setIfInBounds o u) t (0, 0)) := by
  simp [World.setCell, Array.getElem?_modify, h]
theorem st_row {w : World} {V : Nat} (y : Mk) (h : Zb w V) : (((((((w.setCell ⟨V, 0, none⟩ (.int .i64 y.c)).setCell ⟨V, 1, none⟩ (.int .i64 y.s)).setCell ⟨V, 2, none⟩ (.bool y.o)).setCell ⟨V, 3, none⟩ (.int .i64 y.a.e)).setCell ⟨V, 4, none⟩ (.int .i64 y.a.v)).setCell ⟨V, 5, none⟩ (.int .i64 y.a.lo)).setCell ⟨V, 6, none⟩ (.int .i64 y.a.hi)).heap[V]? = some (.cells #[.int .i64 y.c, .int .i64 y.s, .bool y.o, .int .i64 y.a.e, .int .i64 y.a.v, .int .i64 y.a.lo, .int .i64 y.a.hi] 29 (0, 0)) :=
  put_row' (put_row' (put_row' (put_row' (put_row' (put_row' (put_row' h.row))))))
theorem st_below {B : Nat} {w0 w : World} {V : Nat} (y : Mk) (h : Below B w0 w) (hV : B ≤ V) : Below B w0 (((((((w.setCell ⟨V, 0, none⟩ (.int .i64 y.c)).setCell ⟨V, 1, none⟩ (.int .i64 y.s)).setCell ⟨V, 2, none⟩ (.bool y.o)).setCell ⟨V, 3, none⟩ (.int .i64 y.a.e)).setCell ⟨V, 4, none⟩ (.int .i64 y.a.v)).setCell ⟨V, 5, none⟩ (.int .i64 y.a.lo)).setCell ⟨V, 6, none⟩ (.int .i64 y.a.hi)) :=
  ((((((h.setCell (p := ⟨V, 0, none⟩) hV _).setCell (p := ⟨V, 1, none⟩) hV _).setCell (p := ⟨V, 2, none⟩) hV _).setCell (p := ⟨V, 3, none⟩) hV _).setCell (p := ⟨V, 4, none⟩) hV _).setCell (p := ⟨V, 5, none⟩) hV _).setCell (p := ⟨V, 6, none⟩) hV _
theorem nxt {A B : List Mk} {k : Nat} {x : Mk} (h : ∀ (j : Nat) (x m : Mk), A[j]? = some x → lkM B x.c = some m → j < k → clashB x m = false) (hx : A[k]? = some x) (hc : ∀ m, lkM B x.c = some m → clashB x m = false) : ∀ (j : Nat) (x m : Mk), A[j]? = some x → lkM B x.c = some m → j < k + 1 → clashB x m = false := fun j z m h1 h2 h3 => by
  by_cases e : j = k
  · subst e
    rw [hx] at h1
    obtain rfl := Option.some.inj h1
    exact hc m h2
  · exact h j z m h1 h2 (by omega)
set_option maxRecDepth 100000 in
set_option maxHeartbeats 4000000 in
theorem not_all {w : World} {a a' a'' : Option Addr} {n cp n' cp' n'' cp'' : Nat} {A B C : List Mk} (h : Ms w a n A) (hno : a = none → cp = 0) (h' : Ms w a' n' B) (hno' : a' = none → cp' = 0) (h'' : Ms w a'' n'' C) (hno'' : a'' = none → cp'' = 0) (hx : (rightB 0 A && rightB 0 B && rightB 0 C) = false) :
    Calls Try.prog 7 #[.slice a n cp, .slice a' n' cp', .slice a'' n'' cp''] w fun e w' => e = .returned (.bool true) ∧ Below w.heap.size w w' := by
  have HA := hide h
  have HB' := hide h'
  have HC := hide h''
  have NA := hide hno
  have NB := hide hno'
  have NC := hide hno''
  clear h hno h' hno' h'' hno''
  cases q1 : rightB 0 A
  · clear hx
    go_enter Try.func7, Try.ntmps7
    go_wp2_with fail
    refine (awake_any _).mono ?_
    rintro e w1 ⟨rfl, hb1⟩
    have HB1 : Hid (Below w.heap.size w w1) := hb1
    clear hb1 
    go_wp2_with fail
    refine (rright_any (c := cp) (HA.out.below HB1.out)).mono ?_
    rintro e w2 ⟨rfl, hb2⟩
    rw [q1]
    have HB2 : Hid (Below w.heap.size w w2) := HB1.out.trans (hb2.mono HB1.out.size)
    clear hb2 HB1
    go_wp2_with fail
    go_returns
    exact ⟨rfl, HB2.out⟩
  · cases q2 : rightB 0 B
    · clear hx
      go_enter Try.func7, Try.ntmps7
      go_wp2_with fail
      refine (awake_any _).mono ?_
      rintro e w1 ⟨rfl, hb1⟩
      have HB1 : Hid (Below w.heap.size w w1) := hb1
      clear hb1 
      go_wp2_with fail
      refine (rright_any (c := cp) (HA.out.below HB1.out)).mono ?_
      rintro e w2 ⟨rfl, hb2⟩
      rw [q1]
      have HB2 : Hid (Below w.heap.size w w2) := HB1.out.trans (hb2.mono HB1.out.size)
      clear hb2 HB1
      go_wp2_with fail
      refine (rright_any (c := cp') (HB'.out.below HB2.out)).mono ?_
      rintro e w3 ⟨rfl, hb3⟩
      rw [q2]
      have HB3 : Hid (Below w.heap.size w w3) := HB2.out.trans (hb3.mono HB2.out.size)
      clear hb3 HB2
      go_wp2_with fail
      go_returns
      exact ⟨rfl, HB3.out⟩
    · have q3 : rightB 0 C = false := by rw [q1, q2] at hx; exact hx
      clear hx
      go_enter Try.func7, Try.ntmps7
      go_wp2_with fail
      refine (awake_any _).mono ?_
      rintro e w1 ⟨rfl, hb1⟩
      have HB1 : Hid (Below w.heap.size w w1) := hb1
      clear hb1 
      go_wp2_with fail
      refine (rright_any (c := cp) (HA.out.below HB1.out)).mono ?_
      rintro e w2 ⟨rfl, hb2⟩
      rw [q1]
      have HB2 : Hid (Below w.heap.size w w2) := HB1.out.trans (hb2.mono HB1.out.size)
      clear hb2 HB1
      go_wp2_with fail
      refine (rright_any (c := cp') (HB'.out.below HB2.out)).mono ?_
      rintro e w3 ⟨rfl, hb3⟩
      rw [q2]
      have HB3 : Hid (Below w.heap.size w w3) := HB2.out.trans (hb3.mono HB2.out.size)
      clear hb3 HB2
      go_wp2_with fail
      refine (rright_any (c := cp'') (HC.out.below HB3.out)).mono ?_
      rintro e w4 ⟨rfl, hb4⟩
      rw [q3]
      have HB4 : Hid (Below w.heap.size w w4) := HB3.out.trans (hb4.mono HB3.out.size)
      clear hb4 HB3
      go_wp2_with fail
      go_returns
      exact ⟨rfl, HB4.out⟩
set_option maxRecDepth 100000 in
set_option maxHeartbeats 4000000 in
theorem walk_all {w : World} {a a' a'' : Option Addr} {n cp n' cp' n'' cp'' : Nat} {A B C : List Mk} (h : Ms w a n A) (hno : a = none → cp = 0) (h' : Ms w a' n' B) (hno' : a' = none → cp' = 0) (h'' : Ms w a'' n'' C) (hno'' : a'' = none → cp'' = 0) (ra : Right A) (rb : Right B) (rc : Right C) :
    Calls Try.prog 7 #[.slice a n cp, .slice a' n' cp', .slice a'' n'' cp''] w fun e w' => e = .returned (.bool true) ∧ Below w.heap.size w w' := by
  have HA := hide h
  have HB' := hide h'
  have HC := hide h''
  have NA := hide hno
  have NB := hide hno'
  have NC := hide hno''
  clear h hno h' hno' h'' hno''
  have RA := hide ra
  have RB := hide rb
  have RC := hide rc
  clear ra rb rc
  go_enter Try.func7, Try.ntmps7
  go_wp2_with fail
  refine (awake_any _).mono ?_
  rintro e w1 ⟨rfl, hb1⟩
  have HB1 : Hid (Below w.heap.size w w1) := hb1
  clear hb1 
  go_wp2_with fail
  refine (rright_any (c := cp) (HA.out.below HB1.out)).mono ?_
  rintro e w2 ⟨rfl, hb2⟩
  rw [show rightB 0 A = true from RA.out]
  have HB2 : Hid (Below w.heap.size w w2) := HB1.out.trans (hb2.mono HB1.out.size)
  clear hb2 HB1
  go_wp2_with fail
  refine (rright_any (c := cp') (HB'.out.below HB2.out)).mono ?_
  rintro e w3 ⟨rfl, hb3⟩
  rw [show rightB 0 B = true from RB.out]
  have HB3 : Hid (Below w.heap.size w w3) := HB2.out.trans (hb3.mono HB2.out.size)
  clear hb3 HB2
  go_wp2_with fail
  refine (rright_any (c := cp'') (HC.out.below HB3.out)).mono ?_
  rintro e w4 ⟨rfl, hb4⟩
  rw [show rightB 0 C = true from RC.out]
  have HB4 : Hid (Below w.heap.size w w4) := HB3.out.trans (hb4.mono HB3.out.size)
  clear hb4 HB3
  go_wp2_with fail
  refine (own_l (HA.out.below HB4.out) NA.out).mono ?_
  rintro e w5 ⟨g5, rfl, hb5, ho5⟩
  have HB5 : Hid (Below w.heap.size w w5) := HB4.out.trans (hb5.mono HB4.out.size)
  have P5 := hide (ho5)
  clear hb5 HB4 ho5
  go_wp2_with fail
  refine (own_l (HA.out.below HB5.out) NA.out).mono ?_
  rintro e w6 ⟨g6, rfl, hb6, ho6⟩
  have HB6 : Hid (Below w.heap.size w w6) := HB5.out.trans (hb6.mono HB5.out.size)
  have P6 := hide (P5.out.below hb6)
  have Q6 := hide (ho6)
  clear hb6 P5 HB5 ho6
  go_wp2_with fail
  refine (join_any P6.out.ms Q6.out.ms).mono ?_
  rintro e w7 ⟨a7, n7, c7, rfl, hm7, hb7⟩
  rw [joinE_ok RA.out RA.out]
  have HB7 : Hid (Below w.heap.size w w7) := HB6.out.trans (hb7.mono HB6.out.size)
  have P7 := hide (P6.out.below hb7)
  have Q7 := hide (Q6.out.below hb7)
  have AA7 := hide (hm7)
  clear hb7 P6 Q6 HB6 hm7
  clear P7
  clear Q7
  go_wp2_with fail
  refine (own_l (HA.out.below HB7.out) NA.out).mono ?_
  rintro e w8 ⟨g8, rfl, hb8, ho8⟩
  have HB8 : Hid (Below w.heap.size w w8) := HB7.out.trans (hb8.mono HB7.out.size)
  have AA8 := hide (AA7.out.below hb8)
  have P8 := hide (ho8)
  clear hb8 AA7 HB7 ho8
  go_wp2_with fail
  refine (own_l (HB'.out.below HB8.out) NB.out).mono ?_
  rintro e w9 ⟨g9, rfl, hb9, ho9⟩
  have HB9 : Hid (Below w.heap.size w w9) := HB8.out.trans (hb9.mono HB8.out.size)
  have AA9 := hide (AA8.out.below hb9)
  have P9 := hide (P8.out.below hb9)
  have Q9 := hide (ho9)
  clear hb9 AA8 P8 HB8 ho9
  go_wp2_with fail
  refine (join_any P9.out.ms Q9.out.ms).mono ?_
  rintro e w10 ⟨a10, n10, c10, rfl, hm10, hb10⟩
  rw [joinE_ok RA.out RB.out]
  have HB10 : Hid (Below w.heap.size w w10) := HB9.out.trans (hb10.mono HB9.out.size)
  have AA10 := hide (AA9.out.below hb10)
  have P10 := hide (P9.out.below hb10)
  have Q10 := hide (Q9.out.below hb10)
  have AB10 := hide (hm10)
  clear hb10 AA9 P9 Q9 HB9 hm10
  clear P10
  clear Q10
  go_wp2_with fail
  refine (own_l (HB'.out.below HB10.out) NB.out).mono ?_
  rintro e w11 ⟨g11, rfl, hb11, ho11⟩
  have HB11 : Hid (Below w.heap.size w w11) := HB10.out.trans (hb11.mono HB10.out.size)
  have AA11 := hide (AA10.out.below hb11)
  have AB11 := hide (AB10.out.below hb11)
  have P11 := hide (ho11)
  clear hb11 AA10 AB10 HB10 ho11
  go_wp2_with fail
  refine (own_l (HA.out.below HB11.out) NA.out).mono ?_
  rintro e w12 ⟨g12, rfl, hb12, ho12⟩
  have HB12 : Hid (Below w.heap.size w w12) := HB11.out.trans (hb12.mono HB11.out.size)
  have AA12 := hide (AA11.out.below hb12)
  have AB12 := hide (AB11.out.below hb12)
  have P12 := hide (P11.out.below hb12)
  have Q12 := hide (ho12)
  clear hb12 AA11 AB11 P11 HB11 ho12
  go_wp2_with fail
  refine (join_any P12.out.ms Q12.out.ms).mono ?_
  rintro e w13 ⟨a13, n13, c13, rfl, hm13, hb13⟩
  rw [joinE_ok RB.out RA.out]
  have HB13 : Hid (Below w.heap.size w w13) := HB12.out.trans (hb13.mono HB12.out.size)
  have AA13 := hide (AA12.out.below hb13)
  have AB13 := hide (AB12.out.below hb13)
  have P13 := hide (P12.out.below hb13)
  have Q13 := hide (Q12.out.below hb13)
  have BA13 := hide (hm13)
  clear hb13 AA12 AB12 P12 Q12 HB12 hm13
  clear P13
  clear Q13
  go_wp2_with fail
  refine (own_l (HB'.out.below HB13.out) NB.out).mono ?_
  rintro e w14 ⟨g14, rfl, hb14, ho14⟩
  have HB14 : Hid (Below w.heap.size w w14) := HB13.out.trans (hb14.mono HB13.out.size)
  have AA14 := hide (AA13.out.below hb14)
  have AB14 := hide (AB13.out.below hb14)
  have BA14 := hide (BA13.out.below hb14)
  have P14 := hide (ho14)
  clear hb14 AA13 AB13 BA13 HB13 ho14
  go_wp2_with fail
  refine (own_l (HC.out.below HB14.out) NC.out).mono ?_
  rintro e w15 ⟨g15, rfl, hb15, ho15⟩
  have HB15 : Hid (Below w.heap.size w w15) := HB14.out.trans (hb15.mono HB14.out.size)
  have AA15 := hide (AA14.out.below hb15)
  have AB15 := hide (AB14.out.below hb15)
  have BA15 := hide (BA14.out.below hb15)
  have P15 := hide (P14.out.below hb15)
  have Q15 := hide (ho15)
  clear hb15 AA14 AB14 BA14 P14 HB14 ho15
  go_wp2_with fail
  refine (join_any P15.out.ms Q15.out.ms).mono ?_
  rintro e w16 ⟨a16, n16, c16, rfl, hm16, hb16⟩
  rw [joinE_ok RB.out RC.out]
  have HB16 : Hid (Below w.heap.size w w16) := HB15.out.trans (hb16.mono HB15.out.size)
  have AA16 := hide (AA15.out.below hb16)
  have AB16 := hide (AB15.out.below hb16)
  have BA16 := hide (BA15.out.below hb16)
  have P16 := hide (P15.out.below hb16)
  have Q16 := hide (Q15.out.below hb16)
  have BC16 := hide (hm16)
  clear hb16 AA15 AB15 BA15 P15 Q15 HB15 hm16
  clear P16
  clear Q16
  go_wp2_with fail
  refine (own_l (HC.out.below HB16.out) NC.out).mono ?_
  rintro e w17 ⟨g17, rfl, hb17, ho17⟩
  have HB17 : Hid (Below w.heap.size w w17) := HB16.out.trans (hb17.mono HB16.out.size)
  have AA17 := hide (AA16.out.below hb17)
  have AB17 := hide (AB16.out.below hb17)
  have BA17 := hide (BA16.out.below hb17)
  have BC17 := hide (BC16.out.below hb17)
  have P17 := hide (ho17)
  clear hb17 AA16 AB16 BA16 BC16 HB16 ho17
  go_wp2_with fail
  refine (join_any AB17.out P17.out.ms).mono ?_
  rintro e w18 ⟨a18, n18, c18, rfl, hm18, hb18⟩
  rw [joinE_ok (right_join RA.out RB.out) RC.out]
  have HB18 : Hid (Below w.heap.size w w18) := HB17.out.trans (hb18.mono HB17.out.size)
  have AA18 := hide (AA17.out.below hb18)
  have AB18 := hide (AB17.out.below hb18)
  have BA18 := hide (BA17.out.below hb18)
  have BC18 := hide (BC17.out.below hb18)
  have P18 := hide (P17.out.below hb18)
  have XX18 := hide (hm18)
  clear hb18 AA17 AB17 BA17 BC17 P17 HB17 hm18
  clear P18
  go_wp2_with fail
  refine (own_l (HA.out.below HB18.out) NA.out).mono ?_
  rintro e w19 ⟨g19, rfl, hb19, ho19⟩
  have HB19 : Hid (Below w.heap.size w w19) := HB18.out.trans (hb19.mono HB18.out.size)
  have AA19 := hide (AA18.out.below hb19)
  have AB19 := hide (AB18.out.below hb19)
  have BA19 := hide (BA18.out.below hb19)
  have BC19 := hide (BC18.out.below hb19)
  have XX19 := hide (XX18.out.below hb19)
  have P19 := hide (ho19)
  clear hb19 AA18 AB18 BA18 BC18 XX18 HB18 ho19
  go_wp2_with fail
  refine (join_any P19.out.ms BC19.out).mono ?_
  rintro e w20 ⟨a20, n20, c20, rfl, hm20, hb20⟩
  rw [joinE_ok RA.out (right_join RB.out RC.out)]
  have HB20 : Hid (Below w.heap.size w w20) := HB19.out.trans (hb20.mono HB19.out.size)
  have AA20 := hide (AA19.out.below hb20)
  have AB20 := hide (AB19.out.below hb20)
  have BA20 := hide (BA19.out.below hb20)
  have BC20 := hide (BC19.out.below hb20)
  have XX20 := hide (XX19.out.below hb20)
  have P20 := hide (P19.out.below hb20)
  have YY20 := hide (hm20)
  clear hb20 AA19 AB19 BA19 BC19 XX19 P19 HB19 hm20
  clear P20
  clear BC20
  go_wp2_with fail
  refine (FnM.plain_any AA20.out (HA.out.below HB20.out)).mono ?_
  rintro e u1 ⟨rfl, nd1, rfl⟩
  rw [decide_eq_true (join_self RA.out)]
  have hd1 : Below w20.heap.size w20 (w20.drewN nd1) := ⟨rfl, rfl, rfl, Nat.le_refl _, fun _ _ => rfl⟩
  have HD1 : Hid (Below w.heap.size w (w20.drewN nd1)) := HB20.out.trans (hd1.mono HB20.out.size)
  have XD1 := hide (XX20.out.below hd1)
  have YD1 := hide (YY20.out.below hd1)
  have AD1 := hide (AB20.out.below hd1)
  have BD1 := hide (BA20.out.below hd1)
  clear hd1
  obtain ⟨u1, eu1⟩ : ∃ u1, u1 = w20.drewN nd1 := ⟨_, rfl⟩
  rw [← eu1] at HD1 XD1 YD1 AD1 BD1 ⊢
  clear eu1 AA20 AB20 BA20 XX20 YY20 HB20
  go_wp2_with fail
  refine (FnM.plain_any XD1.out YD1.out).mono ?_
  rintro e u2 ⟨rfl, nd2, rfl⟩
  rw [decide_eq_true (join_assoc RA.out RB.out RC.out)]
  have hd2 : Below u1.heap.size u1 (u1.drewN nd2) := ⟨rfl, rfl, rfl, Nat.le_refl _, fun _ _ => rfl⟩
  have HD2 : Hid (Below w.heap.size w (u1.drewN nd2)) := HD1.out.trans (hd2.mono HD1.out.size)
  have AD2 := hide (AD1.out.below hd2)
  have BD2 := hide (BD1.out.below hd2)
  clear hd2
  obtain ⟨u2, eu2⟩ : ∃ u2, u2 = u1.drewN nd2 := ⟨_, rfl⟩
  rw [← eu2] at HD2 AD2 BD2 ⊢
  clear eu2 XD1 YD1 AD1 BD1 HD1
  have hln : A.length = n := HA.out.len
  have hroom := HA.out.room
  go_wp2_with fail
  go_loopw [19, 20, 21] (fun iv _ _ wr => ∃ (k : Nat), k ≤ n ∧ iv = .int .i64 k ∧ Hid (Below u2.heap.size u2 wr) ∧ Hid (∀ (j : Nat) (x m : Mk), A[j]? = some x → lkM B x.c = some m → j < k → clashB x m = false)) (fun iv _ _ _ => n - (intOf iv).toNat)
  case atStart => exact ⟨0, Nat.zero_le _, rfl, Below.refl _ _, fun j x m _ _ h => absurd h (by omega)⟩
  case round =>
    obtain ⟨k, hk, rfl, HU, HN⟩ := hrel
    have HW : Hid (Below w.heap.size w wr) := HD2.out.trans (HU.out.mono HD2.out.size)
    by_cases hlt : k < n
    · have HMA := hide (HA.out.below HW.out)
      obtain ⟨ab, off, x, rfl, hx, hbl, M⟩ := ms_at HMA.out hlt
      obtain ⟨c0, c1, c2, c3, c4, c5, c6⟩ := M
      have i1 : (k : Int) < (n : Int) := by omega
      have i2 : (0 : Int) ≤ (k : Int) := by omega
      have HX := hide hx
      have CN : Hid (∀ W, Below wr.heap.size wr W → MkAt W ab (off + k * 7) x) := fun W hW => by
        obtain ⟨ab2, off2, z, e2, hz, _, M2⟩ := ms_at (HMA.out.below hW) hlt
        obtain ⟨rfl, rfl⟩ : ab = ab2 ∧ off = off2 := by simpa using e2
        rw [HX.out] at hz
        exact Option.some.inj hz ▸ M2
      clear hx
      obtain ⟨f, ef⟩ : ∃ f, f = lkM B x.c := ⟨_, rfl⟩
      obtain ⟨y, ey⟩ : ∃ y, y = f.getD mk0 := ⟨_, rfl⟩
      obtain ⟨bf, ebf⟩ : ∃ b, b = f.isSome := ⟨_, rfl⟩
      have HF : Hid (bf = true → lkM B x.c = some y) := fun hb => by
        rw [ebf] at hb
        cases hf : f with
        | none => rw [hf] at hb; cases hb
        | some z => rw [← ef, hf, ey, hf]; rfl
      have HF0 : Hid (bf = false → lkM B x.c = none) := fun hb => by
        rw [ebf] at hb
        cases hf : f with
        | none => rw [← ef, hf]
        | some z => rw [hf] at hb; cases hb
      have FD : Hid (∀ (W : World) (D g : Nat), Owned W D g n' B → Calls Try.prog 11 #[.slice (some ⟨g, 0, none⟩) n' (n' + 2), .int .i64 x.c] W fun e w' => e = .returned (.tuple #[.agg #[.int .i64 y.c, .int .i64 y.s, .bool y.o, .int .i64 y.a.e, .int .i64 y.a.v, .int .i64 y.a.lo, .int .i64 y.a.hi], .bool bf]) ∧ Below W.heap.size W w') := fun W D g ho => by
        have := find_any (cp := n' + 2) (c := x.c) ho.ms
        rw [find_ok RB.out, ← ef, ← ey, ← ebf] at this
        exact this
      have OW : Hid (∀ W, Below wr.heap.size wr W → Calls Try.prog 9 #[.slice a' n' cp'] W fun e w' => ∃ g, e = .returned (.slice (some ⟨g, 0, none⟩) n' (n' + 2)) ∧ Below W.heap.size W w' ∧ Owned w' W.heap.size g n' B) := fun W hW => own_l ((HB'.out.below HW.out).below hW) NB.out
      clear ef ey ebf
      go_upto_region 16 with fail
      clear c1 c2 c3 c4 c5 c6
      go_cut [20, 21] from 128 to 138 (fun v20 v21 wc => ∃ V W, v20 = .pointer (some ⟨V, 0, none⟩) ∧ v21 = .bool bf ∧ Hid (W = wc) ∧ Hid (W.heap[V]? = some (.cells #[.int .i64 y.c, .int .i64 y.s, .bool y.o, .int .i64 y.a.e, .int .i64 y.a.v, .int .i64 y.a.lo, .int .i64 y.a.hi] 29 (0, 0))) ∧ Hid (Below wr.heap.size wr W))
      case first =>
        go_region_with (first | (go_at_call 9; refine (OW.out _ (by go_grown)).mono ?_; rintro e w7 ⟨g7, rfl, hb7, ho7⟩; have D7 : Hid (Below wr.heap.size wr w7) := (by first | exact (Below.refl _ _).drew.trans hb7 | exact below_step (below_alloc (Below.refl _ _) _).drew hb7 | exact below_step (below_alloc (Below.refl _ _).drew _) hb7); have k0 := ((CN.out w7) D7.out).c0; have l7 : ab < w7.heap.size := Nat.lt_of_lt_of_le hbl D7.out.size; have B7 := hide hb7; have O7 := hide ho7; (try (have Z7 : Hid (Zb w7 wr.heap.size) := Zb.below (by first | exact zb_new wr | exact zb_new wr.drew) hb7; obtain ⟨⟨z0, z1, z2, z3, z4, z5, z6⟩, zf⟩ := Z7.out.facts)); clear hb7 ho7) | (go_at_call 11; refine (FD.out _ _ _ (O7.out.below (by go_grown))).mono ?_; rintro e w8 ⟨rfl, hb8⟩; have B8 := hide hb8; (first | (have Z8 : Hid (Zb w8 wr.heap.size) := Zb.below Z7.out hb8; obtain ⟨⟨y0, y1, y2, y3, y4, y5, y6⟩, yf⟩ := Z8.out.facts) | (have Z8 : Hid (Zb w8 w7.heap.size) := Zb.below (by first | exact zb_new w7 | exact zb_new w7.drew) hb8; obtain ⟨⟨y0, y1, y2, y3, y4, y5, y6⟩, yf⟩ := Z8.out.facts) | skip); clear hb8))
        all_goals
          have D8 : Hid (Below wr.heap.size wr w8) := by first | exact below_step D7.out B8.out | exact below_step (below_alloc D7.out _) B8.out
          have S7 := hide D7.out.size
          have S8 := hide D8.out.size
          go_wp2_with fail
          go_meet
          case rel =>
            refine ⟨_, _, rfl, rfl, rfl, hide ?_, hide ?_⟩
            · first
                | (with_reducible exact st_row y Z8.out)
                | (with_reducible exact heap_alloc_new w8 _)
            · first
                | (with_reducible exact st_below y D8.out (Nat.le_refl _))
                | (with_reducible exact st_below y D8.out S7.out)
                | (with_reducible exact below_alloc D8.out _)
      case rest =>
        obtain ⟨V, W, rfl, rfl, HWc, RV, BF⟩ := hcut
        obtain rfl := HWc.out
        clear HWc
        obtain ⟨d0, d1, d2, d3, d4, d5, d6⟩ := mk_row y RV.out
        simp only [Nat.zero_add] at d0 d1 d2 d3 d4 d5 d6
        clear c0
        obtain ⟨c0, c1, c2, c3, c4, c5, c6⟩ := CN.out W BF.out
        cases bf with
        | false =>
          have HCL : Hid (∀ m, lkM B x.c = some m → clashB x m = false) := fun m hm => by
            rw [HF0.out rfl] at hm
            cases hm
          go_wp2_with fail
          refine wp_region_cells W [(⟨V, 0, none⟩, .int .i64 y.c), (⟨V, 1, none⟩, .int .i64 y.s), (⟨V, 2, none⟩, .bool y.o), (⟨V, 3, none⟩, .int .i64 y.a.e), (⟨V, 4, none⟩, .int .i64 y.a.v), (⟨V, 5, none⟩, .int .i64 y.a.lo), (⟨V, 6, none⟩, .int .i64 y.a.hi), (⟨ab, off + k * 7, none⟩, .int .i64 x.c), (⟨ab, off + k * 7 + 1, none⟩, .int .i64 x.s), (⟨ab, off + k * 7 + 2, none⟩, .bool x.o), (⟨ab, off + k * 7 + 3, none⟩, .int .i64 x.a.e), (⟨ab, off + k * 7 + 4, none⟩, .int .i64 x.a.v), (⟨ab, off + k * 7 + 5, none⟩, .int .i64 x.a.lo), (⟨ab, off + k * 7 + 6, none⟩, .int .i64 x.a.hi)] (by kernel_rfl) (by kernel_rfl) (Below.refl _ _) (by simp [AllCells, d0, d1, d2, d3, d4, d5, d6, c0, c1, c2, c3, c4, c5, c6]) ?_
          intro hne qq
          simp only [AllCells, and_true] at qq
          clear d0 d1 d2 d3 d4 d5 d6 c0 c1 c2 c3 c4 c5 c6
          repeat (go_big_quiet_step (fail))
          refine wpQuiet_nil ?_
          rintro _ ⟨y5, rfl⟩
          have HU5 : Hid (Below u2.heap.size u2 y5.x) := HU.out.trans ((BF.out.trans (y5.below.mono BF.out.size)).mono HU.out.size)
          clear qq hne
          go_wp2_with fail
          go_roundw
          case rel => exact ⟨k + 1, by omega, by go_num, HU5, nxt HN.out HX.out HCL.out⟩
          case measure => simp [intOf]; omega
        | true =>
          obtain ⟨yc, ys, yo, ⟨ye, yv, yl, yh⟩⟩ := y
          obtain ⟨xc, xs, xo, ⟨xe, xv, xl, xh⟩⟩ := x
          simp only at d0 d1 d2 d3 d4 d5 d6 c0 c1 c2 c3 c4 c5 c6
          by_cases hs : ys = xs
          · have hs2 : (ys == xs) = true := by simpa using hs
            clear hs
            cases yo with
            | true =>
              have HCL : Hid (∀ m, lkM B xc = some m → clashB ⟨xc, xs, xo, ⟨xe, xv, xl, xh⟩⟩ m = false) := fun m hm => by
                rw [HF.out rfl] at hm
                obtain rfl := Option.some.inj hm
                simp [clashB]
              go_wp2_with fail
              refine wp_region_cells W [(⟨V, 0, none⟩, .int .i64 yc), (⟨V, 1, none⟩, .int .i64 ys), (⟨V, 2, none⟩, .bool true), (⟨V, 3, none⟩, .int .i64 ye), (⟨V, 4, none⟩, .int .i64 yv), (⟨V, 5, none⟩, .int .i64 yl), (⟨V, 6, none⟩, .int .i64 yh), (⟨ab, off + k * 7, none⟩, .int .i64 xc), (⟨ab, off + k * 7 + 1, none⟩, .int .i64 xs), (⟨ab, off + k * 7 + 2, none⟩, .bool xo), (⟨ab, off + k * 7 + 3, none⟩, .int .i64 xe), (⟨ab, off + k * 7 + 4, none⟩, .int .i64 xv), (⟨ab, off + k * 7 + 5, none⟩, .int .i64 xl), (⟨ab, off + k * 7 + 6, none⟩, .int .i64 xh)] (by kernel_rfl) (by kernel_rfl) (Below.refl _ _) (by simp [AllCells, d0, d1, d2, d3, d4, d5, d6, c0, c1, c2, c3, c4, c5, c6]) ?_
              intro hne qq
              simp only [AllCells, and_true] at qq
              clear d0 d1 d2 d3 d4 d5 d6 c0 c1 c2 c3 c4 c5 c6
              repeat (go_big_quiet_step (fail))
              refine wpQuiet_nil ?_
              rintro _ ⟨y5, rfl⟩
              have HU5 : Hid (Below u2.heap.size u2 y5.x) := HU.out.trans ((BF.out.trans (y5.below.mono BF.out.size)).mono HU.out.size)
              clear qq hne
              go_wp2_with fail
              go_roundw
              case rel => exact ⟨k + 1, by omega, by go_num, HU5, nxt HN.out HX.out HCL.out⟩
              case measure => simp [intOf]; omega
            | false =>
              cases xo with
              | true =>
                have HCL : Hid (∀ m, lkM B xc = some m → clashB ⟨xc, xs, true, ⟨xe, xv, xl, xh⟩⟩ m = false) := fun m hm => by
                  rw [HF.out rfl] at hm
                  obtain rfl := Option.some.inj hm
                  simp [clashB]
                go_wp2_with fail
                refine wp_region_cells W [(⟨V, 0, none⟩, .int .i64 yc), (⟨V, 1, none⟩, .int .i64 ys), (⟨V, 2, none⟩, .bool false), (⟨V, 3, none⟩, .int .i64 ye), (⟨V, 4, none⟩, .int .i64 yv), (⟨V, 5, none⟩, .int .i64 yl), (⟨V, 6, none⟩, .int .i64 yh), (⟨ab, off + k * 7, none⟩, .int .i64 xc), (⟨ab, off + k * 7 + 1, none⟩, .int .i64 xs), (⟨ab, off + k * 7 + 2, none⟩, .bool true), (⟨ab, off + k * 7 + 3, none⟩, .int .i64 xe), (⟨ab, off + k * 7 + 4, none⟩, .int .i64 xv), (⟨ab, off + k * 7 + 5, none⟩, .int .i64 xl), (⟨ab, off + k * 7 + 6, none⟩, .int .i64 xh)] (by kernel_rfl) (by kernel_rfl) (Below.refl _ _) (by simp [AllCells, d0, d1, d2, d3, d4, d5, d6, c0, c1, c2, c3, c4, c5, c6]) ?_
                intro hne qq
                simp only [AllCells, and_true] at qq
                clear d0 d1 d2 d3 d4 d5 d6 c0 c1 c2 c3 c4 c5 c6
                repeat (go_big_quiet_step (fail))
                refine wpQuiet_nil ?_
                rintro _ ⟨y5, rfl⟩
                have HU5 : Hid (Below u2.heap.size u2 y5.x) := HU.out.trans ((BF.out.trans (y5.below.mono BF.out.size)).mono HU.out.size)
                clear qq hne
                go_wp2_with fail
                go_roundw
                case rel => exact ⟨k + 1, by omega, by go_num, HU5, nxt HN.out HX.out HCL.out⟩
                case measure => simp [intOf]; omega
              | false =>
                by_cases ha : (⟨ye, yv, yl, yh⟩ : An) = ⟨xe, xv, xl, xh⟩
                · have qN : ∀ w, (binOp .neq 25 (aval ⟨ye, yv, yl, yh⟩) (aval ⟨xe, xv, xl, xh⟩)).run Try.prog w = .ok (.bool false) w := fun w => by rw [aneq_run, decide_eq_true ha]; rfl
                  unfold aval at qN
                  simp only at qN
                  have HCL : Hid (∀ m, lkM B xc = some m → clashB ⟨xc, xs, false, ⟨xe, xv, xl, xh⟩⟩ m = false) := fun m hm => by
                    rw [HF.out rfl] at hm
                    obtain rfl := Option.some.inj hm
                    simp [clashB, ha]
                  clear ha
                  go_wp2_with fail
                  refine wp_region_cells W [(⟨V, 0, none⟩, .int .i64 yc), (⟨V, 1, none⟩, .int .i64 ys), (⟨V, 2, none⟩, .bool false), (⟨V, 3, none⟩, .int .i64 ye), (⟨V, 4, none⟩, .int .i64 yv), (⟨V, 5, none⟩, .int .i64 yl), (⟨V, 6, none⟩, .int .i64 yh), (⟨ab, off + k * 7, none⟩, .int .i64 xc), (⟨ab, off + k * 7 + 1, none⟩, .int .i64 xs), (⟨ab, off + k * 7 + 2, none⟩, .bool false), (⟨ab, off + k * 7 + 3, none⟩, .int .i64 xe), (⟨ab, off + k * 7 + 4, none⟩, .int .i64 xv), (⟨ab, off + k * 7 + 5, none⟩, .int .i64 xl), (⟨ab, off + k * 7 + 6, none⟩, .int .i64 xh)] (by kernel_rfl) (by kernel_rfl) (Below.refl _ _) (by simp [AllCells, d0, d1, d2, d3, d4, d5, d6, c0, c1, c2, c3, c4, c5, c6]) ?_
                  intro hne qq
                  simp only [AllCells, and_true] at qq
                  clear d0 d1 d2 d3 d4 d5 d6 c0 c1 c2 c3 c4 c5 c6
                  repeat (go_big_quiet_step (fail))
                  refine wpQuiet_nil ?_
                  rintro _ ⟨y5, rfl⟩
                  have HU5 : Hid (Below u2.heap.size u2 y5.x) := HU.out.trans ((BF.out.trans (y5.below.mono BF.out.size)).mono HU.out.size)
                  clear qq hne
                  go_wp2_with fail
                  go_roundw
                  case rel => exact ⟨k + 1, by omega, by go_num, HU5, nxt HN.out HX.out HCL.out⟩
                  case measure => simp [intOf]; omega
                · have qN : ∀ w, (binOp .neq 25 (aval ⟨ye, yv, yl, yh⟩) (aval ⟨xe, xv, xl, xh⟩)).run Try.prog w = .ok (.bool true) w := fun w => by rw [aneq_run, decide_eq_false ha]; rfl
                  unfold aval at qN
                  simp only at qN
                  clear ha
                  go_wp2_with fail
                  refine wp_region_cells W [(⟨V, 0, none⟩, .int .i64 yc), (⟨V, 1, none⟩, .int .i64 ys), (⟨V, 2, none⟩, .bool false), (⟨V, 3, none⟩, .int .i64 ye), (⟨V, 4, none⟩, .int .i64 yv), (⟨V, 5, none⟩, .int .i64 yl), (⟨V, 6, none⟩, .int .i64 yh), (⟨ab, off + k * 7, none⟩, .int .i64 xc), (⟨ab, off + k * 7 + 1, none⟩, .int .i64 xs), (⟨ab, off + k * 7 + 2, none⟩, .bool false), (⟨ab, off + k * 7 + 3, none⟩, .int .i64 xe), (⟨ab, off + k * 7 + 4, none⟩, .int .i64 xv), (⟨ab, off + k * 7 + 5, none⟩, .int .i64 xl), (⟨ab, off + k * 7 + 6, none⟩, .int .i64 xh)] (by kernel_rfl) (by kernel_rfl) (Below.refl _ _) (by simp [AllCells, d0, d1, d2, d3, d4, d5, d6, c0, c1, c2, c3, c4, c5, c6]) ?_
                  intro hne qq
                  simp only [AllCells, and_true] at qq
                  clear d0 d1 d2 d3 d4 d5 d6 c0 c1 c2 c3 c4 c5 c6
                  repeat (go_big_quiet_step (fail))
                  refine wpQuiet_nil ?_
                  rintro _ ⟨y5, rfl⟩
                  have HU5 : Hid (Below u2.heap.size u2 y5.x) := HU.out.trans ((BF.out.trans (y5.below.mono BF.out.size)).mono HU.out.size)
                  clear qq hne
                  go_wp2_with fail
                  go_returns
                  exact ⟨rfl, HD2.out.trans (HU5.out.mono HD2.out.size)⟩
          · have hs2 : (ys == xs) = false := by simpa using hs
            have HCL : Hid (∀ m, lkM B xc = some m → clashB ⟨xc, xs, xo, ⟨xe, xv, xl, xh⟩⟩ m = false) := fun m hm => by
              rw [HF.out rfl] at hm
              obtain rfl := Option.some.inj hm
              simp [clashB, hs]
            go_wp2_with fail
            refine wp_region_cells W [(⟨V, 0, none⟩, .int .i64 yc), (⟨V, 1, none⟩, .int .i64 ys), (⟨V, 2, none⟩, .bool yo), (⟨V, 3, none⟩, .int .i64 ye), (⟨V, 4, none⟩, .int .i64 yv), (⟨V, 5, none⟩, .int .i64 yl), (⟨V, 6, none⟩, .int .i64 yh), (⟨ab, off + k * 7, none⟩, .int .i64 xc), (⟨ab, off + k * 7 + 1, none⟩, .int .i64 xs), (⟨ab, off + k * 7 + 2, none⟩, .bool xo), (⟨ab, off + k * 7 + 3, none⟩, .int .i64 xe), (⟨ab, off + k * 7 + 4, none⟩, .int .i64 xv), (⟨ab, off + k * 7 + 5, none⟩, .int .i64 xl), (⟨ab, off + k * 7 + 6, none⟩, .int .i64 xh)] (by kernel_rfl) (by kernel_rfl) (Below.refl _ _) (by simp [AllCells, d0, d1, d2, d3, d4, d5, d6, c0, c1, c2, c3, c4, c5, c6]) ?_
            intro hne qq
            simp only [AllCells, and_true] at qq
            clear d0 d1 d2 d3 d4 d5 d6 c0 c1 c2 c3 c4 c5 c6
            repeat (go_big_quiet_step (fail))
            refine wpQuiet_nil ?_
            rintro _ ⟨y5, rfl⟩
            have HU5 : Hid (Below u2.heap.size u2 y5.x) := HU.out.trans ((BF.out.trans (y5.below.mono BF.out.size)).mono HU.out.size)
            clear qq hne
            go_wp2_with fail
            go_roundw
            case rel => exact ⟨k + 1, by omega, by go_num, HU5, nxt HN.out HX.out HCL.out⟩
            case measure => simp [intOf]; omega
    · obtain rfl : k = n := by omega
      have HB9 := hide (join_comm RA.out RB.out fun j x m h1 h2 => HN.out j x m h1 h2 (by have := (List.getElem?_eq_some_iff.1 h1).1; omega))
      have AB9 := hide (AD2.out.below HU.out)
      have BA9 := hide (BD2.out.below HU.out)
      go_wp2_with fail
      refine (FnM.plain_any AB9.out BA9.out).mono ?_
      rintro e u9 ⟨rfl, nd9, rfl⟩
      rw [decide_eq_true HB9.out]
      have HD9 : Hid (Below w.heap.size w (wr.drewN nd9)) := ⟨HW.out.os, HW.out.tape, HW.out.output, HW.out.size, HW.out.block⟩
      go_wp2_with fail
      go_returns
      exact ⟨rfl, HD9.out⟩

theorem walk {w : World} {a a' a'' : Option Addr} {n cp n' cp' n'' cp'' : Nat} {A B C : List Mk} (h : Ms w a n A) (hno : a = none → cp = 0) (h' : Ms w a' n' B) (hno' : a' = none → cp' = 0) (h'' : Ms w a'' n'' C) (hno'' : a'' = none → cp'' = 0) :
    Calls Try.prog 7 #[.slice a n cp, .slice a' n' cp', .slice a'' n'' cp''] w fun e w' => e = .returned (.bool true) ∧ Below w.heap.size w w' := by
  cases hx : (rightB 0 A && rightB 0 B && rightB 0 C) with
  | false => exact not_all h hno h' hno' h'' hno'' hx
  | true =>
    simp only [Bool.and_eq_true] at hx
    exact walk_all h hno h' hno' h'' hno'' hx.1.1 hx.1.2 hx.2

set_option maxRecDepth 100000 in
theorem lifted (os : Os) (started : os.Started) (H : Type) (enc : TypeId × Value → H) :
    ReturnsInHanded {} Try.checked os 7 .any (Rows.sessionLatticeSpec.pre6 enc Try.prog Try.f7 Rows.sessionLatticeRow.domain false) (Rows.sessionLatticeSpec.post enc Try.prog Try.f7 false true false false) := by
  refine returnsInHanded_of_change_sized (C := Try.checked) own started (by kernel_rfl) Try.func7
    (ChangeSpec.witness6 (enc := enc) (C := Try.checked) false ⟨#[], #[.slice none 0 0, .slice none 0 0, .slice none 0 0], []⟩ 8 (by kernel_rfl) (by kernel_rfl) (by kernel_rfl) (by kernel_rfl)) ?_
  intro W base args ds gs before hval0 hW hcnd hsz0 _
  have hsz : (DataW.weightsEach Try.prog (Try.f7.params.toList ++ Rows.sessionLatticeSpec.plain.varTypes Try.prog) (ds ++ gs)).all (· ≤ reachBytes) = true := hsz0
  have hval : ∀ (j : Nat) t v, Try.f7.params[j]? = some t → args[j]? = some v → Value.okWide Try.prog W .any base t v := hval0
  have hW' := hW
  obtain ⟨p, q, hA0, hV, rfl, hfz, hnd⟩ := hW
  have hA : DataW.TrodAll enc Try.prog W 0 (fun _ => true) true Try.f7.params.toList args.toList ds p := hA0
  rw [Try.params7] at hA hval hsz
  obtain ⟨v0, vs0, d0, ds0, p0, q0, hargs, rfl, rfl, h0, r0⟩ := trodAll_cons hA
  obtain ⟨v1, vs1, d1, ds1, p1, q1, rfl, rfl, rfl, h1, r1⟩ := trodAll_cons r0
  obtain ⟨v2, vs2, d2, ds2, p2, q2, rfl, rfl, rfl, h2, r2⟩ := trodAll_cons r1
  obtain ⟨rfl, rfl, rfl⟩ := trodAll_nil r2
  obtain rfl : args = #[v0, v1, v2] := by cases args; simp_all
  obtain ⟨rfl, rfl⟩ := trodVars_none hV
  have lt0 : ∀ x ∈ p0, x.block < W.heap.size := by obtain ⟨m, hm⟩ := h0; exact DataW.trod_lt m _ _ _ hm
  obtain ⟨a, n, cp, l, rfl, k0, o0⟩ := open_marks_held (hval 0 22 v0 rfl rfl) h0 (fun n hn => by have h := List.all_eq_true.1 hsz n (DataW.weights_mem_each (j := 0) rfl rfl n hn); simpa using h)
  have lt1 : ∀ x ∈ p1, x.block < W.heap.size := by obtain ⟨m, hm⟩ := h1; exact DataW.trod_lt m _ _ _ hm
  obtain ⟨a', n', cp', l', rfl, k1, o1⟩ := open_marks_held (hval 1 22 v1 rfl rfl) h1 (fun n hn => by have h := List.all_eq_true.1 hsz n (DataW.weights_mem_each (j := 1) rfl rfl n hn); simpa using h)
  have lt2 : ∀ x ∈ p2, x.block < W.heap.size := by obtain ⟨m, hm⟩ := h2; exact DataW.trod_lt m _ _ _ hm
  obtain ⟨a'', n'', cp'', l'', rfl, k2, o2⟩ := open_marks_held (hval 2 22 v2 rfl rfl) h2 (fun n hn => by have h := List.all_eq_true.1 hsz n (DataW.weights_mem_each (j := 2) rfl rfl n hn); simpa using h)
  clear hA0 hval0
  refine (walk k0 o0 k1 o1 k2 o2).mono fun e W' ⟨he, bel⟩ => ?_
  subst he
  exact ⟨_, rfl, _, _, _, [], _, [], hW', trodAll_mk1 (shut_bool Try.underlying4 _), (trodAll_cons_mk (Below.trod laidOut (by kernel_rfl) (of_decide_eq_true (by kernel_rfl)) h0 bel lt0) (trodAll_cons_mk (Below.trod laidOut (by kernel_rfl) (of_decide_eq_true (by kernel_rfl)) h1 bel lt1) (trodAll_cons_mk (Below.trod laidOut (by kernel_rfl) (of_decide_eq_true (by kernel_rfl)) h2 bel lt2) trodAll_mk0))), rfl, bel.frame _, fun h => by cases h⟩

theorem over : Rows.sessionLatticeRow.holds Try.pinned (OpenSpec.ofChange Rows.sessionLatticeSpec) :=
  OpenClaim.holds_of_wide 7 Try.f7 rfl rfl rfl rfl rfl rfl rfl ⟨rfl, rfl, rfl, rfl, rfl⟩ rfl rfl rfl rfl rfl (by kernel_rfl) Try.func7 (by kernel_rfl)
    (of_decide_eq_true (by kernel_rfl)) (by unfold Func.isWrapper; first | (rw [if_pos (by decide +kernel)]; kernel_rfl) | (rw [if_neg (by decide +kernel)]; exact ⟨rfl, rfl⟩))
    (fun os started H enc _ => lifted os started H enc)

theorem proved : Rows.SessionLatticeSaid := over
#print axioms proved
end SessionLattice
theorem sessionLattice_holds : Rows.SessionLatticeSaid := SessionLattice.proved
end Go.Proofs.Ytbeikdppcfpplaa
