/- SessionPlays: which lists are tables, and what each call makes of any list, is what the document says; what is handed in stays; no condition. -/
import Derived.Test.YtbeikdppcfpplaaSesHelp
import Derived.Test.YtbeikdppcfpplaaSesRefB
namespace Go.Proofs.Ytbeikdppcfpplaa
namespace SessionPlays
open Go.ChangeShapes Go.WideShapes Go.ChangeAt Go.RowKit Sn
set_option linter.unusedVariables false

set_option maxRecDepth 100000 in
set_option maxHeartbeats 4000000 in
theorem walk_no {w : World} {a : Option Addr} {n cp : Nat} {l : List Mk} {c q : Int} {x : An} (h : Ms w a n l) (hno : a = none → cp = 0) (hq : rightB 0 l = false) :
    Calls Try.prog 3 #[.slice a n cp, .int .i64 c, .int .i64 q, aval x] w fun e w' => e = .returned (.bool true) ∧ Below w.heap.size w w' := by
  have H := hide h
  have N := hide hno
  have Q := hide hq
  clear h hno hq
  have A0 : Hid (aval x = .agg #[.int .i64 x.e, .int .i64 x.v, .int .i64 x.lo, .int .i64 x.hi]) := rfl
  obtain ⟨y, ey⟩ : ∃ y, y = (findM l c).getD mk0 := ⟨_, rfl⟩
  obtain ⟨bf, ebf⟩ : ∃ b, b = (findM l c).isSome := ⟨_, rfl⟩
  obtain ⟨rb, erb⟩ : ∃ b, b = beginF l c q := ⟨_, rfl⟩
  obtain ⟨re, ere⟩ : ∃ b, b = beginE l c q := ⟨_, rfl⟩
  obtain ⟨ro, ero⟩ : ∃ b, b = openE l c q := ⟨_, rfl⟩
  have EY := hide ey
  have EBF := hide ebf
  have ERB := hide erb
  have ERE := hide ere
  have ERO := hide ero
  clear ey ebf erb ere ero
  unfold aval
  go_enter Try.func3, Try.ntmps3
  have HB0 : Hid (Below w.heap.size w (w.alloc (.cells #[.int .i64 x.e, .int .i64 x.v, .int .i64 x.lo, .int .i64 x.hi] 25))) := (Below.refl _ _).alloc (Nat.le_refl _) _
  go_wp2_with fail
  refine (own_l (H.out.below HB0.out) N.out).mono ?_
  rintro e w1 ⟨g1, rfl, hb1, ho1⟩
  have HX1 : Hid (w1.heap[w.heap.size]? = some (.cells #[.int .i64 x.e, .int .i64 x.v, .int .i64 x.lo, .int .i64 x.hi] 25 (0, 0))) := (hb1.block _ (by simp)).trans (heap_alloc_new w _)
  have HB1 : Hid (Below w.heap.size w w1) := HB0.out.trans (hb1.mono HB0.out.size)
  have I1 := hide (ho1)
  clear hb1 HB0 ho1
  go_wp2_with fail
  refine (rright_any (c := cp) (H.out.below HB1.out)).mono ?_
  rintro e w2 ⟨rfl, hb2⟩
  rw [Q.out]
  have HB2 : Hid (Below w.heap.size w w2) := HB1.out.trans (hb2.mono HB1.out.size)
  have HX_2 : Hid (w2.heap[w.heap.size]? = some (.cells #[.int .i64 x.e, .int .i64 x.v, .int .i64 x.lo, .int .i64 x.hi] 25 (0, 0))) := (hb2.block _ (Array.getElem?_eq_some_iff.1 HX1.out).1).trans HX1.out
  have I2 := hide (I1.out.below hb2)
  clear hb2 HB1 HX1 I1
  go_wp2_with fail
  refine (find_any (cp := n + 2) (c := c) I2.out.ms).mono ?_
  rintro e w3 ⟨rfl, hb3⟩
  rw [← EY.out, ← EBF.out]
  have HB3 : Hid (Below w.heap.size w w3) := HB2.out.trans (hb3.mono HB2.out.size)
  have HX_3 : Hid (w3.heap[w.heap.size]? = some (.cells #[.int .i64 x.e, .int .i64 x.v, .int .i64 x.lo, .int .i64 x.hi] 25 (0, 0))) := (hb3.block _ (Array.getElem?_eq_some_iff.1 HX_2.out).1).trans HX_2.out
  have I3 := hide (I2.out.below hb3)
  clear hb3 HB2 HX_2 I2
  unfold mval
  have F1b : Hid ((w3.alloc (.cells #[.int .i64 y.c, .int .i64 y.s, .bool y.o, .int .i64 y.a.e, .int .i64 y.a.v, .int .i64 y.a.lo, .int .i64 y.a.hi] 29)).heap[w3.heap.size]? = some (.cells #[.int .i64 y.c, .int .i64 y.s, .bool y.o, .int .i64 y.a.e, .int .i64 y.a.v, .int .i64 y.a.lo, .int .i64 y.a.hi] 29 (0, 0))) := heap_alloc_new w3 _
  have HBbF1 : Hid (Below w.heap.size w (w3.alloc (.cells #[.int .i64 y.c, .int .i64 y.s, .bool y.o, .int .i64 y.a.e, .int .i64 y.a.v, .int .i64 y.a.lo, .int .i64 y.a.hi] 29))) := HB3.out.alloc HB3.out.size _
  have HX_F1 : Hid ((w3.alloc (.cells #[.int .i64 y.c, .int .i64 y.s, .bool y.o, .int .i64 y.a.e, .int .i64 y.a.v, .int .i64 y.a.lo, .int .i64 y.a.hi] 29)).heap[w.heap.size]? = some (.cells #[.int .i64 x.e, .int .i64 x.v, .int .i64 x.lo, .int .i64 x.hi] 25 (0, 0))) := (Below.heap_alloc _ _ _ (Array.getElem?_eq_some_iff.1 HX_3.out).1).trans HX_3.out
  have IbF1 := hide (I3.out.below (Below.alloc (Below.refl _ _) (Nat.le_refl _) (.cells #[.int .i64 y.c, .int .i64 y.s, .bool y.o, .int .i64 y.a.e, .int .i64 y.a.v, .int .i64 y.a.lo, .int .i64 y.a.hi] 29)))
  clear HB3 HX_3 I3
  go_wp2_with fail
  refine (rfind_any (cp := cp) (c := c) (H.out.below HBbF1.out)).mono ?_
  rintro e w4 ⟨rfl, hb4⟩
  rw [← EY.out, ← EBF.out]
  have HB4 : Hid (Below w.heap.size w w4) := HBbF1.out.trans (hb4.mono HBbF1.out.size)
  have HX_4 : Hid (w4.heap[w.heap.size]? = some (.cells #[.int .i64 x.e, .int .i64 x.v, .int .i64 x.lo, .int .i64 x.hi] 25 (0, 0))) := (hb4.block _ (Array.getElem?_eq_some_iff.1 HX_F1.out).1).trans HX_F1.out
  have F1_4 : Hid (w4.heap[w3.heap.size]? = some (.cells #[.int .i64 y.c, .int .i64 y.s, .bool y.o, .int .i64 y.a.e, .int .i64 y.a.v, .int .i64 y.a.lo, .int .i64 y.a.hi] 29 (0, 0))) := (hb4.block _ (Array.getElem?_eq_some_iff.1 F1b.out).1).trans F1b.out
  have I4 := hide (IbF1.out.below hb4)
  clear hb4 HBbF1 HX_F1 F1b IbF1
  unfold mval
  have F2b : Hid ((w4.alloc (.cells #[.int .i64 y.c, .int .i64 y.s, .bool y.o, .int .i64 y.a.e, .int .i64 y.a.v, .int .i64 y.a.lo, .int .i64 y.a.hi] 29)).heap[w4.heap.size]? = some (.cells #[.int .i64 y.c, .int .i64 y.s, .bool y.o, .int .i64 y.a.e, .int .i64 y.a.v, .int .i64 y.a.lo, .int .i64 y.a.hi] 29 (0, 0))) := heap_alloc_new w4 _
  have HBbF2 : Hid (Below w.heap.size w (w4.alloc (.cells #[.int .i64 y.c, .int .i64 y.s, .bool y.o, .int .i64 y.a.e, .int .i64 y.a.v, .int .i64 y.a.lo, .int .i64 y.a.hi] 29))) := HB4.out.alloc HB4.out.size _
  have HX_F2 : Hid ((w4.alloc (.cells #[.int .i64 y.c, .int .i64 y.s, .bool y.o, .int .i64 y.a.e, .int .i64 y.a.v, .int .i64 y.a.lo, .int .i64 y.a.hi] 29)).heap[w.heap.size]? = some (.cells #[.int .i64 x.e, .int .i64 x.v, .int .i64 x.lo, .int .i64 x.hi] 25 (0, 0))) := (Below.heap_alloc _ _ _ (Array.getElem?_eq_some_iff.1 HX_4.out).1).trans HX_4.out
  have F1_F2 : Hid ((w4.alloc (.cells #[.int .i64 y.c, .int .i64 y.s, .bool y.o, .int .i64 y.a.e, .int .i64 y.a.v, .int .i64 y.a.lo, .int .i64 y.a.hi] 29)).heap[w3.heap.size]? = some (.cells #[.int .i64 y.c, .int .i64 y.s, .bool y.o, .int .i64 y.a.e, .int .i64 y.a.v, .int .i64 y.a.lo, .int .i64 y.a.hi] 29 (0, 0))) := (Below.heap_alloc _ _ _ (Array.getElem?_eq_some_iff.1 F1_4.out).1).trans F1_4.out
  have IbF2 := hide (I4.out.below (Below.alloc (Below.refl _ _) (Nat.le_refl _) (.cells #[.int .i64 y.c, .int .i64 y.s, .bool y.o, .int .i64 y.a.e, .int .i64 y.a.v, .int .i64 y.a.lo, .int .i64 y.a.hi] 29)))
  clear HB4 HX_4 F1_4 I4
  go_wp2_with fail
  refine (begin_any (cp := n + 2) (c := c) (q := q) IbF2.out.ms).mono ?_
  rintro e w5 ⟨a5, n5, c5, rfl, hm5, hb5⟩
  rw [← ERB.out, ← ERE.out]
  have HB5 : Hid (Below w.heap.size w w5) := HBbF2.out.trans (hb5.mono HBbF2.out.size)
  have HX_5 : Hid (w5.heap[w.heap.size]? = some (.cells #[.int .i64 x.e, .int .i64 x.v, .int .i64 x.lo, .int .i64 x.hi] 25 (0, 0))) := (hb5.block _ (Array.getElem?_eq_some_iff.1 HX_F2.out).1).trans HX_F2.out
  have F1_5 : Hid (w5.heap[w3.heap.size]? = some (.cells #[.int .i64 y.c, .int .i64 y.s, .bool y.o, .int .i64 y.a.e, .int .i64 y.a.v, .int .i64 y.a.lo, .int .i64 y.a.hi] 29 (0, 0))) := (hb5.block _ (Array.getElem?_eq_some_iff.1 F1_F2.out).1).trans F1_F2.out
  have F2_5 : Hid (w5.heap[w4.heap.size]? = some (.cells #[.int .i64 y.c, .int .i64 y.s, .bool y.o, .int .i64 y.a.e, .int .i64 y.a.v, .int .i64 y.a.lo, .int .i64 y.a.hi] 29 (0, 0))) := (hb5.block _ (Array.getElem?_eq_some_iff.1 F2b.out).1).trans F2b.out
  have I5 := hide (IbF2.out.below hb5)
  have B5 := hide (hm5)
  clear hb5 HBbF2 HX_F2 F1_F2 F2b IbF2 hm5
  go_wp2_with fail
  refine (rbegin_any (cp := cp) (c := c) (q := q) (H.out.below HB5.out)).mono ?_
  rintro e w6 ⟨a6, n6, c6, rfl, hm6, hb6⟩
  rw [← ERB.out, ← ERE.out]
  have HB6 : Hid (Below w.heap.size w w6) := HB5.out.trans (hb6.mono HB5.out.size)
  have HX_6 : Hid (w6.heap[w.heap.size]? = some (.cells #[.int .i64 x.e, .int .i64 x.v, .int .i64 x.lo, .int .i64 x.hi] 25 (0, 0))) := (hb6.block _ (Array.getElem?_eq_some_iff.1 HX_5.out).1).trans HX_5.out
  have F1_6 : Hid (w6.heap[w3.heap.size]? = some (.cells #[.int .i64 y.c, .int .i64 y.s, .bool y.o, .int .i64 y.a.e, .int .i64 y.a.v, .int .i64 y.a.lo, .int .i64 y.a.hi] 29 (0, 0))) := (hb6.block _ (Array.getElem?_eq_some_iff.1 F1_5.out).1).trans F1_5.out
  have F2_6 : Hid (w6.heap[w4.heap.size]? = some (.cells #[.int .i64 y.c, .int .i64 y.s, .bool y.o, .int .i64 y.a.e, .int .i64 y.a.v, .int .i64 y.a.lo, .int .i64 y.a.hi] 29 (0, 0))) := (hb6.block _ (Array.getElem?_eq_some_iff.1 F2_5.out).1).trans F2_5.out
  have I6 := hide (I5.out.below hb6)
  have B6 := hide (B5.out.below hb6)
  have RB6 := hide (hm6)
  clear hb6 HB5 HX_5 F1_5 F2_5 I5 B5 hm6
  have z0 : w6.cell? ⟨w.heap.size, 0, none⟩ = some (.int .i64 x.e) := by rw [cell_of_row _ _ _ _ _ _ HX_6.out]; rfl
  have z1 : w6.cell? ⟨w.heap.size, 1, none⟩ = some (.int .i64 x.v) := by rw [cell_of_row _ _ _ _ _ _ HX_6.out]; rfl
  have z2 : w6.cell? ⟨w.heap.size, 2, none⟩ = some (.int .i64 x.lo) := by rw [cell_of_row _ _ _ _ _ _ HX_6.out]; rfl
  have z3 : w6.cell? ⟨w.heap.size, 3, none⟩ = some (.int .i64 x.hi) := by rw [cell_of_row _ _ _ _ _ _ HX_6.out]; rfl
  have EN := hide (end_any (cp := n + 2) (c := c) (q := q) (x := x) I6.out.ms)
  rw [A0.out] at EN
  go_wp2_with fail
  refine (EN.out).mono ?_
  rintro e w7 ⟨a7, n7, c7, rfl, hm7, hb7⟩
  rw [← ERO.out]
  have HB7 : Hid (Below w.heap.size w w7) := HB6.out.trans (hb7.mono HB6.out.size)
  have HX_7 : Hid (w7.heap[w.heap.size]? = some (.cells #[.int .i64 x.e, .int .i64 x.v, .int .i64 x.lo, .int .i64 x.hi] 25 (0, 0))) := (hb7.block _ (Array.getElem?_eq_some_iff.1 HX_6.out).1).trans HX_6.out
  have F1_7 : Hid (w7.heap[w3.heap.size]? = some (.cells #[.int .i64 y.c, .int .i64 y.s, .bool y.o, .int .i64 y.a.e, .int .i64 y.a.v, .int .i64 y.a.lo, .int .i64 y.a.hi] 29 (0, 0))) := (hb7.block _ (Array.getElem?_eq_some_iff.1 F1_6.out).1).trans F1_6.out
  have F2_7 : Hid (w7.heap[w4.heap.size]? = some (.cells #[.int .i64 y.c, .int .i64 y.s, .bool y.o, .int .i64 y.a.e, .int .i64 y.a.v, .int .i64 y.a.lo, .int .i64 y.a.hi] 29 (0, 0))) := (hb7.block _ (Array.getElem?_eq_some_iff.1 F2_6.out).1).trans F2_6.out
  have I7 := hide (I6.out.below hb7)
  have B7 := hide (B6.out.below hb7)
  have RB7 := hide (RB6.out.below hb7)
  have D7 := hide (hm7)
  clear hb7 HB6 HX_6 F1_6 F2_6 I6 B6 RB6 hm7 z0 z1 z2 z3 EN
  have z0 : w7.cell? ⟨w.heap.size, 0, none⟩ = some (.int .i64 x.e) := by rw [cell_of_row _ _ _ _ _ _ HX_7.out]; rfl
  have z1 : w7.cell? ⟨w.heap.size, 1, none⟩ = some (.int .i64 x.v) := by rw [cell_of_row _ _ _ _ _ _ HX_7.out]; rfl
  have z2 : w7.cell? ⟨w.heap.size, 2, none⟩ = some (.int .i64 x.lo) := by rw [cell_of_row _ _ _ _ _ _ HX_7.out]; rfl
  have z3 : w7.cell? ⟨w.heap.size, 3, none⟩ = some (.int .i64 x.hi) := by rw [cell_of_row _ _ _ _ _ _ HX_7.out]; rfl
  have RN := hide (rend_any (cp := cp) (c := c) (q := q) (x := x) (H.out.below HB7.out))
  rw [A0.out] at RN
  go_wp2_with fail
  refine (RN.out).mono ?_
  rintro e w8 ⟨a8, n8, c8, rfl, hm8, hb8⟩
  rw [← ERO.out]
  have HB8 : Hid (Below w.heap.size w w8) := HB7.out.trans (hb8.mono HB7.out.size)
  have HX_8 : Hid (w8.heap[w.heap.size]? = some (.cells #[.int .i64 x.e, .int .i64 x.v, .int .i64 x.lo, .int .i64 x.hi] 25 (0, 0))) := (hb8.block _ (Array.getElem?_eq_some_iff.1 HX_7.out).1).trans HX_7.out
  have F1_8 : Hid (w8.heap[w3.heap.size]? = some (.cells #[.int .i64 y.c, .int .i64 y.s, .bool y.o, .int .i64 y.a.e, .int .i64 y.a.v, .int .i64 y.a.lo, .int .i64 y.a.hi] 29 (0, 0))) := (hb8.block _ (Array.getElem?_eq_some_iff.1 F1_7.out).1).trans F1_7.out
  have F2_8 : Hid (w8.heap[w4.heap.size]? = some (.cells #[.int .i64 y.c, .int .i64 y.s, .bool y.o, .int .i64 y.a.e, .int .i64 y.a.v, .int .i64 y.a.lo, .int .i64 y.a.hi] 29 (0, 0))) := (hb8.block _ (Array.getElem?_eq_some_iff.1 F2_7.out).1).trans F2_7.out
  have I8 := hide (I7.out.below hb8)
  have B8 := hide (B7.out.below hb8)
  have RB8 := hide (RB7.out.below hb8)
  have D8 := hide (D7.out.below hb8)
  have RD8 := hide (hm8)
  clear hb8 HB7 HX_7 F1_7 F2_7 I7 B7 RB7 D7 hm8 z0 z1 z2 z3 RN
  go_wp2_with fail
  refine (lose_any (cp := n + 2) (c := c) (q := q) I8.out.ms).mono ?_
  rintro e w9 ⟨a9, n9, c9, rfl, hm9, hb9⟩
  rw [← ERO.out]
  have HB9 : Hid (Below w.heap.size w w9) := HB8.out.trans (hb9.mono HB8.out.size)
  have HX_9 : Hid (w9.heap[w.heap.size]? = some (.cells #[.int .i64 x.e, .int .i64 x.v, .int .i64 x.lo, .int .i64 x.hi] 25 (0, 0))) := (hb9.block _ (Array.getElem?_eq_some_iff.1 HX_8.out).1).trans HX_8.out
  have F1_9 : Hid (w9.heap[w3.heap.size]? = some (.cells #[.int .i64 y.c, .int .i64 y.s, .bool y.o, .int .i64 y.a.e, .int .i64 y.a.v, .int .i64 y.a.lo, .int .i64 y.a.hi] 29 (0, 0))) := (hb9.block _ (Array.getElem?_eq_some_iff.1 F1_8.out).1).trans F1_8.out
  have F2_9 : Hid (w9.heap[w4.heap.size]? = some (.cells #[.int .i64 y.c, .int .i64 y.s, .bool y.o, .int .i64 y.a.e, .int .i64 y.a.v, .int .i64 y.a.lo, .int .i64 y.a.hi] 29 (0, 0))) := (hb9.block _ (Array.getElem?_eq_some_iff.1 F2_8.out).1).trans F2_8.out
  have I9 := hide (I8.out.below hb9)
  have B9 := hide (B8.out.below hb9)
  have RB9 := hide (RB8.out.below hb9)
  have D9 := hide (D8.out.below hb9)
  have RD9 := hide (RD8.out.below hb9)
  have M9 := hide (hm9)
  clear hb9 HB8 HX_8 F1_8 F2_8 I8 B8 RB8 D8 RD8 hm9
  go_wp2_with fail
  refine (rlose_any (cp := cp) (c := c) (q := q) (H.out.below HB9.out)).mono ?_
  rintro e w10 ⟨a10, n10, c10, rfl, hm10, hb10⟩
  rw [← ERO.out]
  have HB10 : Hid (Below w.heap.size w w10) := HB9.out.trans (hb10.mono HB9.out.size)
  have HX_10 : Hid (w10.heap[w.heap.size]? = some (.cells #[.int .i64 x.e, .int .i64 x.v, .int .i64 x.lo, .int .i64 x.hi] 25 (0, 0))) := (hb10.block _ (Array.getElem?_eq_some_iff.1 HX_9.out).1).trans HX_9.out
  have F1_10 : Hid (w10.heap[w3.heap.size]? = some (.cells #[.int .i64 y.c, .int .i64 y.s, .bool y.o, .int .i64 y.a.e, .int .i64 y.a.v, .int .i64 y.a.lo, .int .i64 y.a.hi] 29 (0, 0))) := (hb10.block _ (Array.getElem?_eq_some_iff.1 F1_9.out).1).trans F1_9.out
  have F2_10 : Hid (w10.heap[w4.heap.size]? = some (.cells #[.int .i64 y.c, .int .i64 y.s, .bool y.o, .int .i64 y.a.e, .int .i64 y.a.v, .int .i64 y.a.lo, .int .i64 y.a.hi] 29 (0, 0))) := (hb10.block _ (Array.getElem?_eq_some_iff.1 F2_9.out).1).trans F2_9.out
  have I10 := hide (I9.out.below hb10)
  have B10 := hide (B9.out.below hb10)
  have RB10 := hide (RB9.out.below hb10)
  have D10 := hide (D9.out.below hb10)
  have RD10 := hide (RD9.out.below hb10)
  have M10 := hide (M9.out.below hb10)
  have RM10 := hide (hm10)
  clear hb10 HB9 HX_9 F1_9 F2_9 I9 B9 RB9 D9 RD9 M9 hm10
  go_wp2_with fail
  refine (awake_any _).mono ?_
  rintro e w11 ⟨rfl, hb11⟩
  have HB11 : Hid (Below w.heap.size w w11) := HB10.out.trans (hb11.mono HB10.out.size)
  have HX_11 : Hid (w11.heap[w.heap.size]? = some (.cells #[.int .i64 x.e, .int .i64 x.v, .int .i64 x.lo, .int .i64 x.hi] 25 (0, 0))) := (hb11.block _ (Array.getElem?_eq_some_iff.1 HX_10.out).1).trans HX_10.out
  have F1_11 : Hid (w11.heap[w3.heap.size]? = some (.cells #[.int .i64 y.c, .int .i64 y.s, .bool y.o, .int .i64 y.a.e, .int .i64 y.a.v, .int .i64 y.a.lo, .int .i64 y.a.hi] 29 (0, 0))) := (hb11.block _ (Array.getElem?_eq_some_iff.1 F1_10.out).1).trans F1_10.out
  have F2_11 : Hid (w11.heap[w4.heap.size]? = some (.cells #[.int .i64 y.c, .int .i64 y.s, .bool y.o, .int .i64 y.a.e, .int .i64 y.a.v, .int .i64 y.a.lo, .int .i64 y.a.hi] 29 (0, 0))) := (hb11.block _ (Array.getElem?_eq_some_iff.1 F2_10.out).1).trans F2_10.out
  have I11 := hide (I10.out.below hb11)
  have B11 := hide (B10.out.below hb11)
  have RB11 := hide (RB10.out.below hb11)
  have D11 := hide (D10.out.below hb11)
  have RD11 := hide (RD10.out.below hb11)
  have M11 := hide (M10.out.below hb11)
  have RM11 := hide (RM10.out.below hb11)
  clear hb11 HB10 HX_10 F1_10 F2_10 I10 B10 RB10 D10 RD10 M10 RM10
  go_wp2_with fail
  refine (check_any (c := n + 2) I11.out.ms).mono ?_
  rintro e w12 ⟨rfl, hb12⟩
  rw [show checkE l = 21 from by unfold checkE; rw [Q.out]; rfl]
  have HB12 : Hid (Below w.heap.size w w12) := HB11.out.trans (hb12.mono HB11.out.size)
  have HX_12 : Hid (w12.heap[w.heap.size]? = some (.cells #[.int .i64 x.e, .int .i64 x.v, .int .i64 x.lo, .int .i64 x.hi] 25 (0, 0))) := (hb12.block _ (Array.getElem?_eq_some_iff.1 HX_11.out).1).trans HX_11.out
  have F1_12 : Hid (w12.heap[w3.heap.size]? = some (.cells #[.int .i64 y.c, .int .i64 y.s, .bool y.o, .int .i64 y.a.e, .int .i64 y.a.v, .int .i64 y.a.lo, .int .i64 y.a.hi] 29 (0, 0))) := (hb12.block _ (Array.getElem?_eq_some_iff.1 F1_11.out).1).trans F1_11.out
  have F2_12 : Hid (w12.heap[w4.heap.size]? = some (.cells #[.int .i64 y.c, .int .i64 y.s, .bool y.o, .int .i64 y.a.e, .int .i64 y.a.v, .int .i64 y.a.lo, .int .i64 y.a.hi] 29 (0, 0))) := (hb12.block _ (Array.getElem?_eq_some_iff.1 F2_11.out).1).trans F2_11.out
  have I12 := hide (I11.out.below hb12)
  have B12 := hide (B11.out.below hb12)
  have RB12 := hide (RB11.out.below hb12)
  have D12 := hide (D11.out.below hb12)
  have RD12 := hide (RD11.out.below hb12)
  have M12 := hide (M11.out.below hb12)
  have RM12 := hide (RM11.out.below hb12)
  clear hb12 HB11 HX_11 F1_11 F2_11 I11 B11 RB11 D11 RD11 M11 RM11
  have y0 : w12.cell? ⟨w3.heap.size, 0, none⟩ = some (.int .i64 y.c) := by rw [cell_of_row _ _ _ _ _ _ F1_12.out]; rfl
  have y1 : w12.cell? ⟨w3.heap.size, 1, none⟩ = some (.int .i64 y.s) := by rw [cell_of_row _ _ _ _ _ _ F1_12.out]; rfl
  have y2 : w12.cell? ⟨w3.heap.size, 2, none⟩ = some (.bool y.o) := by rw [cell_of_row _ _ _ _ _ _ F1_12.out]; rfl
  have y3 : w12.cell? ⟨w3.heap.size, 3, none⟩ = some (.int .i64 y.a.e) := by rw [cell_of_row _ _ _ _ _ _ F1_12.out]; rfl
  have y4 : w12.cell? ⟨w3.heap.size, 4, none⟩ = some (.int .i64 y.a.v) := by rw [cell_of_row _ _ _ _ _ _ F1_12.out]; rfl
  have y5 : w12.cell? ⟨w3.heap.size, 5, none⟩ = some (.int .i64 y.a.lo) := by rw [cell_of_row _ _ _ _ _ _ F1_12.out]; rfl
  have y6 : w12.cell? ⟨w3.heap.size, 6, none⟩ = some (.int .i64 y.a.hi) := by rw [cell_of_row _ _ _ _ _ _ F1_12.out]; rfl
  have v0 : w12.cell? ⟨w4.heap.size, 0, none⟩ = some (.int .i64 y.c) := by rw [cell_of_row _ _ _ _ _ _ F2_12.out]; rfl
  have v1 : w12.cell? ⟨w4.heap.size, 1, none⟩ = some (.int .i64 y.s) := by rw [cell_of_row _ _ _ _ _ _ F2_12.out]; rfl
  have v2 : w12.cell? ⟨w4.heap.size, 2, none⟩ = some (.bool y.o) := by rw [cell_of_row _ _ _ _ _ _ F2_12.out]; rfl
  have v3 : w12.cell? ⟨w4.heap.size, 3, none⟩ = some (.int .i64 y.a.e) := by rw [cell_of_row _ _ _ _ _ _ F2_12.out]; rfl
  have v4 : w12.cell? ⟨w4.heap.size, 4, none⟩ = some (.int .i64 y.a.v) := by rw [cell_of_row _ _ _ _ _ _ F2_12.out]; rfl
  have v5 : w12.cell? ⟨w4.heap.size, 5, none⟩ = some (.int .i64 y.a.lo) := by rw [cell_of_row _ _ _ _ _ _ F2_12.out]; rfl
  have v6 : w12.cell? ⟨w4.heap.size, 6, none⟩ = some (.int .i64 y.a.hi) := by rw [cell_of_row _ _ _ _ _ _ F2_12.out]; rfl
  go_wp2_with fail
  refine (FnM.plain_any B12.out RB12.out).mono ?_
  rintro e u13 ⟨rfl, nd13, rfl⟩
  rw [decide_eq_true rfl]
  have hb13 : Below w12.heap.size w12 (w12.drewN nd13) := ⟨rfl, rfl, rfl, Nat.le_refl _, fun _ _ => rfl⟩
  have HB13 : Hid (Below w.heap.size w (w12.drewN nd13)) := HB12.out.trans (hb13.mono HB12.out.size)
  have I13 := hide (I12.out.below hb13)
  have D13 := hide (D12.out.below hb13)
  have RD13 := hide (RD12.out.below hb13)
  have M13 := hide (M12.out.below hb13)
  have RM13 := hide (RM12.out.below hb13)
  obtain ⟨w13, ew13⟩ : ∃ v, v = w12.drewN nd13 := ⟨_, rfl⟩
  rw [← ew13] at HB13 I13 D13 RD13 M13 RM13 ⊢
  clear ew13 hb13 HB12 I12 D12 RD12 M12 RM12 y0 y1 y2 y3 y4 y5 y6 v0 v1 v2 v3 v4 v5 v6
  go_wp2_with fail
  refine (FnM.plain_any D13.out RD13.out).mono ?_
  rintro e u14 ⟨rfl, nd14, rfl⟩
  rw [decide_eq_true rfl]
  have hb14 : Below w13.heap.size w13 (w13.drewN nd14) := ⟨rfl, rfl, rfl, Nat.le_refl _, fun _ _ => rfl⟩
  have HB14 : Hid (Below w.heap.size w (w13.drewN nd14)) := HB13.out.trans (hb14.mono HB13.out.size)
  have I14 := hide (I13.out.below hb14)
  have M14 := hide (M13.out.below hb14)
  have RM14 := hide (RM13.out.below hb14)
  obtain ⟨w14, ew14⟩ : ∃ v, v = w13.drewN nd14 := ⟨_, rfl⟩
  rw [← ew14] at HB14 I14 M14 RM14 ⊢
  clear ew14 hb14 HB13 I13 M13 RM13
  go_wp2_with fail
  refine (FnM.plain_any M14.out RM14.out).mono ?_
  rintro e u15 ⟨rfl, nd15, rfl⟩
  rw [decide_eq_true rfl]
  have hb15 : Below w14.heap.size w14 (w14.drewN nd15) := ⟨rfl, rfl, rfl, Nat.le_refl _, fun _ _ => rfl⟩
  have HB15 : Hid (Below w.heap.size w (w14.drewN nd15)) := HB14.out.trans (hb15.mono HB14.out.size)
  have I15 := hide (I14.out.below hb15)
  obtain ⟨w15, ew15⟩ : ∃ v, v = w14.drewN nd15 := ⟨_, rfl⟩
  rw [← ew15] at HB15 I15 ⊢
  clear ew15 hb15 HB14 I14
  go_wp2_with fail
  refine (kept_l (H.out.below HB15.out) I15.out).mono ?_
  rintro e w16 ⟨rfl, hb16⟩
  have HB16 : Hid (Below w.heap.size w w16) := HB15.out.trans (hb16.mono HB15.out.size)
  clear hb16
  go_wp2_with fail
  go_returns
  exact ⟨by simp, HB16.out⟩
set_option maxRecDepth 100000 in
set_option maxHeartbeats 4000000 in
theorem walk_yes {w : World} {a : Option Addr} {n cp : Nat} {l : List Mk} {c q : Int} {x : An} (h : Ms w a n l) (hno : a = none → cp = 0) (hq : rightB 0 l = true) :
    Calls Try.prog 3 #[.slice a n cp, .int .i64 c, .int .i64 q, aval x] w fun e w' => e = .returned (.bool true) ∧ Below w.heap.size w w' := by
  have H := hide h
  have N := hide hno
  have Q := hide hq
  clear h hno hq
  have A0 : Hid (aval x = .agg #[.int .i64 x.e, .int .i64 x.v, .int .i64 x.lo, .int .i64 x.hi]) := rfl
  obtain ⟨y, ey⟩ : ∃ y, y = (findM l c).getD mk0 := ⟨_, rfl⟩
  obtain ⟨bf, ebf⟩ : ∃ b, b = (findM l c).isSome := ⟨_, rfl⟩
  obtain ⟨rb, erb⟩ : ∃ b, b = beginF l c q := ⟨_, rfl⟩
  obtain ⟨re, ere⟩ : ∃ b, b = beginE l c q := ⟨_, rfl⟩
  obtain ⟨ro, ero⟩ : ∃ b, b = openE l c q := ⟨_, rfl⟩
  have EY := hide ey
  have EBF := hide ebf
  have ERB := hide erb
  have ERE := hide ere
  have ERO := hide ero
  clear ey ebf erb ere ero
  unfold aval
  go_enter Try.func3, Try.ntmps3
  have HB0 : Hid (Below w.heap.size w (w.alloc (.cells #[.int .i64 x.e, .int .i64 x.v, .int .i64 x.lo, .int .i64 x.hi] 25))) := (Below.refl _ _).alloc (Nat.le_refl _) _
  go_wp2_with fail
  refine (own_l (H.out.below HB0.out) N.out).mono ?_
  rintro e w1 ⟨g1, rfl, hb1, ho1⟩
  have HX1 : Hid (w1.heap[w.heap.size]? = some (.cells #[.int .i64 x.e, .int .i64 x.v, .int .i64 x.lo, .int .i64 x.hi] 25 (0, 0))) := (hb1.block _ (by simp)).trans (heap_alloc_new w _)
  have HB1 : Hid (Below w.heap.size w w1) := HB0.out.trans (hb1.mono HB0.out.size)
  have I1 := hide (ho1)
  clear hb1 HB0 ho1
  go_wp2_with fail
  refine (rright_any (c := cp) (H.out.below HB1.out)).mono ?_
  rintro e w2 ⟨rfl, hb2⟩
  rw [Q.out]
  have HB2 : Hid (Below w.heap.size w w2) := HB1.out.trans (hb2.mono HB1.out.size)
  have HX_2 : Hid (w2.heap[w.heap.size]? = some (.cells #[.int .i64 x.e, .int .i64 x.v, .int .i64 x.lo, .int .i64 x.hi] 25 (0, 0))) := (hb2.block _ (Array.getElem?_eq_some_iff.1 HX1.out).1).trans HX1.out
  have I2 := hide (I1.out.below hb2)
  clear hb2 HB1 HX1 I1
  go_wp2_with fail
  refine (find_any (cp := n + 2) (c := c) I2.out.ms).mono ?_
  rintro e w3 ⟨rfl, hb3⟩
  rw [← EY.out, ← EBF.out]
  have HB3 : Hid (Below w.heap.size w w3) := HB2.out.trans (hb3.mono HB2.out.size)
  have HX_3 : Hid (w3.heap[w.heap.size]? = some (.cells #[.int .i64 x.e, .int .i64 x.v, .int .i64 x.lo, .int .i64 x.hi] 25 (0, 0))) := (hb3.block _ (Array.getElem?_eq_some_iff.1 HX_2.out).1).trans HX_2.out
  have I3 := hide (I2.out.below hb3)
  clear hb3 HB2 HX_2 I2
  unfold mval
  have F1b : Hid ((w3.alloc (.cells #[.int .i64 y.c, .int .i64 y.s, .bool y.o, .int .i64 y.a.e, .int .i64 y.a.v, .int .i64 y.a.lo, .int .i64 y.a.hi] 29)).heap[w3.heap.size]? = some (.cells #[.int .i64 y.c, .int .i64 y.s, .bool y.o, .int .i64 y.a.e, .int .i64 y.a.v, .int .i64 y.a.lo, .int .i64 y.a.hi] 29 (0, 0))) := heap_alloc_new w3 _
  have HBbF1 : Hid (Below w.heap.size w (w3.alloc (.cells #[.int .i64 y.c, .int .i64 y.s, .bool y.o, .int .i64 y.a.e, .int .i64 y.a.v, .int .i64 y.a.lo, .int .i64 y.a.hi] 29))) := HB3.out.alloc HB3.out.size _
  have HX_F1 : Hid ((w3.alloc (.cells #[.int .i64 y.c, .int .i64 y.s, .bool y.o, .int .i64 y.a.e, .int .i64 y.a.v, .int .i64 y.a.lo, .int .i64 y.a.hi] 29)).heap[w.heap.size]? = some (.cells #[.int .i64 x.e, .int .i64 x.v, .int .i64 x.lo, .int .i64 x.hi] 25 (0, 0))) := (Below.heap_alloc _ _ _ (Array.getElem?_eq_some_iff.1 HX_3.out).1).trans HX_3.out
  have IbF1 := hide (I3.out.below (Below.alloc (Below.refl _ _) (Nat.le_refl _) (.cells #[.int .i64 y.c, .int .i64 y.s, .bool y.o, .int .i64 y.a.e, .int .i64 y.a.v, .int .i64 y.a.lo, .int .i64 y.a.hi] 29)))
  clear HB3 HX_3 I3
  go_wp2_with fail
  refine (rfind_any (cp := cp) (c := c) (H.out.below HBbF1.out)).mono ?_
  rintro e w4 ⟨rfl, hb4⟩
  rw [← EY.out, ← EBF.out]
  have HB4 : Hid (Below w.heap.size w w4) := HBbF1.out.trans (hb4.mono HBbF1.out.size)
  have HX_4 : Hid (w4.heap[w.heap.size]? = some (.cells #[.int .i64 x.e, .int .i64 x.v, .int .i64 x.lo, .int .i64 x.hi] 25 (0, 0))) := (hb4.block _ (Array.getElem?_eq_some_iff.1 HX_F1.out).1).trans HX_F1.out
  have F1_4 : Hid (w4.heap[w3.heap.size]? = some (.cells #[.int .i64 y.c, .int .i64 y.s, .bool y.o, .int .i64 y.a.e, .int .i64 y.a.v, .int .i64 y.a.lo, .int .i64 y.a.hi] 29 (0, 0))) := (hb4.block _ (Array.getElem?_eq_some_iff.1 F1b.out).1).trans F1b.out
  have I4 := hide (IbF1.out.below hb4)
  clear hb4 HBbF1 HX_F1 F1b IbF1
  unfold mval
  have F2b : Hid ((w4.alloc (.cells #[.int .i64 y.c, .int .i64 y.s, .bool y.o, .int .i64 y.a.e, .int .i64 y.a.v, .int .i64 y.a.lo, .int .i64 y.a.hi] 29)).heap[w4.heap.size]? = some (.cells #[.int .i64 y.c, .int .i64 y.s, .bool y.o, .int .i64 y.a.e, .int .i64 y.a.v, .int .i64 y.a.lo, .int .i64 y.a.hi] 29 (0, 0))) := heap_alloc_new w4 _
  have HBbF2 : Hid (Below w.heap.size w (w4.alloc (.cells #[.int .i64 y.c, .int .i64 y.s, .bool y.o, .int .i64 y.a.e, .int .i64 y.a.v, .int .i64 y.a.lo, .int .i64 y.a.hi] 29))) := HB4.out.alloc HB4.out.size _
  have HX_F2 : Hid ((w4.alloc (.cells #[.int .i64 y.c, .int .i64 y.s, .bool y.o, .int .i64 y.a.e, .int .i64 y.a.v, .int .i64 y.a.lo, .int .i64 y.a.hi] 29)).heap[w.heap.size]? = some (.cells #[.int .i64 x.e, .int .i64 x.v, .int .i64 x.lo, .int .i64 x.hi] 25 (0, 0))) := (Below.heap_alloc _ _ _ (Array.getElem?_eq_some_iff.1 HX_4.out).1).trans HX_4.out
  have F1_F2 : Hid ((w4.alloc (.cells #[.int .i64 y.c, .int .i64 y.s, .bool y.o, .int .i64 y.a.e, .int .i64 y.a.v, .int .i64 y.a.lo, .int .i64 y.a.hi] 29)).heap[w3.heap.size]? = some (.cells #[.int .i64 y.c, .int .i64 y.s, .bool y.o, .int .i64 y.a.e, .int .i64 y.a.v, .int .i64 y.a.lo, .int .i64 y.a.hi] 29 (0, 0))) := (Below.heap_alloc _ _ _ (Array.getElem?_eq_some_iff.1 F1_4.out).1).trans F1_4.out
  have IbF2 := hide (I4.out.below (Below.alloc (Below.refl _ _) (Nat.le_refl _) (.cells #[.int .i64 y.c, .int .i64 y.s, .bool y.o, .int .i64 y.a.e, .int .i64 y.a.v, .int .i64 y.a.lo, .int .i64 y.a.hi] 29)))
  clear HB4 HX_4 F1_4 I4
  go_wp2_with fail
  refine (begin_any (cp := n + 2) (c := c) (q := q) IbF2.out.ms).mono ?_
  rintro e w5 ⟨a5, n5, c5, rfl, hm5, hb5⟩
  rw [← ERB.out, ← ERE.out]
  have HB5 : Hid (Below w.heap.size w w5) := HBbF2.out.trans (hb5.mono HBbF2.out.size)
  have HX_5 : Hid (w5.heap[w.heap.size]? = some (.cells #[.int .i64 x.e, .int .i64 x.v, .int .i64 x.lo, .int .i64 x.hi] 25 (0, 0))) := (hb5.block _ (Array.getElem?_eq_some_iff.1 HX_F2.out).1).trans HX_F2.out
  have F1_5 : Hid (w5.heap[w3.heap.size]? = some (.cells #[.int .i64 y.c, .int .i64 y.s, .bool y.o, .int .i64 y.a.e, .int .i64 y.a.v, .int .i64 y.a.lo, .int .i64 y.a.hi] 29 (0, 0))) := (hb5.block _ (Array.getElem?_eq_some_iff.1 F1_F2.out).1).trans F1_F2.out
  have F2_5 : Hid (w5.heap[w4.heap.size]? = some (.cells #[.int .i64 y.c, .int .i64 y.s, .bool y.o, .int .i64 y.a.e, .int .i64 y.a.v, .int .i64 y.a.lo, .int .i64 y.a.hi] 29 (0, 0))) := (hb5.block _ (Array.getElem?_eq_some_iff.1 F2b.out).1).trans F2b.out
  have I5 := hide (IbF2.out.below hb5)
  have B5 := hide (hm5)
  clear hb5 HBbF2 HX_F2 F1_F2 F2b IbF2 hm5
  go_wp2_with fail
  refine (rbegin_any (cp := cp) (c := c) (q := q) (H.out.below HB5.out)).mono ?_
  rintro e w6 ⟨a6, n6, c6, rfl, hm6, hb6⟩
  rw [← ERB.out, ← ERE.out]
  have HB6 : Hid (Below w.heap.size w w6) := HB5.out.trans (hb6.mono HB5.out.size)
  have HX_6 : Hid (w6.heap[w.heap.size]? = some (.cells #[.int .i64 x.e, .int .i64 x.v, .int .i64 x.lo, .int .i64 x.hi] 25 (0, 0))) := (hb6.block _ (Array.getElem?_eq_some_iff.1 HX_5.out).1).trans HX_5.out
  have F1_6 : Hid (w6.heap[w3.heap.size]? = some (.cells #[.int .i64 y.c, .int .i64 y.s, .bool y.o, .int .i64 y.a.e, .int .i64 y.a.v, .int .i64 y.a.lo, .int .i64 y.a.hi] 29 (0, 0))) := (hb6.block _ (Array.getElem?_eq_some_iff.1 F1_5.out).1).trans F1_5.out
  have F2_6 : Hid (w6.heap[w4.heap.size]? = some (.cells #[.int .i64 y.c, .int .i64 y.s, .bool y.o, .int .i64 y.a.e, .int .i64 y.a.v, .int .i64 y.a.lo, .int .i64 y.a.hi] 29 (0, 0))) := (hb6.block _ (Array.getElem?_eq_some_iff.1 F2_5.out).1).trans F2_5.out
  have I6 := hide (I5.out.below hb6)
  have B6 := hide (B5.out.below hb6)
  have RB6 := hide (hm6)
  clear hb6 HB5 HX_5 F1_5 F2_5 I5 B5 hm6
  have z0 : w6.cell? ⟨w.heap.size, 0, none⟩ = some (.int .i64 x.e) := by rw [cell_of_row _ _ _ _ _ _ HX_6.out]; rfl
  have z1 : w6.cell? ⟨w.heap.size, 1, none⟩ = some (.int .i64 x.v) := by rw [cell_of_row _ _ _ _ _ _ HX_6.out]; rfl
  have z2 : w6.cell? ⟨w.heap.size, 2, none⟩ = some (.int .i64 x.lo) := by rw [cell_of_row _ _ _ _ _ _ HX_6.out]; rfl
  have z3 : w6.cell? ⟨w.heap.size, 3, none⟩ = some (.int .i64 x.hi) := by rw [cell_of_row _ _ _ _ _ _ HX_6.out]; rfl
  have EN := hide (end_any (cp := n + 2) (c := c) (q := q) (x := x) I6.out.ms)
  rw [A0.out] at EN
  go_wp2_with fail
  refine (EN.out).mono ?_
  rintro e w7 ⟨a7, n7, c7, rfl, hm7, hb7⟩
  rw [← ERO.out]
  have HB7 : Hid (Below w.heap.size w w7) := HB6.out.trans (hb7.mono HB6.out.size)
  have HX_7 : Hid (w7.heap[w.heap.size]? = some (.cells #[.int .i64 x.e, .int .i64 x.v, .int .i64 x.lo, .int .i64 x.hi] 25 (0, 0))) := (hb7.block _ (Array.getElem?_eq_some_iff.1 HX_6.out).1).trans HX_6.out
  have F1_7 : Hid (w7.heap[w3.heap.size]? = some (.cells #[.int .i64 y.c, .int .i64 y.s, .bool y.o, .int .i64 y.a.e, .int .i64 y.a.v, .int .i64 y.a.lo, .int .i64 y.a.hi] 29 (0, 0))) := (hb7.block _ (Array.getElem?_eq_some_iff.1 F1_6.out).1).trans F1_6.out
  have F2_7 : Hid (w7.heap[w4.heap.size]? = some (.cells #[.int .i64 y.c, .int .i64 y.s, .bool y.o, .int .i64 y.a.e, .int .i64 y.a.v, .int .i64 y.a.lo, .int .i64 y.a.hi] 29 (0, 0))) := (hb7.block _ (Array.getElem?_eq_some_iff.1 F2_6.out).1).trans F2_6.out
  have I7 := hide (I6.out.below hb7)
  have B7 := hide (B6.out.below hb7)
  have RB7 := hide (RB6.out.below hb7)
  have D7 := hide (hm7)
  clear hb7 HB6 HX_6 F1_6 F2_6 I6 B6 RB6 hm7 z0 z1 z2 z3 EN
  have z0 : w7.cell? ⟨w.heap.size, 0, none⟩ = some (.int .i64 x.e) := by rw [cell_of_row _ _ _ _ _ _ HX_7.out]; rfl
  have z1 : w7.cell? ⟨w.heap.size, 1, none⟩ = some (.int .i64 x.v) := by rw [cell_of_row _ _ _ _ _ _ HX_7.out]; rfl
  have z2 : w7.cell? ⟨w.heap.size, 2, none⟩ = some (.int .i64 x.lo) := by rw [cell_of_row _ _ _ _ _ _ HX_7.out]; rfl
  have z3 : w7.cell? ⟨w.heap.size, 3, none⟩ = some (.int .i64 x.hi) := by rw [cell_of_row _ _ _ _ _ _ HX_7.out]; rfl
  have RN := hide (rend_any (cp := cp) (c := c) (q := q) (x := x) (H.out.below HB7.out))
  rw [A0.out] at RN
  go_wp2_with fail
  refine (RN.out).mono ?_
  rintro e w8 ⟨a8, n8, c8, rfl, hm8, hb8⟩
  rw [← ERO.out]
  have HB8 : Hid (Below w.heap.size w w8) := HB7.out.trans (hb8.mono HB7.out.size)
  have HX_8 : Hid (w8.heap[w.heap.size]? = some (.cells #[.int .i64 x.e, .int .i64 x.v, .int .i64 x.lo, .int .i64 x.hi] 25 (0, 0))) := (hb8.block _ (Array.getElem?_eq_some_iff.1 HX_7.out).1).trans HX_7.out
  have F1_8 : Hid (w8.heap[w3.heap.size]? = some (.cells #[.int .i64 y.c, .int .i64 y.s, .bool y.o, .int .i64 y.a.e, .int .i64 y.a.v, .int .i64 y.a.lo, .int .i64 y.a.hi] 29 (0, 0))) := (hb8.block _ (Array.getElem?_eq_some_iff.1 F1_7.out).1).trans F1_7.out
  have F2_8 : Hid (w8.heap[w4.heap.size]? = some (.cells #[.int .i64 y.c, .int .i64 y.s, .bool y.o, .int .i64 y.a.e, .int .i64 y.a.v, .int .i64 y.a.lo, .int .i64 y.a.hi] 29 (0, 0))) := (hb8.block _ (Array.getElem?_eq_some_iff.1 F2_7.out).1).trans F2_7.out
  have I8 := hide (I7.out.below hb8)
  have B8 := hide (B7.out.below hb8)
  have RB8 := hide (RB7.out.below hb8)
  have D8 := hide (D7.out.below hb8)
  have RD8 := hide (hm8)
  clear hb8 HB7 HX_7 F1_7 F2_7 I7 B7 RB7 D7 hm8 z0 z1 z2 z3 RN
  go_wp2_with fail
  refine (lose_any (cp := n + 2) (c := c) (q := q) I8.out.ms).mono ?_
  rintro e w9 ⟨a9, n9, c9, rfl, hm9, hb9⟩
  rw [← ERO.out]
  have HB9 : Hid (Below w.heap.size w w9) := HB8.out.trans (hb9.mono HB8.out.size)
  have HX_9 : Hid (w9.heap[w.heap.size]? = some (.cells #[.int .i64 x.e, .int .i64 x.v, .int .i64 x.lo, .int .i64 x.hi] 25 (0, 0))) := (hb9.block _ (Array.getElem?_eq_some_iff.1 HX_8.out).1).trans HX_8.out
  have F1_9 : Hid (w9.heap[w3.heap.size]? = some (.cells #[.int .i64 y.c, .int .i64 y.s, .bool y.o, .int .i64 y.a.e, .int .i64 y.a.v, .int .i64 y.a.lo, .int .i64 y.a.hi] 29 (0, 0))) := (hb9.block _ (Array.getElem?_eq_some_iff.1 F1_8.out).1).trans F1_8.out
  have F2_9 : Hid (w9.heap[w4.heap.size]? = some (.cells #[.int .i64 y.c, .int .i64 y.s, .bool y.o, .int .i64 y.a.e, .int .i64 y.a.v, .int .i64 y.a.lo, .int .i64 y.a.hi] 29 (0, 0))) := (hb9.block _ (Array.getElem?_eq_some_iff.1 F2_8.out).1).trans F2_8.out
  have I9 := hide (I8.out.below hb9)
  have B9 := hide (B8.out.below hb9)
  have RB9 := hide (RB8.out.below hb9)
  have D9 := hide (D8.out.below hb9)
  have RD9 := hide (RD8.out.below hb9)
  have M9 := hide (hm9)
  clear hb9 HB8 HX_8 F1_8 F2_8 I8 B8 RB8 D8 RD8 hm9
  go_wp2_with fail
  refine (rlose_any (cp := cp) (c := c) (q := q) (H.out.below HB9.out)).mono ?_
  rintro e w10 ⟨a10, n10, c10, rfl, hm10, hb10⟩
  rw [← ERO.out]
  have HB10 : Hid (Below w.heap.size w w10) := HB9.out.trans (hb10.mono HB9.out.size)
  have HX_10 : Hid (w10.heap[w.heap.size]? = some (.cells #[.int .i64 x.e, .int .i64 x.v, .int .i64 x.lo, .int .i64 x.hi] 25 (0, 0))) := (hb10.block _ (Array.getElem?_eq_some_iff.1 HX_9.out).1).trans HX_9.out
  have F1_10 : Hid (w10.heap[w3.heap.size]? = some (.cells #[.int .i64 y.c, .int .i64 y.s, .bool y.o, .int .i64 y.a.e, .int .i64 y.a.v, .int .i64 y.a.lo, .int .i64 y.a.hi] 29 (0, 0))) := (hb10.block _ (Array.getElem?_eq_some_iff.1 F1_9.out).1).trans F1_9.out
  have F2_10 : Hid (w10.heap[w4.heap.size]? = some (.cells #[.int .i64 y.c, .int .i64 y.s, .bool y.o, .int .i64 y.a.e, .int .i64 y.a.v, .int .i64 y.a.lo, .int .i64 y.a.hi] 29 (0, 0))) := (hb10.block _ (Array.getElem?_eq_some_iff.1 F2_9.out).1).trans F2_9.out
  have I10 := hide (I9.out.below hb10)
  have B10 := hide (B9.out.below hb10)
  have RB10 := hide (RB9.out.below hb10)
  have D10 := hide (D9.out.below hb10)
  have RD10 := hide (RD9.out.below hb10)
  have M10 := hide (M9.out.below hb10)
  have RM10 := hide (hm10)
  clear hb10 HB9 HX_9 F1_9 F2_9 I9 B9 RB9 D9 RD9 M9 hm10
  go_wp2_with fail
  refine (awake_any _).mono ?_
  rintro e w11 ⟨rfl, hb11⟩
  have HB11 : Hid (Below w.heap.size w w11) := HB10.out.trans (hb11.mono HB10.out.size)
  have HX_11 : Hid (w11.heap[w.heap.size]? = some (.cells #[.int .i64 x.e, .int .i64 x.v, .int .i64 x.lo, .int .i64 x.hi] 25 (0, 0))) := (hb11.block _ (Array.getElem?_eq_some_iff.1 HX_10.out).1).trans HX_10.out
  have F1_11 : Hid (w11.heap[w3.heap.size]? = some (.cells #[.int .i64 y.c, .int .i64 y.s, .bool y.o, .int .i64 y.a.e, .int .i64 y.a.v, .int .i64 y.a.lo, .int .i64 y.a.hi] 29 (0, 0))) := (hb11.block _ (Array.getElem?_eq_some_iff.1 F1_10.out).1).trans F1_10.out
  have F2_11 : Hid (w11.heap[w4.heap.size]? = some (.cells #[.int .i64 y.c, .int .i64 y.s, .bool y.o, .int .i64 y.a.e, .int .i64 y.a.v, .int .i64 y.a.lo, .int .i64 y.a.hi] 29 (0, 0))) := (hb11.block _ (Array.getElem?_eq_some_iff.1 F2_10.out).1).trans F2_10.out
  have I11 := hide (I10.out.below hb11)
  have B11 := hide (B10.out.below hb11)
  have RB11 := hide (RB10.out.below hb11)
  have D11 := hide (D10.out.below hb11)
  have RD11 := hide (RD10.out.below hb11)
  have M11 := hide (M10.out.below hb11)
  have RM11 := hide (RM10.out.below hb11)
  clear hb11 HB10 HX_10 F1_10 F2_10 I10 B10 RB10 D10 RD10 M10 RM10
  go_wp2_with fail
  refine (check_any (c := n + 2) I11.out.ms).mono ?_
  rintro e w12 ⟨rfl, hb12⟩
  rw [show checkE l = 0 from by unfold checkE; rw [Q.out]; rfl]
  have HB12 : Hid (Below w.heap.size w w12) := HB11.out.trans (hb12.mono HB11.out.size)
  have HX_12 : Hid (w12.heap[w.heap.size]? = some (.cells #[.int .i64 x.e, .int .i64 x.v, .int .i64 x.lo, .int .i64 x.hi] 25 (0, 0))) := (hb12.block _ (Array.getElem?_eq_some_iff.1 HX_11.out).1).trans HX_11.out
  have F1_12 : Hid (w12.heap[w3.heap.size]? = some (.cells #[.int .i64 y.c, .int .i64 y.s, .bool y.o, .int .i64 y.a.e, .int .i64 y.a.v, .int .i64 y.a.lo, .int .i64 y.a.hi] 29 (0, 0))) := (hb12.block _ (Array.getElem?_eq_some_iff.1 F1_11.out).1).trans F1_11.out
  have F2_12 : Hid (w12.heap[w4.heap.size]? = some (.cells #[.int .i64 y.c, .int .i64 y.s, .bool y.o, .int .i64 y.a.e, .int .i64 y.a.v, .int .i64 y.a.lo, .int .i64 y.a.hi] 29 (0, 0))) := (hb12.block _ (Array.getElem?_eq_some_iff.1 F2_11.out).1).trans F2_11.out
  have I12 := hide (I11.out.below hb12)
  have B12 := hide (B11.out.below hb12)
  have RB12 := hide (RB11.out.below hb12)
  have D12 := hide (D11.out.below hb12)
  have RD12 := hide (RD11.out.below hb12)
  have M12 := hide (M11.out.below hb12)
  have RM12 := hide (RM11.out.below hb12)
  clear hb12 HB11 HX_11 F1_11 F2_11 I11 B11 RB11 D11 RD11 M11 RM11
  have y0 : w12.cell? ⟨w3.heap.size, 0, none⟩ = some (.int .i64 y.c) := by rw [cell_of_row _ _ _ _ _ _ F1_12.out]; rfl
  have y1 : w12.cell? ⟨w3.heap.size, 1, none⟩ = some (.int .i64 y.s) := by rw [cell_of_row _ _ _ _ _ _ F1_12.out]; rfl
  have y2 : w12.cell? ⟨w3.heap.size, 2, none⟩ = some (.bool y.o) := by rw [cell_of_row _ _ _ _ _ _ F1_12.out]; rfl
  have y3 : w12.cell? ⟨w3.heap.size, 3, none⟩ = some (.int .i64 y.a.e) := by rw [cell_of_row _ _ _ _ _ _ F1_12.out]; rfl
  have y4 : w12.cell? ⟨w3.heap.size, 4, none⟩ = some (.int .i64 y.a.v) := by rw [cell_of_row _ _ _ _ _ _ F1_12.out]; rfl
  have y5 : w12.cell? ⟨w3.heap.size, 5, none⟩ = some (.int .i64 y.a.lo) := by rw [cell_of_row _ _ _ _ _ _ F1_12.out]; rfl
  have y6 : w12.cell? ⟨w3.heap.size, 6, none⟩ = some (.int .i64 y.a.hi) := by rw [cell_of_row _ _ _ _ _ _ F1_12.out]; rfl
  have v0 : w12.cell? ⟨w4.heap.size, 0, none⟩ = some (.int .i64 y.c) := by rw [cell_of_row _ _ _ _ _ _ F2_12.out]; rfl
  have v1 : w12.cell? ⟨w4.heap.size, 1, none⟩ = some (.int .i64 y.s) := by rw [cell_of_row _ _ _ _ _ _ F2_12.out]; rfl
  have v2 : w12.cell? ⟨w4.heap.size, 2, none⟩ = some (.bool y.o) := by rw [cell_of_row _ _ _ _ _ _ F2_12.out]; rfl
  have v3 : w12.cell? ⟨w4.heap.size, 3, none⟩ = some (.int .i64 y.a.e) := by rw [cell_of_row _ _ _ _ _ _ F2_12.out]; rfl
  have v4 : w12.cell? ⟨w4.heap.size, 4, none⟩ = some (.int .i64 y.a.v) := by rw [cell_of_row _ _ _ _ _ _ F2_12.out]; rfl
  have v5 : w12.cell? ⟨w4.heap.size, 5, none⟩ = some (.int .i64 y.a.lo) := by rw [cell_of_row _ _ _ _ _ _ F2_12.out]; rfl
  have v6 : w12.cell? ⟨w4.heap.size, 6, none⟩ = some (.int .i64 y.a.hi) := by rw [cell_of_row _ _ _ _ _ _ F2_12.out]; rfl
  go_wp2_with fail
  refine (FnM.plain_any B12.out RB12.out).mono ?_
  rintro e u13 ⟨rfl, nd13, rfl⟩
  rw [decide_eq_true rfl]
  have hb13 : Below w12.heap.size w12 (w12.drewN nd13) := ⟨rfl, rfl, rfl, Nat.le_refl _, fun _ _ => rfl⟩
  have HB13 : Hid (Below w.heap.size w (w12.drewN nd13)) := HB12.out.trans (hb13.mono HB12.out.size)
  have I13 := hide (I12.out.below hb13)
  have D13 := hide (D12.out.below hb13)
  have RD13 := hide (RD12.out.below hb13)
  have M13 := hide (M12.out.below hb13)
  have RM13 := hide (RM12.out.below hb13)
  obtain ⟨w13, ew13⟩ : ∃ v, v = w12.drewN nd13 := ⟨_, rfl⟩
  rw [← ew13] at HB13 I13 D13 RD13 M13 RM13 ⊢
  clear ew13 hb13 HB12 I12 D12 RD12 M12 RM12 y0 y1 y2 y3 y4 y5 y6 v0 v1 v2 v3 v4 v5 v6
  go_wp2_with fail
  refine (FnM.plain_any D13.out RD13.out).mono ?_
  rintro e u14 ⟨rfl, nd14, rfl⟩
  rw [decide_eq_true rfl]
  have hb14 : Below w13.heap.size w13 (w13.drewN nd14) := ⟨rfl, rfl, rfl, Nat.le_refl _, fun _ _ => rfl⟩
  have HB14 : Hid (Below w.heap.size w (w13.drewN nd14)) := HB13.out.trans (hb14.mono HB13.out.size)
  have I14 := hide (I13.out.below hb14)
  have M14 := hide (M13.out.below hb14)
  have RM14 := hide (RM13.out.below hb14)
  obtain ⟨w14, ew14⟩ : ∃ v, v = w13.drewN nd14 := ⟨_, rfl⟩
  rw [← ew14] at HB14 I14 M14 RM14 ⊢
  clear ew14 hb14 HB13 I13 M13 RM13
  go_wp2_with fail
  refine (FnM.plain_any M14.out RM14.out).mono ?_
  rintro e u15 ⟨rfl, nd15, rfl⟩
  rw [decide_eq_true rfl]
  have hb15 : Below w14.heap.size w14 (w14.drewN nd15) := ⟨rfl, rfl, rfl, Nat.le_refl _, fun _ _ => rfl⟩
  have HB15 : Hid (Below w.heap.size w (w14.drewN nd15)) := HB14.out.trans (hb15.mono HB14.out.size)
  have I15 := hide (I14.out.below hb15)
  obtain ⟨w15, ew15⟩ : ∃ v, v = w14.drewN nd15 := ⟨_, rfl⟩
  rw [← ew15] at HB15 I15 ⊢
  clear ew15 hb15 HB14 I14
  go_wp2_with fail
  refine (kept_l (H.out.below HB15.out) I15.out).mono ?_
  rintro e w16 ⟨rfl, hb16⟩
  have HB16 : Hid (Below w.heap.size w w16) := HB15.out.trans (hb16.mono HB15.out.size)
  clear hb16
  go_wp2_with fail
  go_returns
  exact ⟨by simp, HB16.out⟩
theorem walk {w : World} {a : Option Addr} {n cp : Nat} {l : List Mk} {c q : Int} {x : An} (h : Ms w a n l) (hno : a = none → cp = 0) :
    Calls Try.prog 3 #[.slice a n cp, .int .i64 c, .int .i64 q, aval x] w fun e w' => e = .returned (.bool true) ∧ Below w.heap.size w w' := by
  cases hq : rightB 0 l with
  | false => exact walk_no h hno hq
  | true => exact walk_yes h hno hq

set_option maxRecDepth 100000 in
theorem lifted (os : Os) (started : os.Started) (H : Type) (enc : TypeId × Value → H) :
    ReturnsInHanded {} Try.checked os 3 .any (Rows.sessionPlaysSpec.pre6 enc Try.prog Try.f3 Rows.sessionPlaysRow.domain false) (Rows.sessionPlaysSpec.post enc Try.prog Try.f3 false true false false) := by
  refine returnsInHanded_of_change_sized (C := Try.checked) own started (by kernel_rfl) Try.func3
    (ChangeSpec.witness6 (enc := enc) (C := Try.checked) false ⟨#[], #[.slice none 0 0, .int .i64 0, .int .i64 0, .agg #[.int .i64 0, .int .i64 0, .int .i64 0, .int .i64 0]], []⟩ 8 (by kernel_rfl) (by kernel_rfl) (by kernel_rfl) (by kernel_rfl)) ?_
  intro W base args ds gs before hval0 hW hcnd hsz0 _
  have hsz : (DataW.weightsEach Try.prog (Try.f3.params.toList ++ Rows.sessionPlaysSpec.plain.varTypes Try.prog) (ds ++ gs)).all (· ≤ reachBytes) = true := hsz0
  have hval : ∀ (j : Nat) t v, Try.f3.params[j]? = some t → args[j]? = some v → Value.okWide Try.prog W .any base t v := hval0
  have hW' := hW
  obtain ⟨p, q, hA0, hV, rfl, hfz, hnd⟩ := hW
  have hA : DataW.TrodAll enc Try.prog W 0 (fun _ => true) true Try.f3.params.toList args.toList ds p := hA0
  rw [Try.params3] at hA hval hsz
  obtain ⟨v0, vs0, d0, ds0, p0, q0, hargs, rfl, rfl, h0, r0⟩ := trodAll_cons hA
  obtain ⟨v1, vs1, d1, ds1, p1, q1, rfl, rfl, rfl, h1, r1⟩ := trodAll_cons r0
  obtain ⟨v2, vs2, d2, ds2, p2, q2, rfl, rfl, rfl, h2, r2⟩ := trodAll_cons r1
  obtain ⟨v3, vs3, d3, ds3, p3, q3, rfl, rfl, rfl, h3, r3⟩ := trodAll_cons r2
  obtain ⟨rfl, rfl, rfl⟩ := trodAll_nil r3
  obtain rfl : args = #[v0, v1, v2, v3] := by cases args; simp_all
  obtain ⟨rfl, rfl⟩ := trodVars_none hV
  have lt0 : ∀ x ∈ p0, x.block < W.heap.size := by obtain ⟨m, hm⟩ := h0; exact DataW.trod_lt m _ _ _ hm
  obtain ⟨a, n, cp, l, rfl, k0, o0⟩ := open_marks_held (hval 0 22 v0 rfl rfl) h0 (fun n hn => by have h := List.all_eq_true.1 hsz n (DataW.weights_mem_each (j := 0) rfl rfl n hn); simpa using h)
  have lt1 : ∀ x ∈ p1, x.block < W.heap.size := by obtain ⟨m, hm⟩ := h1; exact DataW.trod_lt m _ _ _ hm
  obtain ⟨c, rfl, hc⟩ := open_i64 (hval 1 3 v1 rfl rfl) h1
  have lt2 : ∀ x ∈ p2, x.block < W.heap.size := by obtain ⟨m, hm⟩ := h2; exact DataW.trod_lt m _ _ _ hm
  obtain ⟨q, rfl, hq⟩ := open_i64 (hval 2 3 v2 rfl rfl) h2
  have lt3 : ∀ x ∈ p3, x.block < W.heap.size := by obtain ⟨m, hm⟩ := h3; exact DataW.trod_lt m _ _ _ hm
  obtain ⟨x, rfl, hx⟩ := open_answer_held (hval 3 25 v3 rfl rfl) h3 (fun n hn => by have h := List.all_eq_true.1 hsz n (DataW.weights_mem_each (j := 3) rfl rfl n hn); simpa using h)
  clear hA0 hval0
  refine (walk k0 o0).mono fun e W' ⟨he, bel⟩ => ?_
  subst he
  exact ⟨_, rfl, _, _, _, [], _, [], hW', trodAll_mk1 (shut_bool Try.underlying4 _), (trodAll_cons_mk (Below.trod laidOut (by kernel_rfl) (of_decide_eq_true (by kernel_rfl)) h0 bel lt0) (trodAll_cons_mk (Below.trod laidOut (by kernel_rfl) (of_decide_eq_true (by kernel_rfl)) h1 bel lt1) (trodAll_cons_mk (Below.trod laidOut (by kernel_rfl) (of_decide_eq_true (by kernel_rfl)) h2 bel lt2) (trodAll_cons_mk (Below.trod laidOut (by kernel_rfl) (of_decide_eq_true (by kernel_rfl)) h3 bel lt3) trodAll_mk0)))), rfl, bel.frame _, fun h => by cases h⟩

theorem over : Rows.sessionPlaysRow.holds Try.pinned (OpenSpec.ofChange Rows.sessionPlaysSpec) :=
  OpenClaim.holds_of_wide 3 Try.f3 rfl rfl rfl rfl rfl rfl rfl ⟨rfl, rfl, rfl, rfl, rfl⟩ rfl rfl rfl rfl rfl (by kernel_rfl) Try.func3 (by kernel_rfl)
    (of_decide_eq_true (by kernel_rfl)) (by unfold Func.isWrapper; first | (rw [if_pos (by decide +kernel)]; kernel_rfl) | (rw [if_neg (by decide +kernel)]; exact ⟨rfl, rfl⟩))
    (fun os started H enc _ => lifted os started H enc)

theorem proved : Rows.SessionPlaysSaid := over
#print axioms proved
end SessionPlays
theorem sessionPlays_holds : Rows.SessionPlaysSaid := SessionPlays.proved
end Go.Proofs.Ytbeikdppcfpplaa
