/- The law folder's helpers: awake, own, kept. No condition but that the list can be read. -/
import Derived.Test.YtbeikdppcfpplaaSesCalls
import Derived.Test.YtbeikdppcfpplaaFlatKeptM
import Derived.Test.YtbeikdppcfpplaaHeld
namespace Go.Proofs.Ytbeikdppcfpplaa
open Go.ChangeShapes Go.WideShapes Go.ChangeAt Go.RowKit Sn
set_option linter.unusedVariables false

def mk71 : Mk := ⟨71, 0, false, an0⟩
/-- what own makes: the list, in a row with two marks behind it -/
structure Owned (w : World) (B g len : Nat) (l : List Mk) : Prop where
  row : w.ownsRow B 29 7 (.slice (some ⟨g, 0, none⟩) (len + 2) (len + 2)) (len + 2) (fcells menc (l ++ [mk71, mk71]))
  ms : Ms w (some ⟨g, 0, none⟩) len l
theorem Owned.below {w w' : World} {B g len : Nat} {l : List Mk} (h : Owned w B g len l) (hb : Below w.heap.size w w') : Owned w' B g len l := ⟨row_keeps h.row hb, h.ms.below hb⟩
set_option maxRecDepth 100000 in
theorem own_l {w : World} {a : Option Addr} {len cap : Nat} {l : List Mk} (h : Ms w a len l) (hno : a = none → cap = 0) :
    Calls Try.prog 9 #[.slice a len cap] w fun e w' => ∃ g, e = .returned (.slice (some ⟨g, 0, none⟩) len (len + 2)) ∧ Below w.heap.size w w' ∧ Owned w' w.heap.size g len l := by
  have O := hide (FnM.own_any (mk := mk71) h hno)
  have hroom := h.room
  have HL : Hid (l.length = len) := h.len
  unfold mval mk71 an0 at O
  clear h hno
  go_enter Try.func9, Try.ntmps9
  go_wp2_with fail
  refine O.out.mono ?_
  rintro e w1 ⟨g, rfl, hb, ho⟩
  have HB := hide hb
  have HO : Hid (Owned w1 w.heap.size g len l) := ⟨ho, (FnM.own_row HL.out hroom ho).1⟩
  clear hb ho O
  go_wp2_with fail
  go_returns
  exact ⟨g, rfl, HB.out, HO.out⟩
set_option maxRecDepth 100000 in
theorem kept_l {w : World} {B g len cap : Nat} {a : Option Addr} {l : List Mk} (h : Ms w a len l) (ho : Owned w B g len l) :
    Calls Try.prog 22 #[.slice (some ⟨g, 0, none⟩) len (len + 2), .slice a len cap] w fun e w' => e = .returned (.bool true) ∧ Below w.heap.size w w' := by
  have O := hide (FnM.kept_any (cap := cap) (mk := mk71) h ho.row)
  unfold mval mk71 an0 at O
  clear h ho
  go_enter Try.func22, Try.ntmps22
  go_wp2_with fail
  refine O.out.mono ?_
  rintro e w1 ⟨rfl, hb⟩
  have HB := hide hb
  clear hb O
  go_wp2_with fail
  go_returns
  exact ⟨rfl, HB.out⟩
set_option maxRecDepth 100000 in
set_option maxHeartbeats 1000000 in
theorem awake_any (w : World) : Calls Try.prog 19 #[] w fun e w' => e = .returned (.bool true) ∧ Below w.heap.size w w' := by
  have B := hide (begin_any (cp := 0) (c := 3) (q := 1) (Rl.nil w : Ms w none 0 []))
  have e1 : beginE [] 3 1 = 0 := by decide
  have e2 : beginF [] 3 1 = true := by decide
  have e3 : beginL [] 3 1 = [opened 3 1] := by decide
  rw [e1, e2, e3] at B
  clear e1 e2 e3
  go_enter Try.func19, Try.ntmps19
  go_wp2_with fail
  refine B.out.mono ?_
  rintro e w1 ⟨a1, n1, c1, rfl, hm1, hb1⟩
  obtain rfl : n1 = 1 := hm1.len.symm
  have HB1 := hide hb1
  have HR : Hid ((w1.alloc (.cells #[.int .i64 (-1), .int .i64 0, .bool false, .int .i64 0, .int .i64 0, .int .i64 0, .int .i64 0] 29)).heap[w1.heap.size]? = some (.cells #[.int .i64 (-1), .int .i64 0, .bool false, .int .i64 0, .int .i64 0, .int .i64 0, .int .i64 0] 29 (0, 0))) := heap_alloc_new w1 _
  have HM : Hid (Ms (w1.alloc (.cells #[.int .i64 (-1), .int .i64 0, .bool false, .int .i64 0, .int .i64 0, .int .i64 0, .int .i64 0] 29)) (some ⟨w1.heap.size, 0, none⟩) 1 [⟨-1, 0, false, an0⟩]) := by
    refine ⟨rfl, fun _ => ⟨w1.heap.size, 0, rfl, (Array.getElem?_eq_some_iff.1 HR.out).1, fun j x hj o v hv => ?_⟩, by omega⟩
    have hj0 : j = 0 := by have := (List.getElem?_eq_some_iff.1 hj).1; simp at this; exact this
    subst hj0
    simp at hj
    subst hj
    rw [cell_of_row _ _ _ _ _ _ HR.out]
    simpa [menc, an0] using hv
  have C := hide (check_any (c := 1) HM.out)
  rw [show checkE [⟨-1, 0, false, an0⟩] = 21 from by decide] at C
  clear hb1 hm1 HR HM B
  go_wp2_with fail
  refine C.out.mono ?_
  rintro e w2 ⟨rfl, hb2⟩
  have HB2 := hide hb2
  clear hb2 C
  go_wp2_with fail
  go_returns
  refine ⟨rfl, ?_⟩
  exact (HB1.out.alloc HB1.out.size _).trans (HB2.out.mono (HB1.out.alloc HB1.out.size _).size)
end Go.Proofs.Ytbeikdppcfpplaa
