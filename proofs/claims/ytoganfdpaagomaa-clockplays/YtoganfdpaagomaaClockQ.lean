/- The queue's own calls: Len, find, Less, Swap. No condition. -/
import Derived.Test.YtoganfdpaagomaaClockOrd
import Derived.Test.YtoganfdpaagomaaHeld
import Derived.Deep.RegionLaw
namespace Go.Proofs.Ytoganfdpaagomaa
open Go.ChangeShapes Go.WideShapes Go.ChangeAt Go.RowKit Cm
set_option linter.unusedVariables false

section
variable {w : World} {L : Ql} {l : List Tm} {ns : List ByteArray}
theorem len_any (h : Qu w L l ns) : Calls Try.prog 31 #[.pointer (some ⟨L.Q, 0, none⟩)] w fun e w' => e = .returned (.int .i64 l.length) ∧ w' = w := by
  have c0 := h.c0
  rw [h.len] at c0
  clear h
  go_enter Try.func31, Try.ntmps31
  go_wp2_with fail
  go_ret
  exact ⟨rfl, rfl⟩
theorem find_any (h : Qu w L l ns) (s : ByteArray) (hs : s.size ≤ maxLen) : ∃ r : Option Nat, ((∃ i, r = some i ∧ ns[i]? = some s) ∨ (r = none ∧ s ∉ ns)) ∧ Calls Try.prog 29 #[.pointer (some ⟨L.Q, 0, none⟩), .string s] w fun e w' => e = .returned (.tuple #[.int .i64 ((r.getD 0 : Nat) : Int), .bool r.isSome]) ∧ w' = w := by
  have c1 := h.c1
  obtain ⟨F, hm, hi⟩ := h.mp
  have run := mp_look hm hs
  refine ⟨F s, hi.look s, ?_⟩
  generalize F s = r at run
  clear h hm hi
  go_enter Try.func29, Try.ntmps29
  go_wp2_with fail
  go_ret2
  exact ⟨rfl, rfl⟩
set_option maxRecDepth 100000 in
theorem less_any (h : Qu w L l ns) {i j : Nat} (hi : i < l.length) (hj : j < l.length) :
    Calls Try.prog 82 #[.pointer (some ⟨L.Q, 0, none⟩), .int .i64 i, .int .i64 j] w fun e w' => e = .returned (.bool (lt (g l i) (g l j))) ∧ Below w.heap.size w w' := by
  obtain ⟨b, ea, eo, i0, i1, i2⟩ := h.at hi
  obtain ⟨b', ea', _, j0, j1, j2⟩ := h.at hj
  obtain rfl : b = b' := by rw [ea] at ea'; simpa using ea'
  have c0 := h.c0
  rw [ea] at c0
  have E := hide (cf_lt (g l i) (g l j))
  have C := fun W => hide (order_below (g l i) (g l j) W)
  have hl := h.len
  have x1 : (0 : Int) ≤ i := by omega
  have x2 : (i : Int) < L.m := by omega
  have y1 : (0 : Int) ≤ j := by omega
  have y2 : (j : Int) < L.m := by omega
  rw [← E.out]
  generalize cf (g l i) (g l j) = r at C
  generalize g l i = ti at *
  generalize g l j = tj at *
  clear h ea ea' eo hl E
  go_enter Try.func82, Try.ntmps82
  go_wp2_with fail
  refine wp_region_cells w [(⟨L.Q, 0, none⟩, .slice (some ⟨b, 0, none⟩) L.m L.cv), (⟨b, i * 3, none⟩, .string ti.name), (⟨b, i * 3 + 1, none⟩, .int .i64 ti.due), (⟨b, i * 3 + 2, none⟩, .int .i64 ti.turn), (⟨b, j * 3, none⟩, .string tj.name), (⟨b, j * 3 + 1, none⟩, .int .i64 tj.due), (⟨b, j * 3 + 2, none⟩, .int .i64 tj.turn)] (by kernel_rfl) (by kernel_rfl) (Below.refl _ _) (by simp [AllCells, c0, i0, i1, i2, j0, j1, j2]) ?_
  intro hne qq
  simp only [AllCells, and_true] at qq
  clear c0 i0 i1 i2 j0 j1 j2
  repeat (go_big_quiet_step (first | (go_at_call 28; exact Held.call _ (C _).out)))
  refine wpQuiet_nil ?_
  rintro _ ⟨y, rfl⟩
  have BQ : Hid (Below w.heap.size w y.x) := y.below
  clear qq hne C
  go_wp2_with fail
  go_ret
  exact ⟨rfl, BQ.out⟩
end
end Go.Proofs.Ytoganfdpaagomaa
