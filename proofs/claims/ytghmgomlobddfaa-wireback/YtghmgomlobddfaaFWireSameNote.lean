/- The law folder's Note of two things that have the same plain fields answers true. No condition. -/
import Derived.Test.YtghmgomlobddfaaJA
import Derived.Test.YtghmgomlobddfaaFWireSameVote
import Derived.Test.YtghmgomlobddfaaFWireSameEntry
namespace Go.Proofs.Ytghmgomlobddfaa
open Go.ChangeShapes Go.WideShapes Go.ChangeAt Go.RowKit B8 Cm Wm
set_option linter.unusedVariables false

set_option maxRecDepth 100000 in
set_option maxHeartbeats 4000000 in
theorem same_note_lit {w : World} (z0 : Int) (z1 : Int) (z2 : Int) (z3 : Int) (z4 : Int) (z5 : Int) (z6 : Int) (z8 : Int) (z10 : Int) (z11 : ByteArray) (z12 : Int) (z13 : Int) (z14 : Int) (z15 : Int) {a7 a7' : Option Addr} {n7 c7 c7' : Nat} {b7 : List Int} {a9 a9' : Option Addr} {n9 c9 c9' : Nat} {b9 : List Int} (s7 : Sq w a7 n7 c7 b7) (t7 : Sq w a7' n7 c7' b7) (l7 : n7 ≤ 140737488351232) (s9 : Sq w a9 n9 c9 b9) (t9 : Sq w a9' n9 c9' b9) (l9 : n9 ≤ 140737488351232) :
    Calls Try.prog 10 #[.agg #[.int .i64 z0, .int .i64 z1, .int .i64 z2, .int .i64 z3, .int .i64 z4, .int .i64 z5, .int .i64 z6, .slice a7 n7 c7, .int .i64 z8, .slice a9 n9 c9, .int .i64 z10, .string z11, .int .i64 z12, .int .i64 z13, .int .i64 z14, .int .i64 z15], .agg #[.int .i64 z0, .int .i64 z1, .int .i64 z2, .int .i64 z3, .int .i64 z4, .int .i64 z5, .int .i64 z6, .slice a7' n7 c7', .int .i64 z8, .slice a9' n9 c9', .int .i64 z10, .string z11, .int .i64 z12, .int .i64 z13, .int .i64 z14, .int .i64 z15]] w fun e w' => e = .returned (.bool true) ∧ Below w.heap.size w w' := by
  have B2 := hide (below_alloc (below_alloc (Below.refl w.heap.size w) (.cells #[.int .i64 z0, .int .i64 z1, .int .i64 z2, .int .i64 z3, .int .i64 z4, .int .i64 z5, .int .i64 z6, .slice a7 n7 c7, .int .i64 z8, .slice a9 n9 c9, .int .i64 z10, .string z11, .int .i64 z12, .int .i64 z13, .int .i64 z14, .int .i64 z15] 38)) (.cells #[.int .i64 z0, .int .i64 z1, .int .i64 z2, .int .i64 z3, .int .i64 z4, .int .i64 z5, .int .i64 z6, .slice a7' n7 c7', .int .i64 z8, .slice a9' n9 c9', .int .i64 z10, .string z11, .int .i64 z12, .int .i64 z13, .int .i64 z14, .int .i64 z15] 38))
  have S7 := hide s7
  have T7 := hide t7
  have S9 := hide s9
  have T9 := hide t9
  clear s7 t7 s9 t9
  go_enter Try.func10, Try.ntmps10
  go_wp2_with fail
  refine (same_vote_lit z4 z5 z6 (S7.out.below B2.out) (T7.out.below B2.out) l7).mono ?_
  rintro e wq0 ⟨rfl, hq⟩
  have D0 : Hid (Below w.heap.size w wq0) := below_step B2.out hq
  obtain ⟨K0, _⟩ := bcell hq
  have Z0 : w.heap.size + 1 < wq0.heap.size := by have := hq.size; simp at this; omega
  have Y0 : w.heap.size < wq0.heap.size := by omega
  clear hq
  go_wp2_with fail
  refine (same_entry_lit z8 (S9.out.below D0.out) (T9.out.below D0.out) l9).mono ?_
  rintro e wq1 ⟨rfl, hq⟩
  have D1 : Hid (Below w.heap.size w wq1) := below_step D0.out hq
  obtain ⟨K1, _⟩ := bcell hq
  have Z1 : w.heap.size + 1 < wq1.heap.size := by have := hq.size; omega
  have Y1 : w.heap.size < wq1.heap.size := by omega
  clear hq
  go_wp2_with fail
  go_ret
  exact ⟨rfl, D1.out⟩

theorem same_note {w : World} {P P' : Nat → Prop} {cs cs' : Array Value} {xs : List Atom} (h : Vals w P cs xs) (h' : Vals w P' cs' xs) (hk : xs.map Atom.k = [0, 0, 0, 0, 0, 0, 0, 4, 0, 4, 0, 3, 0, 0, 0, 0]) :
    Calls Try.prog 10 #[.agg cs, .agg cs'] w fun e w' => e = .returned (.bool true) ∧ Below w.heap.size w w' := by
  obtain ⟨z0, p0, q0⟩ := pair_int h h' hk 0 rfl
  obtain ⟨z1, p1, q1⟩ := pair_int h h' hk 1 rfl
  obtain ⟨z2, p2, q2⟩ := pair_int h h' hk 2 rfl
  obtain ⟨z3, p3, q3⟩ := pair_int h h' hk 3 rfl
  obtain ⟨z4, p4, q4⟩ := pair_int h h' hk 4 rfl
  obtain ⟨z5, p5, q5⟩ := pair_int h h' hk 5 rfl
  obtain ⟨z6, p6, q6⟩ := pair_int h h' hk 6 rfl
  obtain ⟨a7, n7, c7, a7', c7', b7, p7, q7, s7, t7, l7⟩ := pair_bytes h h' hk 7 rfl
  obtain ⟨z8, p8, q8⟩ := pair_int h h' hk 8 rfl
  obtain ⟨a9, n9, c9, a9', c9', b9, p9, q9, s9, t9, l9⟩ := pair_bytes h h' hk 9 rfl
  obtain ⟨z10, p10, q10⟩ := pair_int h h' hk 10 rfl
  obtain ⟨z11, p11, q11⟩ := pair_str h h' hk 11 rfl
  obtain ⟨z12, p12, q12⟩ := pair_int h h' hk 12 rfl
  obtain ⟨z13, p13, q13⟩ := pair_int h h' hk 13 rfl
  obtain ⟨z14, p14, q14⟩ := pair_int h h' hk 14 rfl
  obtain ⟨z15, p15, q15⟩ := pair_int h h' hk 15 rfl
  have hs1 : cs.size = 16 := by rw [h.1]; have := congrArg List.length hk; simpa using this
  have hs2 : cs'.size = 16 := by rw [h'.1]; have := congrArg List.length hk; simpa using this
  obtain rfl : cs = #[.int .i64 z0, .int .i64 z1, .int .i64 z2, .int .i64 z3, .int .i64 z4, .int .i64 z5, .int .i64 z6, .slice a7 n7 c7, .int .i64 z8, .slice a9 n9 c9, .int .i64 z10, .string z11, .int .i64 z12, .int .i64 z13, .int .i64 z14, .int .i64 z15] := Array.ext_getElem? (fun j => match j with | 0 => p0 | 1 => p1 | 2 => p2 | 3 => p3 | 4 => p4 | 5 => p5 | 6 => p6 | 7 => p7 | 8 => p8 | 9 => p9 | 10 => p10 | 11 => p11 | 12 => p12 | 13 => p13 | 14 => p14 | 15 => p15 | j + 16 => by rw [Array.getElem?_eq_none (by omega), Array.getElem?_eq_none (by simp)])
  obtain rfl : cs' = #[.int .i64 z0, .int .i64 z1, .int .i64 z2, .int .i64 z3, .int .i64 z4, .int .i64 z5, .int .i64 z6, .slice a7' n7 c7', .int .i64 z8, .slice a9' n9 c9', .int .i64 z10, .string z11, .int .i64 z12, .int .i64 z13, .int .i64 z14, .int .i64 z15] := Array.ext_getElem? (fun j => match j with | 0 => q0 | 1 => q1 | 2 => q2 | 3 => q3 | 4 => q4 | 5 => q5 | 6 => q6 | 7 => q7 | 8 => q8 | 9 => q9 | 10 => q10 | 11 => q11 | 12 => q12 | 13 => q13 | 14 => q14 | 15 => q15 | j + 16 => by rw [Array.getElem?_eq_none (by omega), Array.getElem?_eq_none (by simp)])
  exact same_note_lit z0 z1 z2 z3 z4 z5 z6 z8 z10 z11 z12 z13 z14 z15 s7 t7 l7 s9 t9 l9
end Go.Proofs.Ytghmgomlobddfaa
