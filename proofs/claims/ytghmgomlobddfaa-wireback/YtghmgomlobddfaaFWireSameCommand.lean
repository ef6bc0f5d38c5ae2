/- The law folder's Command of two things that have the same plain fields answers true. No condition. -/
import Derived.Test.YtghmgomlobddfaaJA
namespace Go.Proofs.Ytghmgomlobddfaa
open Go.ChangeShapes Go.WideShapes Go.ChangeAt Go.RowKit B8 Cm Wm
set_option linter.unusedVariables false

set_option maxRecDepth 100000 in
set_option maxHeartbeats 4000000 in
theorem same_command_lit {w : World} (z0 : Int) (z1 : Int) (z2 : Int) (z3 : Int) (z4 : Int) (z5 : Int) (z6 : ByteArray) (z7 : Int) (z8 : Int) (z9 : Int) (z10 : Bool) (z11 : Int) (z12 : ByteArray) (z13 : ByteArray) (z14 : Int) (z15 : Int) (z16 : Int) (z17 : Int) (z18 : Int) (z19 : Int) (z20 : ByteArray) (z21 : ByteArray) (z22 : Int) (z23 : Int) {a24 a24' : Option Addr} {n24 c24 c24' : Nat} {b24 : List Int} (s24 : Sq w a24 n24 c24 b24) (t24 : Sq w a24' n24 c24' b24) (l24 : n24 ≤ 140737488351232) :
    Calls Try.prog 7 #[.agg #[.int .i64 z0, .int .i64 z1, .int .i64 z2, .int .i64 z3, .int .i64 z4, .int .i64 z5, .string z6, .int .i64 z7, .int .i64 z8, .int .i64 z9, .bool z10, .int .i64 z11, .string z12, .string z13, .int .i64 z14, .int .i64 z15, .int .i64 z16, .int .i64 z17, .int .i64 z18, .int .i64 z19, .string z20, .string z21, .int .i64 z22, .int .i64 z23, .slice a24 n24 c24], .agg #[.int .i64 z0, .int .i64 z1, .int .i64 z2, .int .i64 z3, .int .i64 z4, .int .i64 z5, .string z6, .int .i64 z7, .int .i64 z8, .int .i64 z9, .bool z10, .int .i64 z11, .string z12, .string z13, .int .i64 z14, .int .i64 z15, .int .i64 z16, .int .i64 z17, .int .i64 z18, .int .i64 z19, .string z20, .string z21, .int .i64 z22, .int .i64 z23, .slice a24' n24 c24']] w fun e w' => e = .returned (.bool true) ∧ Below w.heap.size w w' := by
  have B2 := hide (below_alloc (below_alloc (Below.refl w.heap.size w) (.cells #[.int .i64 z0, .int .i64 z1, .int .i64 z2, .int .i64 z3, .int .i64 z4, .int .i64 z5, .string z6, .int .i64 z7, .int .i64 z8, .int .i64 z9, .bool z10, .int .i64 z11, .string z12, .string z13, .int .i64 z14, .int .i64 z15, .int .i64 z16, .int .i64 z17, .int .i64 z18, .int .i64 z19, .string z20, .string z21, .int .i64 z22, .int .i64 z23, .slice a24 n24 c24] 28)) (.cells #[.int .i64 z0, .int .i64 z1, .int .i64 z2, .int .i64 z3, .int .i64 z4, .int .i64 z5, .string z6, .int .i64 z7, .int .i64 z8, .int .i64 z9, .bool z10, .int .i64 z11, .string z12, .string z13, .int .i64 z14, .int .i64 z15, .int .i64 z16, .int .i64 z17, .int .i64 z18, .int .i64 z19, .string z20, .string z21, .int .i64 z22, .int .i64 z23, .slice a24' n24 c24'] 28))
  have S24 := hide s24
  have T24 := hide t24
  clear s24 t24
  go_enter Try.func7, Try.ntmps7
  go_wp2_with fail
  refine (bytes_sq (S24.out.below B2.out) (T24.out.below B2.out) (by omega)).mono ?_
  rintro e wq0 ⟨rfl, m0, hq⟩
  have D0 : Hid (Below w.heap.size w wq0) := by rw [hq]; exact below_drewN B2.out m0
  have K0 : ∀ b o, wq0.cell? ⟨b, o, none⟩ = ((w.alloc (.cells #[.int .i64 z0, .int .i64 z1, .int .i64 z2, .int .i64 z3, .int .i64 z4, .int .i64 z5, .string z6, .int .i64 z7, .int .i64 z8, .int .i64 z9, .bool z10, .int .i64 z11, .string z12, .string z13, .int .i64 z14, .int .i64 z15, .int .i64 z16, .int .i64 z17, .int .i64 z18, .int .i64 z19, .string z20, .string z21, .int .i64 z22, .int .i64 z23, .slice a24 n24 c24] 28)).alloc (.cells #[.int .i64 z0, .int .i64 z1, .int .i64 z2, .int .i64 z3, .int .i64 z4, .int .i64 z5, .string z6, .int .i64 z7, .int .i64 z8, .int .i64 z9, .bool z10, .int .i64 z11, .string z12, .string z13, .int .i64 z14, .int .i64 z15, .int .i64 z16, .int .i64 z17, .int .i64 z18, .int .i64 z19, .string z20, .string z21, .int .i64 z22, .int .i64 z23, .slice a24' n24 c24'] 28)).cell? ⟨b, o, none⟩ := fun b o => by rw [hq]; rfl
  clear hq
  go_wp2_with fail
  go_ret
  exact ⟨rfl, D0.out⟩

theorem same_command {w : World} {P P' : Nat → Prop} {cs cs' : Array Value} {xs : List Atom} (h : Vals w P cs xs) (h' : Vals w P' cs' xs) (hk : xs.map Atom.k = [0, 0, 0, 0, 0, 0, 3, 0, 0, 0, 2, 0, 3, 3, 0, 0, 0, 0, 0, 0, 3, 3, 0, 0, 4]) :
    Calls Try.prog 7 #[.agg cs, .agg cs'] w fun e w' => e = .returned (.bool true) ∧ Below w.heap.size w w' := by
  obtain ⟨z0, p0, q0⟩ := pair_int h h' hk 0 rfl
  obtain ⟨z1, p1, q1⟩ := pair_int h h' hk 1 rfl
  obtain ⟨z2, p2, q2⟩ := pair_int h h' hk 2 rfl
  obtain ⟨z3, p3, q3⟩ := pair_int h h' hk 3 rfl
  obtain ⟨z4, p4, q4⟩ := pair_int h h' hk 4 rfl
  obtain ⟨z5, p5, q5⟩ := pair_int h h' hk 5 rfl
  obtain ⟨z6, p6, q6⟩ := pair_str h h' hk 6 rfl
  obtain ⟨z7, p7, q7⟩ := pair_int h h' hk 7 rfl
  obtain ⟨z8, p8, q8⟩ := pair_int h h' hk 8 rfl
  obtain ⟨z9, p9, q9⟩ := pair_int h h' hk 9 rfl
  obtain ⟨z10, p10, q10⟩ := pair_bool h h' hk 10 rfl
  obtain ⟨z11, p11, q11⟩ := pair_int h h' hk 11 rfl
  obtain ⟨z12, p12, q12⟩ := pair_str h h' hk 12 rfl
  obtain ⟨z13, p13, q13⟩ := pair_str h h' hk 13 rfl
  obtain ⟨z14, p14, q14⟩ := pair_int h h' hk 14 rfl
  obtain ⟨z15, p15, q15⟩ := pair_int h h' hk 15 rfl
  obtain ⟨z16, p16, q16⟩ := pair_int h h' hk 16 rfl
  obtain ⟨z17, p17, q17⟩ := pair_int h h' hk 17 rfl
  obtain ⟨z18, p18, q18⟩ := pair_int h h' hk 18 rfl
  obtain ⟨z19, p19, q19⟩ := pair_int h h' hk 19 rfl
  obtain ⟨z20, p20, q20⟩ := pair_str h h' hk 20 rfl
  obtain ⟨z21, p21, q21⟩ := pair_str h h' hk 21 rfl
  obtain ⟨z22, p22, q22⟩ := pair_int h h' hk 22 rfl
  obtain ⟨z23, p23, q23⟩ := pair_int h h' hk 23 rfl
  obtain ⟨a24, n24, c24, a24', c24', b24, p24, q24, s24, t24, l24⟩ := pair_bytes h h' hk 24 rfl
  have hs1 : cs.size = 25 := by rw [h.1]; have := congrArg List.length hk; simpa using this
  have hs2 : cs'.size = 25 := by rw [h'.1]; have := congrArg List.length hk; simpa using this
  obtain rfl : cs = #[.int .i64 z0, .int .i64 z1, .int .i64 z2, .int .i64 z3, .int .i64 z4, .int .i64 z5, .string z6, .int .i64 z7, .int .i64 z8, .int .i64 z9, .bool z10, .int .i64 z11, .string z12, .string z13, .int .i64 z14, .int .i64 z15, .int .i64 z16, .int .i64 z17, .int .i64 z18, .int .i64 z19, .string z20, .string z21, .int .i64 z22, .int .i64 z23, .slice a24 n24 c24] := Array.ext_getElem? (fun j => match j with | 0 => p0 | 1 => p1 | 2 => p2 | 3 => p3 | 4 => p4 | 5 => p5 | 6 => p6 | 7 => p7 | 8 => p8 | 9 => p9 | 10 => p10 | 11 => p11 | 12 => p12 | 13 => p13 | 14 => p14 | 15 => p15 | 16 => p16 | 17 => p17 | 18 => p18 | 19 => p19 | 20 => p20 | 21 => p21 | 22 => p22 | 23 => p23 | 24 => p24 | j + 25 => by rw [Array.getElem?_eq_none (by omega), Array.getElem?_eq_none (by simp)])
  obtain rfl : cs' = #[.int .i64 z0, .int .i64 z1, .int .i64 z2, .int .i64 z3, .int .i64 z4, .int .i64 z5, .string z6, .int .i64 z7, .int .i64 z8, .int .i64 z9, .bool z10, .int .i64 z11, .string z12, .string z13, .int .i64 z14, .int .i64 z15, .int .i64 z16, .int .i64 z17, .int .i64 z18, .int .i64 z19, .string z20, .string z21, .int .i64 z22, .int .i64 z23, .slice a24' n24 c24'] := Array.ext_getElem? (fun j => match j with | 0 => q0 | 1 => q1 | 2 => q2 | 3 => q3 | 4 => q4 | 5 => q5 | 6 => q6 | 7 => q7 | 8 => q8 | 9 => q9 | 10 => q10 | 11 => q11 | 12 => q12 | 13 => q13 | 14 => q14 | 15 => q15 | 16 => q16 | 17 => q17 | 18 => q18 | 19 => q19 | 20 => q20 | 21 => q21 | 22 => q22 | 23 => q23 | 24 => q24 | j + 25 => by rw [Array.getElem?_eq_none (by omega), Array.getElem?_eq_none (by simp)])
  exact same_command_lit z0 z1 z2 z3 z4 z5 z6 z7 z8 z9 z10 z11 z12 z13 z14 z15 z16 z17 z18 z19 z20 z21 z22 z23 s24 t24 l24
end Go.Proofs.Ytghmgomlobddfaa
