/- What the document's own sums of 128 bits (purseref01: Less, Int, told) return, at the landed code. Conditions: the sums stay far within 128 bits. -/
import Derived.Test.YtgmnhpelncbknaaNumWide
namespace Go.Proofs.Ytgmnhpelncbknaa
open Go.ChangeShapes Go.WideShapes Go.ChangeAt Go.RowKit
set_option linter.unusedVariables false

theorem not64 (n : Int) (n0 : -9223372036854775808 ≤ n) (n1 : n ≤ 9223372036854775807) : bits .xor .i64 (-1) n = -1 - n := by
  show IntKind.i64.wrap ((BitVec.ofInt 64 (-1) ^^^ BitVec.ofInt 64 n).toNat : Int) = _
  have h1 : BitVec.ofInt 64 (-1) = BitVec.allOnes 64 := by decide
  rw [h1, BitVec.allOnes_xor, BitVec.toNat_not, BitVec.toNat_ofInt]
  simp [IntKind.wrap, IntKind.bits, IntKind.signed]
  omega

theorem int_a (hi lo : Int) (w : World) (l0 : 0 ≤ lo) (h : (hi == 0) = true) (hl : lo < 9223372036854775808) :
    Calls Try.prog 36 #[.agg #[.int .i64 hi, .int .u64 lo]] w fun e w' => e = .returned (.tuple #[.int .i64 lo, .bool true]) ∧ Below w.heap.size w w' := by
  have hd : decide (lo < 9223372036854775808) = true := by simpa using hl
  go_enter Try.func36, Try.ntmps36
  go_wp2_with fail
  go_quiet (fail)
  go_wp2_with fail
  go_ret2
  exact ⟨rfl, below_drewN (Below.alloc (Below.refl _ _) (by simp) _) _⟩

theorem int_b (hi lo v : Int) (w : World) (l0 : 0 ≤ lo) (h0 : (hi == 0) = false) (h : (hi == -1) = true) (hl : 9223372036854775808 ≤ lo) (hv : wrap64 lo = v) :
    Calls Try.prog 36 #[.agg #[.int .i64 hi, .int .u64 lo]] w fun e w' => e = .returned (.tuple #[.int .i64 v, .bool true]) ∧ Below w.heap.size w w' := by
  have hd : decide (9223372036854775808 ≤ lo) = true := by simpa using hl
  have H := hide hv
  clear hv
  go_enter Try.func36, Try.ntmps36
  go_wp2_with fail
  go_quiet (fail)
  go_wp2_with fail
  go_ret2
  refine ⟨?_, below_drewN (Below.alloc (Below.refl _ _) (by simp) _) _⟩
  show Ending.returned (.tuple #[.int .i64 (wrap64 lo), .bool true]) = _
  rw [H.out]

theorem int_c (hi lo : Int) (w : World) (l0 : 0 ≤ lo) (h0 : (hi == 0) = true) (h : (hi == -1) = false) (hl : 9223372036854775808 ≤ lo) :
    Calls Try.prog 36 #[.agg #[.int .i64 hi, .int .u64 lo]] w fun e w' => (∃ v, e = .returned (.tuple #[.int .i64 v, .bool false])) ∧ Below w.heap.size w w' := by
  have hd : decide (lo < 9223372036854775808) = false := by simpa using hl
  go_enter Try.func36, Try.ntmps36
  go_wp2_with fail
  go_quiet (fail)
  go_wp2_with fail
  go_ret2
  exact ⟨⟨_, rfl⟩, below_drewN (Below.alloc (Below.refl _ _) (by simp) _) _⟩

theorem int_d (hi lo : Int) (w : World) (l0 : 0 ≤ lo) (h0 : (hi == 0) = false) (h : (hi == -1) = true) (hl : lo < 9223372036854775808) :
    Calls Try.prog 36 #[.agg #[.int .i64 hi, .int .u64 lo]] w fun e w' => (∃ v, e = .returned (.tuple #[.int .i64 v, .bool false])) ∧ Below w.heap.size w w' := by
  have hd : decide (9223372036854775808 ≤ lo) = false := by simpa using hl
  go_enter Try.func36, Try.ntmps36
  go_wp2_with fail
  go_quiet (fail)
  go_wp2_with fail
  go_ret2
  exact ⟨⟨_, rfl⟩, below_drewN (Below.alloc (Below.refl _ _) (by simp) _) _⟩

theorem int_e (hi lo : Int) (w : World) (h0 : (hi == 0) = false) (h : (hi == -1) = false) :
    Calls Try.prog 36 #[.agg #[.int .i64 hi, .int .u64 lo]] w fun e w' => (∃ v, e = .returned (.tuple #[.int .i64 v, .bool false])) ∧ Below w.heap.size w w' := by
  go_enter Try.func36, Try.ntmps36
  go_wp2_with fail
  go_quiet (fail)
  go_wp2_with fail
  go_ret2
  exact ⟨⟨_, rfl⟩, below_drewN (Below.alloc (Below.refl _ _) (by simp) _) _⟩

theorem int_yes (z : Int) (w : World) (h1 : -9223372036854775808 ≤ z) (h2 : z ≤ 9223372036854775807) :
    Calls Try.prog 36 #[.agg #[.int .i64 (hiOf z), .int .u64 (loOf z)]] w fun e w' => e = .returned (.tuple #[.int .i64 z, .bool true]) ∧ Below w.heap.size w w' := by
  by_cases h : 0 ≤ z
  · have e1 : loOf z = z := by unfold loOf; omega
    have := int_a (hiOf z) (loOf z) w (loOf_bd z).1 (by rw [beq_iff_eq]; unfold hiOf; omega) (by omega)
    rw [show (Value.int .i64 (loOf z)) = .int .i64 z from by rw [e1]] at this
    exact this
  · exact int_b (hiOf z) (loOf z) z w (loOf_bd z).1 (by rw [beq_eq_false_iff_ne]; unfold hiOf; omega) (by rw [beq_iff_eq]; unfold hiOf; omega) (by unfold loOf; omega) (by unfold wrap64 loOf; omega)

theorem int_no (z : Int) (w : World) (h : z < -9223372036854775808 ∨ 9223372036854775807 < z) :
    Calls Try.prog 36 #[.agg #[.int .i64 (hiOf z), .int .u64 (loOf z)]] w fun e w' => (∃ v, e = .returned (.tuple #[.int .i64 v, .bool false])) ∧ Below w.heap.size w w' := by
  by_cases h0 : hiOf z = 0
  · exact int_c (hiOf z) (loOf z) w (loOf_bd z).1 (by rw [beq_iff_eq]; exact h0) (by rw [beq_eq_false_iff_ne]; omega) (by unfold hiOf at h0; unfold loOf; omega)
  · by_cases h1 : hiOf z = -1
    · exact int_d (hiOf z) (loOf z) w (loOf_bd z).1 (by rw [beq_eq_false_iff_ne]; exact h0) (by rw [beq_iff_eq]; exact h1) (by unfold hiOf at h1; unfold loOf; omega)
    · exact int_e (hiOf z) (loOf z) w (by rw [beq_eq_false_iff_ne]; exact h0) (by rw [beq_eq_false_iff_ne]; exact h1)

theorem told_yes (z : Int) (w : World) (h1 : -9223372036854775808 ≤ z) (h2 : z ≤ 9223372036854775807) :
    Calls Try.prog 32 #[.agg #[.int .i64 (hiOf z), .int .u64 (loOf z)]] w fun e w' => e = .returned (.tuple #[.int .i64 z, .int .i64 0]) ∧ Below w.heap.size w w' := by
  have c := hide (fun w => int_yes z w h1 h2)
  go_enter Try.func32, Try.ntmps32
  go_wp2_with fail
  refine (c.out _).mono ?_
  rintro e w1 ⟨rfl, hb1⟩
  go_wp2_with fail
  go_ret2
  exact ⟨rfl, Below.trans (Below.alloc (Below.refl _ _) (by simp) _) (hb1.mono (by simp))⟩

theorem told_no (z : Int) (w : World) (h : z < -9223372036854775808 ∨ 9223372036854775807 < z) :
    Calls Try.prog 32 #[.agg #[.int .i64 (hiOf z), .int .u64 (loOf z)]] w fun e w' => e = .returned (.tuple #[.int .i64 0, .int .i64 10]) ∧ Below w.heap.size w w' := by
  have c := hide (fun w => int_no z w h)
  clear h
  go_enter Try.func32, Try.ntmps32
  go_wp2_with fail
  refine (c.out _).mono ?_
  rintro e w1 ⟨⟨v, rfl⟩, hb1⟩
  go_wp2_with fail
  go_ret2
  exact ⟨rfl, Below.trans (Below.alloc (Below.refl _ _) (by simp) _) (hb1.mono (by simp))⟩

theorem less_any (z n : Int) (w : World) (z0 : -4611686018427387903 ≤ hiOf z) (z1 : hiOf z ≤ 4611686018427387903) (n0 : -9223372036854775808 ≤ n) (n1 : n ≤ 9223372036854775807) :
    Calls Try.prog 34 #[.agg #[.int .i64 (hiOf z), .int .u64 (loOf z)], .int .i64 n] w fun e w' => e = .returned (.agg #[.int .i64 (hiOf (z - n)), .int .u64 (loOf (z - n))]) ∧ Below w.heap.size w w' := by
  have hs : IntKind.i64.signed = true := rfl
  have hx := not64 n n0 n1
  have c1 := hide (fun w => plus_any z (-1 - n) w (by omega) (by omega) (by omega) (by omega))
  have c2 : Hid (∀ w, Calls Try.prog 37 #[.agg #[.int .i64 (hiOf (z + (-1 - n))), .int .u64 (loOf (z + (-1 - n)))], .int .i64 1] w fun e w' => e = .returned (.agg #[.int .i64 (hiOf (z - n)), .int .u64 (loOf (z - n))]) ∧ Below w.heap.size w w') := by
    intro w
    have := plus_any (z + (-1 - n)) 1 w (by unfold hiOf at *; omega) (by unfold hiOf at *; omega) (by omega) (by omega)
    rw [show z + (-1 - n) + 1 = z - n from by omega] at this
    exact this
  go_enter Try.func34, Try.ntmps34
  go_wp2_with fail
  refine (c1.out _).mono ?_
  rintro e w1 ⟨rfl, hb1⟩
  have hz1 : w.heap.size + 1 < w1.heap.size := by have := hb1.size; simp at this; omega
  go_wp2_with fail
  refine (c2.out _).mono ?_
  rintro e w2 ⟨rfl, hb2⟩
  have hz2 : w.heap.size + 1 < w2.heap.size := by have := hb2.size; omega
  have hc : ∀ o, w2.cell? ⟨w.heap.size + 1, o, none⟩ = ((w.alloc (.cells #[.int .i64 (hiOf z), .int .u64 (loOf z)] 52)).alloc (.cells #[.int .i64 0, .int .u64 0] 52)).cell? ⟨w.heap.size + 1, o, none⟩ := fun o => by
    rw [hb2.cell (p := ⟨w.heap.size + 1, o, none⟩) hz1, hb1.cell (p := ⟨w.heap.size + 1, o, none⟩) (by simp)]
  have hf : ∀ o, w2.frozen? ⟨w.heap.size + 1, o, none⟩ = ((w.alloc (.cells #[.int .i64 (hiOf z), .int .u64 (loOf z)] 52)).alloc (.cells #[.int .i64 0, .int .u64 0] 52)).frozen? ⟨w.heap.size + 1, o, none⟩ := fun o => by
    rw [hb2.frozen (p := ⟨w.heap.size + 1, o, none⟩) hz1, hb1.frozen (p := ⟨w.heap.size + 1, o, none⟩) (by simp)]
  go_wp2_with fail
  refine bodyPost_ret (v := .agg #[.int .i64 (hiOf (z - n)), .int .u64 (loOf (z - n))]) (by simp [results, Try.results34, go_sem, hc]) rfl ⟨rfl, ?_⟩
  refine Below.setCell (Below.setCell ?_ (by simp) _) (by simp) _
  refine Below.trans ?_ (hb2.mono (B' := w.heap.size) (by omega))
  refine Below.trans ?_ (hb1.mono (B' := w.heap.size) (by simp; omega))
  exact Below.alloc (Below.alloc (Below.refl _ _) (by simp) _) (by simp) _
end Go.Proofs.Ytgmnhpelncbknaa
