/- What Sum of package num, and the document's own, return for a list of ints that came in, at the landed code. No condition. -/
import Derived.Test.YtgmnhpelncbknaaNumSl
namespace Go.Proofs.Ytgmnhpelncbknaa
open Go.ChangeShapes Go.WideShapes Go.ChangeAt Go.RowKit
set_option linter.unusedVariables false

/-- a whole number as an answer: itself, or 0; and what is told with it -/
def tellv (z : Int) : Int := if -9223372036854775808 ≤ z ∧ z ≤ 9223372036854775807 then z else 0
def telle (z : Int) : Int := if -9223372036854775808 ≤ z ∧ z ≤ 9223372036854775807 then 0 else 10
theorem tell_in {z : Int} (h : -9223372036854775808 ≤ z ∧ z ≤ 9223372036854775807) : tellv z = z ∧ telle z = 0 := ⟨if_pos h, if_pos h⟩
theorem tell_out {z : Int} (h : ¬ (-9223372036854775808 ≤ z ∧ z ≤ 9223372036854775807)) : tellv z = 0 ∧ telle z = 10 := ⟨if_neg h, if_neg h⟩

theorem turns_bd (a b : Int) : -1 ≤ turns a b ∧ turns a b ≤ 1 := by
  unfold turns
  split
  · omega
  · split <;> omega
theorem turns_sum (a b : Int) (a1 : -9223372036854775808 ≤ a) (a2 : a ≤ 9223372036854775807) (b1 : -9223372036854775808 ≤ b) (b2 : b ≤ 9223372036854775807) : wrap64 (a + b) = a + b - 18446744073709551616 * turns a b := by
  unfold turns wrap64
  split
  · omega
  · split <;> omega
theorem wrap64_bd (a : Int) : -9223372036854775808 ≤ wrap64 a ∧ wrap64 a ≤ 9223372036854775807 := by unfold wrap64; omega

theorem sum_none (a : Option Addr) (cap : Nat) (w : World) :
    Calls Try.prog 15 #[.slice a 0 cap] w fun e w' => e = .returned (.tuple #[.int .i64 0, .int .i64 0]) ∧ w' = w := by
  go_enter Try.func15, Try.ntmps15
  go_wp2_with fail
  refine wp_loop_rounds 1 ?_
  rw [rounds_succ]
  go_wp2_with fail
  go_ret2
  exact ⟨rfl, rfl⟩

theorem sum_some (b off len cap : Nat) (zs : List Int) (w : World) (hl : zs.length = len) (hm : len * 8 ≤ 140737488351232) (hz : ints zs)
    (hcell : ∀ j, j < len → w.cell? ⟨b, off + j, none⟩ = some (.int .i64 (zs[j]?.getD 0))) :
    Calls Try.prog 15 #[.slice (some ⟨b, off, none⟩) len cap] w fun e w' => e = .returned (.tuple #[.int .i64 (tellv zs.sum), .int .i64 (telle zs.sum)]) ∧ w' = w := by
  have HZ := hide hz
  have HC := hide hcell
  have HL := hide hl
  clear hz hcell hl
  go_enter Try.func15, Try.ntmps15
  go_wp2_with fail
  go_loop [4, 5, 10, 7] (fun sv tv i _ => ∃ (k : Nat) (s t : Int), k ≤ len ∧ i = .int .i64 k ∧ sv = .int .i64 s ∧ tv = .int .i64 t ∧ -9223372036854775808 ≤ s ∧ s ≤ 9223372036854775807 ∧ Hid (s + 18446744073709551616 * t = (zs.take k).sum)) (fun _ _ i _ => len - (intOf i).toNat)
  case atStart => exact ⟨0, 0, 0, Nat.zero_le _, rfl, rfl, rfl, by omega, by omega, by show _ = _; simp⟩
  case round =>
    obtain ⟨k, s, t, hk, rfl, rfl, rfl, s0, s1, HE⟩ := hrel
    have hbd := sum_take_bd zs HZ.out k (by have := HL.out; omega)
    have t0 : -4611686018427387904 ≤ t := by have := HE.out; omega
    have t1 : t ≤ 4611686018427387904 := by have := HE.out; omega
    clear hbd
    by_cases hlt : k < len
    · have hck := HC.out k hlt
      obtain ⟨v0, v1⟩ := HZ.out k
      have HS := hide (sum_take_succ zs k (by have := HL.out; omega))
      have HT := hide (turns_sum s (zs[k]?.getD 0) s0 s1 v0 v1)
      obtain ⟨u0, u1⟩ := turns_bd s (zs[k]?.getD 0)
      have c := hide (addTurns_any s (zs[k]?.getD 0) w s0 s1 v0 v1)
      go_wp2_with fail
      refine c.out.mono ?_
      rintro e w' ⟨rfl, rfl⟩
      go_wp2_with fail
      go_round
      case rel => exact ⟨k + 1, _, _, by omega, by go_num, rfl, rfl, (wrap64_bd _).1, (wrap64_bd _).2, by show _ = _; rw [HS.out, HT.out, ← HE.out]; omega⟩
      case measure => simp [intOf]; omega
    · obtain rfl : k = len := by omega
      have HF : Hid (s + 18446744073709551616 * t = zs.sum) := by
        have := HE.out
        rw [List.take_of_length_le (by have := HL.out; omega)] at this
        exact this
      by_cases h : -9223372036854775808 ≤ zs.sum ∧ zs.sum ≤ 9223372036854775807
      · obtain rfl : t = 0 := by have := HF.out; omega
        have e1 : s = zs.sum := by have := HF.out; omega
        have H1 := hide (e1.trans (tell_in h).1.symm)
        have H2 := hide (tell_in h).2.symm
        clear h e1
        go_wp2_with fail
        go_ret2
        exact ⟨ret2 H1.out H2.out, rfl⟩
      · have ht : (t == 0) = false := by rw [beq_eq_false_iff_ne]; have := HF.out; omega
        have H1 := hide (tell_out h).1.symm
        have H2 := hide (tell_out h).2.symm
        clear h
        go_wp2_with fail
        go_ret2
        exact ⟨ret2 H1.out H2.out, rfl⟩

theorem sum_sl {a : Option Addr} {len cap : Nat} {zs : List Int} {w : World} (h : Sl w a len cap zs) :
    Calls Try.prog 15 #[.slice a len cap] w fun e w' => e = .returned (.tuple #[.int .i64 (tellv zs.sum), .int .i64 (telle zs.sum)]) ∧ w' = w := by
  by_cases h0 : 0 < len
  · obtain ⟨b, off, rfl, hc⟩ := h.cells h0
    exact sum_some b off len cap zs w h.length (by have := h.room; have := h.lecap; omega) h.isInts hc
  · obtain rfl : len = 0 := by omega
    have hz : zs = [] := List.eq_nil_of_length_eq_zero h.length
    subst hz
    exact sum_none a cap w

theorem add_any (a b : Int) (w : World) (a1 : -9223372036854775808 ≤ a) (a2 : a ≤ 9223372036854775807) (b1 : -9223372036854775808 ≤ b) (b2 : b ≤ 9223372036854775807) :
    Calls Try.prog 9 #[.int .i64 a, .int .i64 b] w fun e w' => e = .returned (.tuple #[.int .i64 (tellv (a + b)), .int .i64 (telle (a + b))]) ∧ w' = w := by
  by_cases h : -9223372036854775808 ≤ a + b ∧ a + b ≤ 9223372036854775807
  · rw [(tell_in h).1, (tell_in h).2]; exact add_yes a b w a1 a2 b1 b2 h.1 h.2
  · rw [(tell_out h).1, (tell_out h).2]; exact add_no a b w a1 a2 b1 b2 (by omega)
theorem tellv_bd (z : Int) : -9223372036854775808 ≤ tellv z ∧ tellv z ≤ 9223372036854775807 := by
  unfold tellv
  split <;> omega
end Go.Proofs.Ytgmnhpelncbknaa
