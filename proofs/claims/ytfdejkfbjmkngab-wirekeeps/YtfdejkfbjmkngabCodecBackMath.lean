/- What is written is read; what is read, written again, is the same bytes: of numbers and ints as plain functions. No Go in sight. -/
import Derived.Test.YtfdejkfbjmkngabCodecRdMath
namespace Go.Proofs.Ytfdejkfbjmkngab
namespace Cm
set_option linter.unusedVariables false

theorem pow_next (k : Nat) : 2 ^ (7 * (k + 1)) = 128 * 2 ^ (7 * k) := by rw [Nat.mul_add, Nat.pow_add, Nat.mul_comm]

theorem numG_numF : ∀ (f k x acc : Nat) (rest : List Int), f + k = 9 → (0 < k → 0 < x) → x * 2 ^ (7 * k) < 18446744073709551616 →
    numG (numF f x ++ rest) k acc = ⟨acc + x * 2 ^ (7 * k), k + (numF f x).length, 0⟩
  | 0, k, x, acc, rest, hk, h0, hx => by
    obtain rfl : k = 9 := by omega
    have hx1 : x ≤ 1 := by
      have : x * 9223372036854775808 < 18446744073709551616 := hx
      omega
    have hx0 := h0 (by omega)
    show numG ((x : Int) :: rest) 9 acc = _
    rw [numG_done _ _ _ _ (by omega) (by omega)]
    rw [show ((x : Int) % 128).toNat = x by omega]
    rfl
  | f + 1, k, x, acc, rest, hk, h0, hx => by
    by_cases h : x ≤ 127
    · rw [numF_end _ _ h]
      show numG ((x : Int) :: rest) k acc = _
      rw [numG_done _ _ _ _ (by omega) (by omega)]
      rw [show ((x : Int) % 128).toNat = x by omega]
      rfl
    · rw [numF_more _ _ h]
      show numG (((x : Int) % 128 + 128) :: (numF f (x / 128) ++ rest)) k acc = _
      rw [numG_more _ _ _ _ (by omega) (by omega)]
      have hd : x = x % 128 + 128 * (x / 128) := (Nat.mod_add_div x 128).symm
      have hx' : x / 128 * 2 ^ (7 * (k + 1)) < 18446744073709551616 := by
        rw [pow_next, ← Nat.mul_assoc]
        exact Nat.lt_of_le_of_lt (Nat.mul_le_mul_right _ (by omega)) hx
      rw [numG_numF f (k + 1) (x / 128) _ rest (by omega) (fun _ => by omega) hx']
      rw [show (((x : Int) % 128 + 128) % 128).toNat = x % 128 by omega]
      rw [pow_next]
      have e : acc + x % 128 * 2 ^ (7 * k) + x / 128 * (128 * 2 ^ (7 * k)) = acc + x * 2 ^ (7 * k) := by
        generalize 2 ^ (7 * k) = P
        have : x * P = (x % 128 + 128 * (x / 128)) * P := by rw [← hd]
        rw [this, Nat.add_mul, Nat.add_assoc, Nat.mul_comm 128 (x / 128), Nat.mul_assoc]
      rw [e]
      simp
      omega

/-- a number's bytes are read as it, whatever stands behind them -/
theorem numG_numB (v : Nat) (hv : v < 18446744073709551616) (rest : List Int) : numG (numB v ++ rest) 0 0 = ⟨v, (numB v).length, 0⟩ := by
  have := numG_numF 9 0 v 0 rest rfl (fun h => absurd h (by omega)) (by simpa using hv)
  rw [show numB v = numF 9 v from rfl, this]
  simp

theorem numF_numG : ∀ (r : List Int) (k acc : Nat), k ≤ 9 → (∀ x ∈ r, 0 ≤ x ∧ x ≤ 255) → (numG r k acc).e = 0 →
    ∃ x, (numG r k acc).v = acc + x * 2 ^ (7 * k) ∧ r.take ((numG r k acc).used - k) = numF (9 - k) x ∧ (0 < k → 0 < x)
  | [], k, acc, _, _, h => absurd (show (20 : Int) = 0 from h) (by decide)
  | c :: r, k, acc, hk, hb, h => by
    have hc := hb c (by simp)
    by_cases h1 : (k = 9 ∧ 1 < c) ∨ (0 < k ∧ c = 0)
    · rw [numG_form _ _ _ _ h1] at h; exact absurd h (by decide)
    · by_cases h2 : c < 128
      · rw [numG_done _ _ _ _ h1 h2]
        refine ⟨c.toNat, ?_, ?_, fun h => by omega⟩
        · show acc + (c % 128).toNat * _ = _
          rw [show (c % 128).toNat = c.toNat by omega]
        · show (c :: r).take (k + 1 - k) = _
          rw [Nat.add_sub_cancel_left, numF_end _ _ (by omega)]
          show [c] = [((c.toNat : Nat) : Int)]
          rw [Int.toNat_of_nonneg hc.1]
      · rw [numG_more _ _ _ _ h1 h2] at h ⊢
        have hk8 : k ≤ 8 := by omega
        obtain ⟨x, e1, e2, e3⟩ := numF_numG r (k + 1) _ (by omega) (fun y hy => hb y (by simp [hy])) h
        have hu := (numG_used _ _ _ h).1
        have hx := e3 (by omega)
        have hcn : (c % 128).toNat = (c - 128).toNat := by omega
        refine ⟨(c - 128).toNat + 128 * x, ?_, ?_, fun _ => by omega⟩
        · rw [e1, hcn, pow_next]
          generalize 2 ^ (7 * k) = P
          rw [Nat.add_mul, Nat.add_assoc, Nat.mul_comm 128 x, Nat.mul_assoc]
        · obtain ⟨u, eu⟩ : ∃ u, (numG r (k + 1) (acc + (c % 128).toNat * 2 ^ (7 * k))).used = u + (k + 1) := ⟨_, (Nat.sub_add_cancel (by omega)).symm⟩
          rw [eu] at e2 ⊢
          rw [Nat.add_sub_cancel] at e2
          rw [show u + (k + 1) - k = u + 1 by omega, List.take_succ_cons, e2, show 9 - k = (9 - (k + 1)) + 1 by omega, numF_more _ _ (by omega)]
          rw [show ((c - 128).toNat + 128 * x) / 128 = x by omega]
          congr 1
          omega

/-- what is read as a number, written again, is these bytes -/
theorem numB_numG (r : List Int) (hb : ∀ x ∈ r, 0 ≤ x ∧ x ≤ 255) (h : (numG r 0 0).e = 0) : r.take (numG r 0 0).used = numB (numG r 0 0).v := by
  obtain ⟨x, e1, e2, _⟩ := numF_numG r 0 0 (by omega) hb h
  rw [Nat.sub_zero] at e2
  rw [e2, e1]
  simp [numB]

theorem zag_zig (n : Int) : zag (zig n) = n := by
  unfold zag
  by_cases h : 0 ≤ n
  · rw [zig_up _ h, if_neg (by omega)]; omega
  · rw [zig_down _ h, if_pos (by omega)]; omega
theorem zig_zag (v : Nat) : zig (zag v) = v := by
  by_cases h : v % 2 = 1
  · have e : zag v = -((v / 2 : Nat) : Int) - 1 := if_pos h
    rw [e, zig_down _ (by omega)]; omega
  · have e : zag v = ((v / 2 : Nat) : Int) := if_neg h
    rw [e, zig_up _ (by omega)]; omega
theorem zig_lt (n : Int) (h1 : -9223372036854775808 ≤ n) (h2 : n ≤ 9223372036854775807) : zig n < 18446744073709551616 := by
  by_cases h : 0 ≤ n
  · rw [zig_up _ h]; omega
  · rw [zig_down _ h]; omega
theorem numB_length (v : Nat) : 1 ≤ (numB v).length ∧ (numB v).length ≤ 10 := numF_length 9 v
end Cm
end Go.Proofs.Ytfdejkfbjmkngab
