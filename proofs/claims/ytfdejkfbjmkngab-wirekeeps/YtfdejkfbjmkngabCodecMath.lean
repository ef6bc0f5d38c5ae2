/- Numbers as bytes, as plain functions on lists, and what follows of them. No Go in sight. -/
namespace Go.Proofs.Ytfdejkfbjmkngab
namespace Cm
set_option linter.unusedVariables false

/-- seven bits a byte, the lowest first (f: how many bytes may still have their highest bit set) -/
def numF : Nat → Nat → List Int
  | 0, v => [(v : Int)]
  | f + 1, v => if v ≤ 127 then [(v : Int)] else ((v : Int) % 128 + 128) :: numF f (v / 128)
def numB (v : Nat) : List Int := numF 9 v

theorem numF_end (f v : Nat) (h : v ≤ 127) : numF f v = [(v : Int)] := by
  cases f with
  | zero => rfl
  | succ f => show (if v ≤ 127 then _ else _) = _; rw [if_pos h]
theorem numF_more (f v : Nat) (h : ¬ v ≤ 127) : numF (f + 1) v = ((v : Int) % 128 + 128) :: numF f (v / 128) := by
  show (if v ≤ 127 then _ else _) = _; rw [if_neg h]
theorem numF_length (f v : Nat) : 1 ≤ (numF f v).length ∧ (numF f v).length ≤ f + 1 := by
  induction f generalizing v with
  | zero => exact ⟨Nat.le_refl _, Nat.le_refl _⟩
  | succ f ih =>
    by_cases h : v ≤ 127
    · rw [numF_end _ _ h]; simp
    · rw [numF_more _ _ h]; have := ih (v / 128); simp; omega
theorem numF_bytes (f v : Nat) (h : v < 128 ^ (f + 1)) : ∀ x ∈ numF f v, 0 ≤ x ∧ x ≤ 255 := by
  induction f generalizing v with
  | zero =>
    intro x hx
    have hv : v < 128 := by simpa using h
    rw [show numF 0 v = [(v : Int)] from rfl, List.mem_singleton] at hx
    omega
  | succ f ih =>
    intro x hx
    by_cases hv : v ≤ 127
    · rw [numF_end _ _ hv, List.mem_singleton] at hx
      omega
    · rw [numF_more _ _ hv, List.mem_cons] at hx
      rcases hx with hx | hx
      · omega
      · exact ih (v / 128) (by rw [Nat.pow_succ] at h; exact Nat.div_lt_of_lt_mul (by rw [Nat.mul_comm]; exact h)) x hx

/-- an int as a number -/
def zig (n : Int) : Nat := if 0 ≤ n then (2 * n).toNat else (2 * -(n + 1) + 1).toNat
theorem zig_up (n : Int) (h : 0 ≤ n) : zig n = (2 * n).toNat := if_pos h
theorem zig_down (n : Int) (h : ¬ 0 ≤ n) : zig n = (2 * -(n + 1) + 1).toNat := if_neg h

/-- what a number's bytes are read as, from the k-th one on: the number, how many bytes it has, the fault -/
structure NumR where
  v : Nat
  used : Nat
  e : Int
/-- the place behind a number, or 0 -/
def numTo (at_ : Nat) (r : NumR) : Int := if r.e = 0 then ((at_ + r.used : Nat) : Int) else 0
def numG : List Int → Nat → Nat → NumR
  | [], _, _ => ⟨0, 0, 20⟩
  | c :: r, k, v => if (k = 9 ∧ 1 < c) ∨ (0 < k ∧ c = 0) then ⟨0, 0, 21⟩ else if c < 128 then ⟨v + (c % 128).toNat * 2 ^ (7 * k), k + 1, 0⟩ else numG r (k + 1) (v + (c % 128).toNat * 2 ^ (7 * k))
theorem numG_nil (k v : Nat) : numG [] k v = ⟨0, 0, 20⟩ := rfl
theorem numG_form (c : Int) (r : List Int) (k v : Nat) (h : (k = 9 ∧ 1 < c) ∨ (0 < k ∧ c = 0)) : numG (c :: r) k v = ⟨0, 0, 21⟩ := if_pos h
theorem numG_done (c : Int) (r : List Int) (k v : Nat) (h : ¬ ((k = 9 ∧ 1 < c) ∨ (0 < k ∧ c = 0))) (hc : c < 128) : numG (c :: r) k v = ⟨v + (c % 128).toNat * 2 ^ (7 * k), k + 1, 0⟩ := (if_neg h).trans (if_pos hc)
theorem numG_more (c : Int) (r : List Int) (k v : Nat) (h : ¬ ((k = 9 ∧ 1 < c) ∨ (0 < k ∧ c = 0))) (hc : ¬ c < 128) : numG (c :: r) k v = numG r (k + 1) (v + (c % 128).toNat * 2 ^ (7 * k)) := (if_neg h).trans (if_neg hc)

theorem acc_bd (vv k d : Nat) (hd : d ≤ 127) (hv : vv < 2 ^ (7 * k)) (hk : k ≤ 8 ∨ (k = 9 ∧ d ≤ 1)) : d * 2 ^ (7 * k) < 18446744073709551616 ∧ vv + d * 2 ^ (7 * k) < 18446744073709551616 ∧ vv + d * 2 ^ (7 * k) < 2 ^ (7 * (k + 1)) := by
  obtain ⟨P, hP⟩ : ∃ P, P = 2 ^ (7 * k) := ⟨_, rfl⟩
  have h1 : d * P ≤ 127 * P := Nat.mul_le_mul_right P hd
  have h2 : 2 ^ (7 * (k + 1)) = P * 128 := by rw [hP, Nat.mul_add, Nat.pow_add]
  rw [h2, ← hP]
  rw [← hP] at hv
  rcases hk with hk | ⟨rfl, hd1⟩
  · have h3 : P ≤ 2 ^ 56 := by rw [hP]; exact Nat.pow_le_pow_right (by omega) (by omega)
    omega
  · have h4 : d * P ≤ 1 * P := Nat.mul_le_mul_right P hd1
    have h5 : P = 9223372036854775808 := hP
    omega
end Cm
end Go.Proofs.Ytfdejkfbjmkngab
