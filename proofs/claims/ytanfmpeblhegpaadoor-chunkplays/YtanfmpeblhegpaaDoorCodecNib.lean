/- The sum of bytes, half byte by half byte out of a table of sixteen numbers, is the sum bit by bit. No Go in sight. -/
import Derived.Test.YtanfmpeblhegpaaDoorCodecCrc
namespace Go.Proofs.YtanfmpeblhegpaaDoor
namespace Crc
set_option linter.unusedVariables false

/-- bits as a number -/
def val (f : Nat → Nat) : Nat → Nat
  | 0 => 0
  | k + 1 => val f k ^^^ f k * 2 ^ k
theorem run_val (c : Nat) (f : Nat → Nat) (hf : ∀ i, f i ≤ 1) (k : Nat) : run c f k = Zs k (c ^^^ val f k) := by
  induction k with
  | zero => show c = c ^^^ 0; rw [Nat.xor_zero]
  | succ k ih =>
    show step _ _ = Z (Zs k (c ^^^ (val f k ^^^ f k * 2 ^ k)))
    rw [step_Z _ _ (hf k), ih, ← Nat.xor_assoc, Zs_xor k _ (f k * 2 ^ k)]
    congr 2
    have := hf k
    rcases (show f k = 0 ∨ f k = 1 by omega) with e | e
    · rw [e, Nat.zero_mul, Zs_zero]
    · rw [e, Nat.one_mul, Zs_pow k k (Nat.le_refl _), Nat.sub_self]
theorem run_split (c : Nat) (f : Nat → Nat) (p k : Nat) : run c f (p + k) = run (run c f p) (fun i => f (p + i)) k := by
  induction k with
  | zero => rfl
  | succ k ih => show step (run c f (p + k)) _ = step _ _; rw [ih]; rfl
theorem run_congr (c : Nat) (f g : Nat → Nat) (n : Nat) (h : ∀ i, i < n → f i = g i) : run c f n = run c g n := run_alike c f g n h

theorem Zs_four (c : Nat) : Zs 4 (16 * c) = c := by
  have h : ∀ d, Z (2 * d) = d := fun d => by unfold Z; rw [if_neg (by omega)]; omega
  show Z (Z (Z (Z (16 * c)))) = c
  rw [show 16 * c = 2 * (8 * c) by omega, h, show 8 * c = 2 * (4 * c) by omega, h, show 4 * c = 2 * (2 * c) by omega, h, h]

/-- the table of the half bytes -/
def tab : List Int := [0, 498536548, 997073096, 651767980, 1994146192, 1802195444, 1303535960, 1342533948, 3988292384, 4027552580, 3604390888, 3412177804, 2607071920, 2262029012, 2685067896, 3183342108]
theorem tab_all : ∀ j, j < 16 → tab[j]?.getD 0 = (Zs 4 j : Nat) := by decide

theorem split16 (c : Nat) : c = 16 * (c / 16) ^^^ c % 16 := by
  have h : 16 * (c / 16) ||| c % 16 = 16 * (c / 16) + c % 16 := by
    have := Nat.two_pow_add_eq_or_of_lt (i := 4) (b := c % 16) (by omega) (c / 16)
    rw [show (2 : Nat) ^ 4 = 16 from rfl] at this
    exact this.symm
  have h2 : 16 * (c / 16) ^^^ c % 16 = 16 * (c / 16) + c % 16 := by
    apply Nat.eq_of_testBit_eq
    intro i
    rw [← h, Nat.testBit_xor, Nat.testBit_or]
    by_cases hi : i < 4
    · have : (16 * (c / 16)).testBit i = false := by
        rw [show 16 * (c / 16) = 2 ^ 4 * (c / 16) from rfl, Nat.testBit_two_pow_mul]
        simp; omega
      rw [this]; simp
    · have : (c % 16).testBit i = false := Nat.testBit_lt_two_pow (Nat.lt_of_lt_of_le (show c % 16 < 2 ^ 4 by omega) (Nat.pow_le_pow_right (by omega) (by omega)))
      rw [this]; simp
  omega

/-- half a byte further -/
def half (c : Nat) : Nat := c / 16 ^^^ Zs 4 (c % 16)
theorem half_Zs (c : Nat) : half c = Zs 4 c := by
  rw [split16 c, Zs_xor, Zs_four]
  unfold half
  rw [← split16 c]
/-- a byte further -/
def byteStep (c x : Nat) : Nat := half (half (c ^^^ x))
theorem byteStep_Zs (c x : Nat) : byteStep c x = Zs 8 (c ^^^ x) := by
  unfold byteStep
  rw [half_Zs, half_Zs, ← Zs_add]
theorem val_byte : ∀ x, x < 256 → val (fun k => x / 2 ^ (k % 8) % 2) 8 = x := by decide +kernel
theorem byteStep_run (c x : Nat) (hx : x < 256) : byteStep c x = run c (fun k => x / 2 ^ (k % 8) % 2) 8 := by
  rw [byteStep_Zs, run_val _ _ (fun i => by omega), val_byte x hx]
theorem half_lt (c : Nat) (h : c < 2 ^ 32) : half c < 2 ^ 32 := by rw [half_Zs]; exact Zs_lt 4 c h
end Crc
end Go.Proofs.YtanfmpeblhegpaaDoor
