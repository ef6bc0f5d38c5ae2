/- The sum of bytes (CRC-32, bit by bit) as a plain function on numbers; bits that are turned within 32 neighbouring ones change it. No Go in sight. -/
namespace Go.Proofs.YtanfmpeblhegpaaDoor
namespace Crc
set_option linter.unusedVariables false

/-- the polynomial, bits reflected -/
def poly : Nat := 3988292384
/-- one bit further -/
def Z (c : Nat) : Nat := if c % 2 = 1 then (c / 2) ^^^ poly else c / 2
/-- one bit of the message -/
def step (c b : Nat) : Nat := if (c + b) % 2 = 1 then (c / 2) ^^^ poly else c / 2

theorem xor_half (c d : Nat) : (c ^^^ d) / 2 = c / 2 ^^^ d / 2 := by
  have h := Nat.shiftRight_xor_distrib (a := c) (b := d) (i := 1)
  rw [Nat.shiftRight_eq_div_pow, Nat.shiftRight_eq_div_pow, Nat.shiftRight_eq_div_pow] at h
  exact h
theorem xor_low (c d : Nat) : (c ^^^ d) % 2 = (c + d) % 2 := by
  have h := Nat.xor_mod_two_pow (a := c) (b := d) (n := 1)
  rw [show (2 : Nat) ^ 1 = 2 from rfl] at h
  rw [h]
  rcases (show c % 2 = 0 ∨ c % 2 = 1 from by omega) with e | e <;> rcases (show d % 2 = 0 ∨ d % 2 = 1 from by omega) with e' | e' <;> rw [e, e'] <;> simp <;> omega

theorem Z_xor (c d : Nat) : Z (c ^^^ d) = Z c ^^^ Z d := by
  unfold Z
  rw [xor_half, xor_low]
  by_cases hc : c % 2 = 1 <;> by_cases hd : d % 2 = 1
  · rw [if_neg (by omega), if_pos hc, if_pos hd]
    rw [show c / 2 ^^^ poly ^^^ (d / 2 ^^^ poly) = c / 2 ^^^ d / 2 ^^^ (poly ^^^ poly) from by ac_rfl, Nat.xor_self, Nat.xor_zero]
  · rw [if_pos (by omega), if_pos hc, if_neg hd]
    ac_rfl
  · rw [if_pos (by omega), if_neg hc, if_pos hd]
    ac_rfl
  · rw [if_neg (by omega), if_neg hc, if_neg hd]

theorem Z_lt (c : Nat) (h : c < 2 ^ 32) : Z c < 2 ^ 32 := by
  unfold Z
  split
  · exact Nat.xor_lt_two_pow (by omega) (by decide)
  · omega
theorem Z_zero : Z 0 = 0 := rfl
theorem Z_eq_zero (c : Nat) (h : c < 2 ^ 32) (hz : Z c = 0) : c = 0 := by
  unfold Z at hz
  split at hz
  · have : c / 2 = poly := by
      have h2 : c / 2 ^^^ poly ^^^ poly = 0 ^^^ poly := by rw [hz]
      rw [Nat.xor_assoc, Nat.xor_self, Nat.xor_zero, Nat.zero_xor] at h2
      exact h2
    unfold poly at this
    omega
  · omega
theorem step_Z (c b : Nat) (hb : b ≤ 1) : step c b = Z (c ^^^ b) := by
  unfold step Z
  rw [xor_half, xor_low, show b / 2 = 0 from by omega, Nat.xor_zero]
theorem step_lt (c b : Nat) (h : c < 2 ^ 32) : step c b < 2 ^ 32 := by
  unfold step
  split
  · exact Nat.xor_lt_two_pow (by omega) (by decide)
  · omega
theorem Z_pow (j : Nat) : Z (2 ^ (j + 1)) = 2 ^ j := by
  unfold Z
  rw [if_neg (by rw [Nat.pow_succ]; omega), Nat.pow_succ]
  omega

/-- so many bits further -/
def Zs : Nat → Nat → Nat
  | 0, c => c
  | k + 1, c => Z (Zs k c)
theorem Zs_xor (k c d : Nat) : Zs k (c ^^^ d) = Zs k c ^^^ Zs k d := by
  induction k with
  | zero => rfl
  | succ k ih => show Z _ = _; rw [ih, Z_xor]; rfl
theorem Zs_zero (k : Nat) : Zs k 0 = 0 := by
  induction k with
  | zero => rfl
  | succ k ih => show Z _ = _; rw [ih]; rfl
theorem Zs_lt (k c : Nat) (h : c < 2 ^ 32) : Zs k c < 2 ^ 32 := by
  induction k with
  | zero => exact h
  | succ k ih => exact Z_lt _ ih
theorem Zs_eq_zero (k c : Nat) (h : c < 2 ^ 32) (hz : Zs k c = 0) : c = 0 := by
  induction k with
  | zero => exact hz
  | succ k ih => exact ih (Z_eq_zero _ (Zs_lt k c h) hz)
theorem Zs_add (j k c : Nat) : Zs (j + k) c = Zs j (Zs k c) := by
  induction j with
  | zero => rw [Nat.zero_add]; rfl
  | succ j ih => rw [Nat.succ_add]; show Z _ = Z _; rw [ih]
theorem Zs_pow (k j : Nat) (h : k ≤ j) : Zs k (2 ^ j) = 2 ^ (j - k) := by
  induction k with
  | zero => rfl
  | succ k ih =>
    show Z _ = _
    rw [ih (by omega), show j - k = (j - (k + 1)) + 1 from by omega, Z_pow]

/-- the register behind the first k bits of a message (f: its bits) -/
def run (c : Nat) (f : Nat → Nat) : Nat → Nat
  | 0 => c
  | k + 1 => step (run c f k) (f k)
theorem run_lt (c : Nat) (f : Nat → Nat) (h : c < 2 ^ 32) (k : Nat) : run c f k < 2 ^ 32 := by
  induction k with
  | zero => exact h
  | succ k ih => exact step_lt _ _ ih

/-- the bits in which two messages differ, as a number -/
def diff (f g : Nat → Nat) (p : Nat) : Nat → Nat
  | 0 => 0
  | j + 1 => diff f g p j ^^^ (f (p + j) ^^^ g (p + j)) * 2 ^ j

theorem bit_cases (f g : Nat → Nat) (hf : ∀ i, f i ≤ 1) (hg : ∀ i, g i ≤ 1) (i : Nat) : f i ^^^ g i = 0 ∨ f i ^^^ g i = 1 := by
  have h1 := hf i
  have h2 := hg i
  rcases (show f i = 0 ∨ f i = 1 from by omega) with e | e <;> rcases (show g i = 0 ∨ g i = 1 from by omega) with e' | e' <;> rw [e, e'] <;> simp
theorem run_xor (c d : Nat) (f g : Nat → Nat) (hf : ∀ i, f i ≤ 1) (hg : ∀ i, g i ≤ 1) (k : Nat) : run c f (k + 1) ^^^ run d g (k + 1) = Z ((run c f k ^^^ run d g k) ^^^ (f k ^^^ g k)) := by
  show step _ _ ^^^ step _ _ = _
  rw [step_Z _ _ (hf k), step_Z _ _ (hg k), ← Z_xor]
  congr 1
  ac_rfl

/-- the messages are alike up to p: from there on, for 32 bits, the registers differ by what the bits differ -/
theorem run_diff (c : Nat) (f g : Nat → Nat) (hf : ∀ i, f i ≤ 1) (hg : ∀ i, g i ≤ 1) (p : Nat) (hp : run c f p = run c g p) (j : Nat) (hj : j ≤ 32) : run c f (p + j) ^^^ run c g (p + j) = Zs j (diff f g p j) := by
  induction j with
  | zero => rw [Nat.add_zero, hp, Nat.xor_self]; rfl
  | succ j ih =>
    rw [show p + (j + 1) = (p + j) + 1 from rfl, run_xor c c f g hf hg, ih (by omega)]
    show _ = Z (Zs j (diff f g p j ^^^ (f (p + j) ^^^ g (p + j)) * 2 ^ j))
    rw [Zs_xor]
    congr 2
    rcases bit_cases f g hf hg (p + j) with e | e
    · rw [e, Nat.zero_mul, Zs_zero]
    · rw [e, Nat.one_mul, Zs_pow j j (Nat.le_refl _), Nat.sub_self]

theorem run_same (c d : Nat) (f g : Nat → Nat) (hf : ∀ i, f i ≤ 1) (hg : ∀ i, g i ≤ 1) (q n : Nat) (h : ∀ i, q ≤ i → i < q + n → f i = g i) : run c f (q + n) ^^^ run d g (q + n) = Zs n (run c f q ^^^ run d g q) := by
  induction n with
  | zero => rfl
  | succ n ih =>
    rw [show q + (n + 1) = (q + n) + 1 from rfl, run_xor c d f g hf hg, ih (fun i h1 h2 => h i h1 (by omega)), h (q + n) (by omega) (by omega), Nat.xor_self, Nat.xor_zero]
    rfl
theorem run_alike (c : Nat) (f g : Nat → Nat) (p : Nat) (h : ∀ i, i < p → f i = g i) : run c f p = run c g p := by
  induction p with
  | zero => rfl
  | succ p ih => show step _ _ = step _ _; rw [ih (fun i hi => h i (by omega)), h p (by omega)]

theorem diff_lt (f g : Nat → Nat) (hf : ∀ i, f i ≤ 1) (hg : ∀ i, g i ≤ 1) (p j : Nat) : diff f g p j < 2 ^ j := by
  induction j with
  | zero => show (0 : Nat) < 1; omega
  | succ j ih =>
    refine Nat.xor_lt_two_pow (Nat.lt_trans ih (Nat.pow_lt_pow_right (by omega) (by omega))) ?_
    rcases bit_cases f g hf hg (p + j) with e | e <;> rw [e, Nat.pow_succ]
    · rw [Nat.zero_mul]; have := Nat.two_pow_pos j; omega
    · rw [Nat.one_mul]; have := Nat.two_pow_pos j; omega
theorem xor_eq_zero {a b : Nat} (h : a ^^^ b = 0) : a = b := by
  have h2 : a ^^^ b ^^^ b = 0 ^^^ b := by rw [h]
  rw [Nat.xor_assoc, Nat.xor_self, Nat.xor_zero, Nat.zero_xor] at h2
  exact h2
theorem diff_zero (f g : Nat → Nat) (hf : ∀ i, f i ≤ 1) (hg : ∀ i, g i ≤ 1) (p j : Nat) (h : diff f g p j = 0) : ∀ i, i < j → f (p + i) = g (p + i) := by
  induction j with
  | zero => intro i hi; omega
  | succ j ih =>
    have h1 : diff f g p j = (f (p + j) ^^^ g (p + j)) * 2 ^ j := xor_eq_zero h
    have h2 := diff_lt f g hf hg p j
    have h3 : f (p + j) ^^^ g (p + j) = 0 := by
      rcases bit_cases f g hf hg (p + j) with e | e
      · exact e
      · rw [e, Nat.one_mul] at h1; omega
    rw [h3, Nat.zero_mul] at h1
    intro i hi
    by_cases e : i = j
    · subst e; exact xor_eq_zero h3
    · exact ih h1 i (by omega)

/-- THE BURST: two messages of n bits that are alike but within 32 neighbouring ones, and not alike there, have unlike registers -/
theorem burst (c : Nat) (hc : c < 2 ^ 32) (f g : Nat → Nat) (hf : ∀ i, f i ≤ 1) (hg : ∀ i, g i ≤ 1) (n p j : Nat) (hj : j ≤ 32) (hn : p + j ≤ n)
    (hout : ∀ i, i < n → i < p ∨ p + j ≤ i → f i = g i) (hin : ∃ i, i < j ∧ f (p + i) ≠ g (p + i)) : run c f n ≠ run c g n := by
  intro he
  obtain ⟨m, rfl⟩ : ∃ m, n = p + j + m := ⟨n - (p + j), by omega⟩
  have h1 := run_same c c f g hf hg (p + j) m (fun i h1 h2 => hout i (by omega) (.inr h1))
  rw [he, Nat.xor_self, run_diff c f g hf hg p (run_alike c f g p fun i hi => hout i (by omega) (.inl hi)) j hj] at h1
  have h2 := diff_lt f g hf hg p j
  have h3 : diff f g p j < 2 ^ 32 := Nat.lt_of_lt_of_le h2 (Nat.pow_le_pow_right (by omega) hj)
  have h4 := Zs_eq_zero j _ h3 (Zs_eq_zero m _ (Zs_lt j _ h3) h1.symm)
  obtain ⟨i, hi, hne⟩ := hin
  exact hne (diff_zero f g hf hg p j h4 i hi)
end Crc
end Go.Proofs.YtanfmpeblhegpaaDoor
