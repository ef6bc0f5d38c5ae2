/- What the calls of package num return: addTurns, Add, Sub, Fit, Share, Has, Room, at the landed code. No condition but that the numbers are of their kinds. What the document's own numbers (purseref01: Plus, Less, Int, Of, Fit, Share, Has) return, at the landed code. Conditions: the sums stay far within 128 bits. -/
import Derived.Test.YtjcbhgkfbilifaaJA
import Derived.BigQuiet
import Derived.Laws.Externs
import Derived.Deep.RegionWith
import Derived.Deep.RegionHeld
namespace Go.Proofs.Ytjcbhgkfbilifaa
open Go.ChangeShapes Go.WideShapes Go.ChangeAt Go.RowKit
set_option linter.unusedVariables false

/-- how often the sum goes round the ints -/
def turns (a b : Int) : Int := if 9223372036854775807 < a + b then 1 else if a + b < -9223372036854775808 then -1 else 0

theorem turns_zero (a b : Int) (h1 : a + b ≤ 9223372036854775807) (h2 : -9223372036854775808 ≤ a + b) : turns a b = 0 := by
  unfold turns; rw [if_neg (by omega), if_neg (by omega)]
theorem turns_one (a b : Int) (h1 : 9223372036854775807 < a + b) : turns a b = 1 := by
  unfold turns; rw [if_pos h1]
theorem turns_neg (a b : Int) (h1 : a + b < -9223372036854775808) : turns a b = -1 := by
  unfold turns; rw [if_neg (by omega), if_pos h1]

theorem addTurns_any (a b : Int) (w : World) (a1 : -9223372036854775808 ≤ a) (a2 : a ≤ 9223372036854775807) (b1 : -9223372036854775808 ≤ b) (b2 : b ≤ 9223372036854775807) :
    Calls Try.prog 124 #[.int .i64 a, .int .i64 b] w fun e w' => e = .returned (.int .i64 (turns a b)) ∧ w' = w := by
  by_cases hb : 0 ≤ b
  · by_cases hs : a + b ≤ 9223372036854775807
    · rw [turns_zero a b hs (by omega)]
      go_enter Try.func124, Try.ntmps124
      go_wp2
      go_ret
      exact ⟨rfl, rfl⟩
    · have hw : wrap64 (a + b) < a := by unfold wrap64; omega
      rw [turns_one a b (by omega)]
      go_enter Try.func124, Try.ntmps124
      go_wp2
      go_ret
      exact ⟨rfl, rfl⟩
  · by_cases hs : -9223372036854775808 ≤ a + b
    · rw [turns_zero a b (by omega) hs]
      go_enter Try.func124, Try.ntmps124
      go_wp2
      go_ret
      exact ⟨rfl, rfl⟩
    · have hw : a < wrap64 (a + b) := by unfold wrap64; omega
      rw [turns_neg a b (by omega)]
      go_enter Try.func124, Try.ntmps124
      go_wp2
      go_ret
      exact ⟨rfl, rfl⟩

/-- Add, where the sum is an int -/
theorem add_yes (a b : Int) (w : World) (a1 : -9223372036854775808 ≤ a) (a2 : a ≤ 9223372036854775807) (b1 : -9223372036854775808 ≤ b) (b2 : b ≤ 9223372036854775807)
    (h1 : -9223372036854775808 ≤ a + b) (h2 : a + b ≤ 9223372036854775807) :
    Calls Try.prog 68 #[.int .i64 a, .int .i64 b] w fun e w' => e = .returned (.tuple #[.int .i64 (a + b), .int .i64 0]) ∧ w' = w := by
  have ht := addTurns_any a b w a1 a2 b1 b2
  rw [turns_zero a b h2 h1] at ht
  have H := hide ht
  clear ht
  go_enter Try.func68, Try.ntmps68
  go_wp2_with (go_at_call 124; refine H.out.mono ?_; rintro e w' ⟨rfl, rfl⟩)
  go_ret2
  exact ⟨rfl, rfl⟩

/-- Add, where it is none -/
theorem add_no (a b : Int) (w : World) (a1 : -9223372036854775808 ≤ a) (a2 : a ≤ 9223372036854775807) (b1 : -9223372036854775808 ≤ b) (b2 : b ≤ 9223372036854775807)
    (h : 9223372036854775807 < a + b ∨ a + b < -9223372036854775808) :
    Calls Try.prog 68 #[.int .i64 a, .int .i64 b] w fun e w' => e = .returned (.tuple #[.int .i64 0, .int .i64 10]) ∧ w' = w := by
  have ht := addTurns_any a b w a1 a2 b1 b2
  rcases h with h | h
  · rw [turns_one a b h] at ht
    have H := hide ht
    clear ht
    go_enter Try.func68, Try.ntmps68
    go_wp2_with (go_at_call 124; refine H.out.mono ?_; rintro e w' ⟨rfl, rfl⟩)
    go_ret2
    exact ⟨rfl, rfl⟩
  · rw [turns_neg a b h] at ht
    have H := hide ht
    clear ht
    go_enter Try.func68, Try.ntmps68
    go_wp2_with (go_at_call 124; refine H.out.mono ?_; rintro e w' ⟨rfl, rfl⟩)
    go_ret2
    exact ⟨rfl, rfl⟩


theorem sub_yes (a b : Int) (w : World) (a1 : -9223372036854775808 ≤ a) (a2 : a ≤ 9223372036854775807) (b1 : -9223372036854775808 ≤ b) (b2 : b ≤ 9223372036854775807)
    (h1 : -9223372036854775808 ≤ a - b) (h2 : a - b ≤ 9223372036854775807) :
    Calls Try.prog 144 #[.int .i64 a, .int .i64 b] w fun e w' => e = .returned (.tuple #[.int .i64 (a - b), .int .i64 0]) ∧ w' = w := by
  by_cases hb : 0 ≤ b
  · have hd : a - b ≤ a := by omega
    go_enter Try.func144, Try.ntmps144
    go_wp2
    go_ret2
    exact ⟨rfl, rfl⟩
  · have hd : ¬ a - b ≤ a := by omega
    go_enter Try.func144, Try.ntmps144
    go_wp2
    go_ret2
    exact ⟨rfl, rfl⟩

theorem sub_no (a b : Int) (w : World) (a1 : -9223372036854775808 ≤ a) (a2 : a ≤ 9223372036854775807) (b1 : -9223372036854775808 ≤ b) (b2 : b ≤ 9223372036854775807)
    (h : 9223372036854775807 < a - b ∨ a - b < -9223372036854775808) :
    Calls Try.prog 144 #[.int .i64 a, .int .i64 b] w fun e w' => e = .returned (.tuple #[.int .i64 0, .int .i64 10]) ∧ w' = w := by
  by_cases hb : 0 ≤ b
  · have hd : ¬ wrap64 (a - b) ≤ a := by unfold wrap64; omega
    clear h
    go_enter Try.func144, Try.ntmps144
    go_wp2
    go_ret2
    exact ⟨rfl, rfl⟩
  · have hd : wrap64 (a - b) ≤ a := by unfold wrap64; omega
    clear h
    go_enter Try.func144, Try.ntmps144
    go_wp2
    go_ret2
    exact ⟨rfl, rfl⟩

def fitv (n : Int) : Int := if n ≤ 9223372036854775807 then n else 9223372036854775807
theorem fitv_in (n : Int) (h : n ≤ 9223372036854775807) : fitv n = n := by unfold fitv; rw [if_pos h]
theorem fitv_out (n : Int) (h : ¬ n ≤ 9223372036854775807) : fitv n = 9223372036854775807 := by unfold fitv; rw [if_neg h]

theorem fit_any (n : Int) (w : World) (n0 : 0 ≤ n) (n1 : n ≤ 18446744073709551615) :
    Calls Try.prog 130 #[.int .u64 n] w fun e w' => e = .returned (.int .i64 (fitv n)) ∧ w' = w := by
  by_cases h : n ≤ 9223372036854775807
  · rw [fitv_in n h]
    go_enter Try.func130, Try.ntmps130
    go_wp2
    go_ret
    exact ⟨rfl, rfl⟩
  · rw [fitv_out n h]
    go_enter Try.func130, Try.ntmps130
    go_wp2
    go_ret
    exact ⟨rfl, rfl⟩


/-- the part number i of n in p parts -/
def sharev (n p i : Int) : Int := if p < 1 ∨ i < 0 ∨ p ≤ i then 0 else if i < n % p then n / p + 1 else n / p
theorem sharev_no (n p i : Int) (h : p < 1 ∨ i < 0 ∨ p ≤ i) : sharev n p i = 0 := by unfold sharev; rw [if_pos h]
theorem sharev_more (n p i : Int) (h1 : 1 ≤ p) (h2 : 0 ≤ i) (h3 : i < p) (h : i < n % p) : sharev n p i = n / p + 1 := by unfold sharev; rw [if_neg (by omega), if_pos h]
theorem sharev_less (n p i : Int) (h1 : 1 ≤ p) (h2 : 0 ≤ i) (h3 : i < p) (h : ¬ i < n % p) : sharev n p i = n / p := by unfold sharev; rw [if_neg (by omega), if_neg h]

theorem share_no (n p i : Int) (w : World) (n0 : 0 ≤ n) (n1 : n ≤ 18446744073709551615) (h : p < 1 ∨ i < 0 ∨ p ≤ i) :
    Calls Try.prog 131 #[.int .u64 n, .int .i64 p, .int .i64 i] w fun e w' => e = .returned (.int .u64 (sharev n p i)) ∧ ∃ k, w' = w.drewN k := by
  rw [sharev_no n p i h]
  by_cases h1 : p < 1
  · clear h
    go_enter Try.func131, Try.ntmps131
    go_wp2
    go_ret
    exact ⟨rfl, 0, rfl⟩
  · by_cases h2 : i < 0
    · clear h
      go_enter Try.func131, Try.ntmps131
      go_wp2
      go_ret
      exact ⟨rfl, 0, rfl⟩
    · have h3 : p ≤ i := by omega
      clear h
      go_enter Try.func131, Try.ntmps131
      go_wp2
      go_ret
      exact ⟨rfl, 0, rfl⟩

theorem quo_bd (n p : Int) (n0 : 0 ≤ n) (h1 : 1 ≤ p) : 0 ≤ n / p ∧ n / p ≤ n ∧ 0 ≤ n % p ∧ n % p < p :=
  ⟨Int.ediv_nonneg n0 (by omega), Int.ediv_le_self p n0, Int.emod_nonneg n (by omega), Int.emod_lt_of_pos n (by omega)⟩
theorem quo_more (n p : Int) (n0 : 0 ≤ n) (h1 : 1 ≤ p) (h : 0 < n % p) : n / p + 1 ≤ n := by
  have h2 := Int.mul_ediv_add_emod n p
  have h3 := quo_bd n p n0 h1
  by_cases hp : p = 1
  · subst hp; omega
  · by_cases hq : n / p = 0
    · rw [hq] at h2 ⊢; omega
    · have h4 : 2 * (n / p) ≤ p * (n / p) := Int.mul_le_mul_of_nonneg_right (by omega) h3.1
      omega

theorem share_more (n p i : Int) (w : World) (n0 : 0 ≤ n) (n1 : n ≤ 18446744073709551615) (h1 : 1 ≤ p) (p1 : p ≤ 9223372036854775807) (h2 : 0 ≤ i) (h3 : i < p) (h : i < n % p) :
    Calls Try.prog 131 #[.int .u64 n, .int .i64 p, .int .i64 i] w fun e w' => e = .returned (.int .u64 (sharev n p i)) ∧ ∃ k, w' = w.drewN k := by
  rw [sharev_more n p i h1 h2 h3 h]
  have hb := quo_bd n p n0 h1
  have hc := quo_more n p n0 h1 (by omega)
  obtain ⟨q0, q1, r0, r1⟩ := hb
  go_enter Try.func131, Try.ntmps131
  go_wp2
  go_region
  all_goals go_wp2
  go_ret
  exact ⟨rfl, 1, rfl⟩
theorem share_less (n p i : Int) (w : World) (n0 : 0 ≤ n) (n1 : n ≤ 18446744073709551615) (h1 : 1 ≤ p) (p1 : p ≤ 9223372036854775807) (h2 : 0 ≤ i) (h3 : i < p) (h : ¬ i < n % p) :
    Calls Try.prog 131 #[.int .u64 n, .int .i64 p, .int .i64 i] w fun e w' => e = .returned (.int .u64 (sharev n p i)) ∧ ∃ k, w' = w.drewN k := by
  rw [sharev_less n p i h1 h2 h3 h]
  have hb := quo_bd n p n0 h1
  obtain ⟨q0, q1, r0, r1⟩ := hb
  go_enter Try.func131, Try.ntmps131
  go_wp2
  go_region
  all_goals go_wp2
  go_ret
  exact ⟨rfl, 1, rfl⟩

theorem share_any (n p i : Int) (w : World) (n0 : 0 ≤ n) (n1 : n ≤ 18446744073709551615) (p1 : p ≤ 9223372036854775807) :
    Calls Try.prog 131 #[.int .u64 n, .int .i64 p, .int .i64 i] w fun e w' => e = .returned (.int .u64 (sharev n p i)) ∧ ∃ k, w' = w.drewN k := by
  by_cases h : p < 1 ∨ i < 0 ∨ p ≤ i
  · exact share_no n p i w n0 n1 h
  · by_cases hm : i < n % p
    · exact share_more n p i w n0 n1 (by omega) p1 (by omega) (by omega) hm
    · exact share_less n p i w n0 n1 (by omega) p1 (by omega) (by omega) hm

theorem sub_wrap (a b : Int) (h1 : 0 ≤ a - b) (h2 : a - b ≤ 18446744073709551615) : IntKind.u64.wrap (IntKind.u64.wrap a - IntKind.u64.wrap b) = a - b := by
  rw [wrapU, wrapU, wrapU]; omega

theorem has_yes (lo hi v : Int) (w : World) (h1 : lo ≤ v) (h2 : v ≤ hi) :
    Calls Try.prog 103 #[.agg #[.int .i64 lo, .int .i64 hi], .int .i64 v] w fun e w' => e = .returned (.bool true) ∧ w' = w.alloc (.cells #[.int .i64 lo, .int .i64 hi] 23) := by
  go_enter Try.func103, Try.ntmps103
  go_wp2
  go_ret
  exact ⟨rfl, rfl⟩

theorem has_no (lo hi v : Int) (w : World) (h : ¬ (lo ≤ v ∧ v ≤ hi)) :
    Calls Try.prog 103 #[.agg #[.int .i64 lo, .int .i64 hi], .int .i64 v] w fun e w' => e = .returned (.bool false) ∧ w' = w.alloc (.cells #[.int .i64 lo, .int .i64 hi] 23) := by
  by_cases h1 : lo ≤ v
  · have h2 : ¬ v ≤ hi := fun x => h ⟨h1, x⟩
    clear h
    go_enter Try.func103, Try.ntmps103
    go_wp2
    go_ret
    exact ⟨rfl, rfl⟩
  · clear h
    go_enter Try.func103, Try.ntmps103
    go_wp2
    go_ret
    exact ⟨rfl, rfl⟩

/-- whether lo to hi has v -/
def hasB (lo hi v : Int) : Bool := decide (lo ≤ v ∧ v ≤ hi)
theorem hasB_true {lo hi v : Int} (h : lo ≤ v ∧ v ≤ hi) : hasB lo hi v = true := by unfold hasB; exact decide_eq_true h
theorem hasB_false {lo hi v : Int} (h : ¬ (lo ≤ v ∧ v ≤ hi)) : hasB lo hi v = false := by unfold hasB; exact decide_eq_false h
theorem has_any (lo hi v : Int) (w : World) :
    Calls Try.prog 103 #[.agg #[.int .i64 lo, .int .i64 hi], .int .i64 v] w fun e w' => e = .returned (.bool (hasB lo hi v)) ∧ w' = w.alloc (.cells #[.int .i64 lo, .int .i64 hi] 23) := by
  by_cases h : lo ≤ v ∧ v ≤ hi
  · rw [hasB_true h]; exact has_yes lo hi v w h.1 h.2
  · rw [hasB_false h]; exact has_no lo hi v w h

theorem has_lit {lo hi v : Int} {b : Bool} (h : hasB lo hi v = b) (w : World) :
    Calls Try.prog 103 #[.agg #[.int .i64 lo, .int .i64 hi], .int .i64 v] w fun e w' => e = .returned (.bool b) ∧ w' = w.alloc (.cells #[.int .i64 lo, .int .i64 hi] 23) := by
  rw [← h]; exact has_any lo hi v w

theorem room_yes (lo hi v : Int) (w : World) (a1 : -9223372036854775808 ≤ lo) (a2 : lo ≤ 9223372036854775807) (b1 : -9223372036854775808 ≤ hi) (b2 : hi ≤ 9223372036854775807) (h1 : lo ≤ v) (h2 : v ≤ hi) :
    Calls Try.prog 129 #[.agg #[.int .i64 lo, .int .i64 hi], .int .i64 v] w fun e w' => e = .returned (.tuple #[.int .u64 (v - lo), .int .u64 (hi - v)]) ∧ w' = ((w.alloc (.cells #[.int .i64 lo, .int .i64 hi] 23)).alloc (.cells #[.int .i64 lo, .int .i64 hi] 23)).drew := by
  go_enter Try.func129, Try.ntmps129
  go_wp2_with fail
  refine (has_yes lo hi v _ h1 h2).mono ?_
  rintro e w' ⟨rfl, rfl⟩
  go_wp2_with fail
  go_region
  all_goals go_wp2
  go_ret2
  exact ⟨ret2 (sub_wrap v lo (by omega) (by omega)) (sub_wrap hi v (by omega) (by omega)), rfl⟩

theorem room_no (lo hi v : Int) (w : World) (h : ¬ (lo ≤ v ∧ v ≤ hi)) :
    Calls Try.prog 129 #[.agg #[.int .i64 lo, .int .i64 hi], .int .i64 v] w fun e w' => e = .returned (.tuple #[.int .u64 0, .int .u64 0]) ∧ w' = (w.alloc (.cells #[.int .i64 lo, .int .i64 hi] 23)).alloc (.cells #[.int .i64 lo, .int .i64 hi] 23) := by
  have H := hide h
  clear h
  go_enter Try.func129, Try.ntmps129
  go_wp2_with fail
  refine (has_no lo hi v _ H.out).mono ?_
  rintro e w' ⟨rfl, rfl⟩
  go_wp2_with fail
  go_ret2
  exact ⟨rfl, rfl⟩
end Go.Proofs.Ytjcbhgkfbilifaa

namespace Go.Proofs.Ytjcbhgkfbilifaa
open Go.ChangeShapes Go.WideShapes Go.ChangeAt Go.RowKit
set_option linter.unusedVariables false


theorem add64 (x y lo c : Int) (hx : 0 ≤ x) (hy : 0 ≤ y) (hl : (x + y) % 18446744073709551616 = lo) (hc : (x + y) / 18446744073709551616 = c) (w : World) :
    (callFunc 138 #[.int .u64 x, .int .u64 y, .int .u64 0]).run Try.prog w = .ok (.value (.tuple #[.int .u64 lo, .int .u64 c])) w := by
  rw [run_callFunc_extern Try.func138 (by kernel_rfl) (by kernel_rfl) (by kernel_rfl) (e := add64Entry) (by kernel_rfl), run_add64 x y 0 hx hy (by omega) (by omega)]
  simp only [Result.andThen, Int.add_zero, hl, hc]

theorem plus_up (hi lo n c lo' : Int) (w : World) (l0 : 0 ≤ lo) (l1 : lo ≤ 18446744073709551615) (n0 : 0 ≤ n) (n1 : n ≤ 9223372036854775807) (c0 : 0 ≤ c) (c1 : c ≤ 1)
    (b0 : -4611686018427387904 ≤ hi) (b1 : hi ≤ 4611686018427387904) (hl : (lo + n) % 18446744073709551616 = lo') (hc : (lo + n) / 18446744073709551616 = c) :
    Calls Try.prog 113 #[.agg #[.int .i64 hi, .int .u64 lo], .int .i64 n] w fun e w' => e = .returned (.agg #[.int .i64 (hi + c), .int .u64 lo']) ∧ Below w.heap.size w w' := by
  have hcall := add64 lo n lo' c l0 n0 hl hc
  clear hl hc
  go_enter Try.func113, Try.ntmps113
  go_wp2
  refine bodyPost_ret (v := .agg #[.int .i64 (hi + c), .int .u64 lo']) (by simp [results, Try.results113, go_sem]) rfl ⟨rfl, ?_⟩
  repeat (first | exact Below.refl _ _ | refine Below.drew ?_ | refine Below.setCell ?_ (by simp <;> omega) _ | refine Below.alloc ?_ (by simp <;> omega) _)

theorem plus_down (hi lo n y c lo' : Int) (w : World) (l0 : 0 ≤ lo) (l1 : lo ≤ 18446744073709551615) (n0 : n < 0) (n1 : -9223372036854775808 ≤ n) (hy : IntKind.u64.wrap n = y) (y0 : 0 ≤ y) (c0 : 0 ≤ c) (c1 : c ≤ 1)
    (b0 : -4611686018427387904 ≤ hi) (b1 : hi ≤ 4611686018427387904) (hl : (lo + y) % 18446744073709551616 = lo') (hc : (lo + y) / 18446744073709551616 = c) :
    Calls Try.prog 113 #[.agg #[.int .i64 hi, .int .u64 lo], .int .i64 n] w fun e w' => e = .returned (.agg #[.int .i64 (hi + c - 1), .int .u64 lo']) ∧ Below w.heap.size w w' := by
  have hcall := add64 lo y lo' c l0 y0 hl hc
  clear hl hc
  go_enter Try.func113, Try.ntmps113
  go_wp2
  refine bodyPost_ret (v := .agg #[.int .i64 (hi + c - 1), .int .u64 lo']) (by simp [results, Try.results113, go_sem]) rfl ⟨rfl, ?_⟩
  repeat (first | exact Below.refl _ _ | refine Below.drew ?_ | refine Below.setCell ?_ (by simp <;> omega) _ | refine Below.alloc ?_ (by simp <;> omega) _)


/-- the 128 bits of a whole number -/
def hiOf (z : Int) : Int := z / 18446744073709551616
def loOf (z : Int) : Int := z % 18446744073709551616
theorem loOf_bd (z : Int) : 0 ≤ loOf z ∧ loOf z ≤ 18446744073709551615 := by unfold loOf; omega

theorem plus_any (z n : Int) (w : World) (z0 : -4611686018427387904 ≤ hiOf z) (z1 : hiOf z ≤ 4611686018427387904) (n0 : -9223372036854775808 ≤ n) (n1 : n ≤ 9223372036854775807) :
    Calls Try.prog 113 #[.agg #[.int .i64 (hiOf z), .int .u64 (loOf z)], .int .i64 n] w fun e w' => e = .returned (.agg #[.int .i64 (hiOf (z + n)), .int .u64 (loOf (z + n))]) ∧ Below w.heap.size w w' := by
  obtain ⟨l0, l1⟩ := loOf_bd z
  by_cases h : 0 ≤ n
  · have := plus_up (hiOf z) (loOf z) n (hiOf (z + n) - hiOf z) (loOf (z + n)) w l0 l1 h n1 (by unfold hiOf; omega) (by unfold hiOf; omega) z0 z1 (by unfold loOf; omega) (by unfold loOf hiOf; omega)
    rw [show hiOf z + (hiOf (z + n) - hiOf z) = hiOf (z + n) from by omega] at this
    exact this
  · have := plus_down (hiOf z) (loOf z) n (n + 18446744073709551616) (hiOf (z + n) - hiOf z + 1) (loOf (z + n)) w l0 l1 (by omega) n0 (by rw [wrapU]; omega) (by omega) (by unfold hiOf; omega) (by unfold hiOf; omega) z0 z1 (by unfold loOf; omega) (by unfold loOf hiOf; omega)
    rw [show hiOf z + (hiOf (z + n) - hiOf z + 1) - 1 = hiOf (z + n) from by omega] at this
    exact this

theorem not64 (n : Int) (n0 : -9223372036854775808 ≤ n) (n1 : n ≤ 9223372036854775807) : bits .xor .i64 (-1) n = -1 - n := by
  show IntKind.i64.wrap ((BitVec.ofInt 64 (-1) ^^^ BitVec.ofInt 64 n).toNat : Int) = _
  have h1 : BitVec.ofInt 64 (-1) = BitVec.allOnes 64 := by decide
  rw [h1, BitVec.allOnes_xor, BitVec.toNat_not, BitVec.toNat_ofInt]
  simp [IntKind.wrap, IntKind.bits, IntKind.signed]
  omega

theorem int_a (hi lo : Int) (w : World) (l0 : 0 ≤ lo) (h : (hi == 0) = true) (hl : lo < 9223372036854775808) :
    Calls Try.prog 73 #[.agg #[.int .i64 hi, .int .u64 lo]] w fun e w' => e = .returned (.tuple #[.int .i64 lo, .bool true]) ∧ Below w.heap.size w w' := by
  have hd : decide (lo < 9223372036854775808) = true := by simpa using hl
  go_enter Try.func73, Try.ntmps73
  go_wp2_with fail
  go_quiet (fail)
  go_wp2_with fail
  go_ret2
  exact ⟨rfl, below_drewN (Below.alloc (Below.refl _ _) (by simp) _) _⟩

theorem int_b (hi lo v : Int) (w : World) (l0 : 0 ≤ lo) (h0 : (hi == 0) = false) (h : (hi == -1) = true) (hl : 9223372036854775808 ≤ lo) (hv : wrap64 lo = v) :
    Calls Try.prog 73 #[.agg #[.int .i64 hi, .int .u64 lo]] w fun e w' => e = .returned (.tuple #[.int .i64 v, .bool true]) ∧ Below w.heap.size w w' := by
  have hd : decide (9223372036854775808 ≤ lo) = true := by simpa using hl
  have H := hide hv
  clear hv
  go_enter Try.func73, Try.ntmps73
  go_wp2_with fail
  go_quiet (fail)
  go_wp2_with fail
  go_ret2
  refine ⟨?_, below_drewN (Below.alloc (Below.refl _ _) (by simp) _) _⟩
  show Ending.returned (.tuple #[.int .i64 (wrap64 lo), .bool true]) = _
  rw [H.out]

theorem int_c (hi lo : Int) (w : World) (l0 : 0 ≤ lo) (h0 : (hi == 0) = true) (h : (hi == -1) = false) (hl : 9223372036854775808 ≤ lo) :
    Calls Try.prog 73 #[.agg #[.int .i64 hi, .int .u64 lo]] w fun e w' => (∃ v, e = .returned (.tuple #[.int .i64 v, .bool false])) ∧ Below w.heap.size w w' := by
  have hd : decide (lo < 9223372036854775808) = false := by simpa using hl
  go_enter Try.func73, Try.ntmps73
  go_wp2_with fail
  go_quiet (fail)
  go_wp2_with fail
  go_ret2
  exact ⟨⟨_, rfl⟩, below_drewN (Below.alloc (Below.refl _ _) (by simp) _) _⟩

theorem int_d (hi lo : Int) (w : World) (l0 : 0 ≤ lo) (h0 : (hi == 0) = false) (h : (hi == -1) = true) (hl : lo < 9223372036854775808) :
    Calls Try.prog 73 #[.agg #[.int .i64 hi, .int .u64 lo]] w fun e w' => (∃ v, e = .returned (.tuple #[.int .i64 v, .bool false])) ∧ Below w.heap.size w w' := by
  have hd : decide (9223372036854775808 ≤ lo) = false := by simpa using hl
  go_enter Try.func73, Try.ntmps73
  go_wp2_with fail
  go_quiet (fail)
  go_wp2_with fail
  go_ret2
  exact ⟨⟨_, rfl⟩, below_drewN (Below.alloc (Below.refl _ _) (by simp) _) _⟩

theorem int_e (hi lo : Int) (w : World) (h0 : (hi == 0) = false) (h : (hi == -1) = false) :
    Calls Try.prog 73 #[.agg #[.int .i64 hi, .int .u64 lo]] w fun e w' => (∃ v, e = .returned (.tuple #[.int .i64 v, .bool false])) ∧ Below w.heap.size w w' := by
  go_enter Try.func73, Try.ntmps73
  go_wp2_with fail
  go_quiet (fail)
  go_wp2_with fail
  go_ret2
  exact ⟨⟨_, rfl⟩, below_drewN (Below.alloc (Below.refl _ _) (by simp) _) _⟩

theorem int_yes (z : Int) (w : World) (h1 : -9223372036854775808 ≤ z) (h2 : z ≤ 9223372036854775807) :
    Calls Try.prog 73 #[.agg #[.int .i64 (hiOf z), .int .u64 (loOf z)]] w fun e w' => e = .returned (.tuple #[.int .i64 z, .bool true]) ∧ Below w.heap.size w w' := by
  by_cases h : 0 ≤ z
  · have e1 : loOf z = z := by unfold loOf; omega
    have := int_a (hiOf z) (loOf z) w (loOf_bd z).1 (by rw [beq_iff_eq]; unfold hiOf; omega) (by omega)
    rw [show (Value.int .i64 (loOf z)) = .int .i64 z from by rw [e1]] at this
    exact this
  · exact int_b (hiOf z) (loOf z) z w (loOf_bd z).1 (by rw [beq_eq_false_iff_ne]; unfold hiOf; omega) (by rw [beq_iff_eq]; unfold hiOf; omega) (by unfold loOf; omega) (by unfold wrap64 loOf; omega)

theorem int_no (z : Int) (w : World) (h : z < -9223372036854775808 ∨ 9223372036854775807 < z) :
    Calls Try.prog 73 #[.agg #[.int .i64 (hiOf z), .int .u64 (loOf z)]] w fun e w' => (∃ v, e = .returned (.tuple #[.int .i64 v, .bool false])) ∧ Below w.heap.size w w' := by
  by_cases h0 : hiOf z = 0
  · exact int_c (hiOf z) (loOf z) w (loOf_bd z).1 (by rw [beq_iff_eq]; exact h0) (by rw [beq_eq_false_iff_ne]; omega) (by unfold hiOf at h0; unfold loOf; omega)
  · by_cases h1 : hiOf z = -1
    · exact int_d (hiOf z) (loOf z) w (loOf_bd z).1 (by rw [beq_eq_false_iff_ne]; exact h0) (by rw [beq_iff_eq]; exact h1) (by unfold hiOf at h1; unfold loOf; omega)
    · exact int_e (hiOf z) (loOf z) w (by rw [beq_eq_false_iff_ne]; exact h0) (by rw [beq_eq_false_iff_ne]; exact h1)

theorem less_any (z n : Int) (w : World) (z0 : -4611686018427387903 ≤ hiOf z) (z1 : hiOf z ≤ 4611686018427387903) (n0 : -9223372036854775808 ≤ n) (n1 : n ≤ 9223372036854775807) :
    Calls Try.prog 74 #[.agg #[.int .i64 (hiOf z), .int .u64 (loOf z)], .int .i64 n] w fun e w' => e = .returned (.agg #[.int .i64 (hiOf (z - n)), .int .u64 (loOf (z - n))]) ∧ Below w.heap.size w w' := by
  have hs : IntKind.i64.signed = true := rfl
  have hx := not64 n n0 n1
  have c1 := hide (fun w => plus_any z (-1 - n) w (by omega) (by omega) (by omega) (by omega))
  have c2 : Hid (∀ w, Calls Try.prog 113 #[.agg #[.int .i64 (hiOf (z + (-1 - n))), .int .u64 (loOf (z + (-1 - n)))], .int .i64 1] w fun e w' => e = .returned (.agg #[.int .i64 (hiOf (z - n)), .int .u64 (loOf (z - n))]) ∧ Below w.heap.size w w') := by
    intro w
    have := plus_any (z + (-1 - n)) 1 w (by unfold hiOf at *; omega) (by unfold hiOf at *; omega) (by omega) (by omega)
    rw [show z + (-1 - n) + 1 = z - n from by omega] at this
    exact this
  go_enter Try.func74, Try.ntmps74
  go_wp2_with fail
  refine (c1.out _).mono ?_
  rintro e w1 ⟨rfl, hb1⟩
  have hz1 : w.heap.size + 1 < w1.heap.size := by have := hb1.size; simp at this; omega
  go_wp2_with fail
  refine (c2.out _).mono ?_
  rintro e w2 ⟨rfl, hb2⟩
  have hz2 : w.heap.size + 1 < w2.heap.size := by have := hb2.size; omega
  have hc : ∀ o, w2.cell? ⟨w.heap.size + 1, o, none⟩ = ((w.alloc (.cells #[.int .i64 (hiOf z), .int .u64 (loOf z)] 112)).alloc (.cells #[.int .i64 0, .int .u64 0] 112)).cell? ⟨w.heap.size + 1, o, none⟩ := fun o => by
    rw [hb2.cell (p := ⟨w.heap.size + 1, o, none⟩) hz1, hb1.cell (p := ⟨w.heap.size + 1, o, none⟩) (by simp)]
  have hf : ∀ o, w2.frozen? ⟨w.heap.size + 1, o, none⟩ = ((w.alloc (.cells #[.int .i64 (hiOf z), .int .u64 (loOf z)] 112)).alloc (.cells #[.int .i64 0, .int .u64 0] 112)).frozen? ⟨w.heap.size + 1, o, none⟩ := fun o => by
    rw [hb2.frozen (p := ⟨w.heap.size + 1, o, none⟩) hz1, hb1.frozen (p := ⟨w.heap.size + 1, o, none⟩) (by simp)]
  go_wp2_with fail
  refine bodyPost_ret (v := .agg #[.int .i64 (hiOf (z - n)), .int .u64 (loOf (z - n))]) (by simp [results, Try.results74, go_sem, hc]) rfl ⟨rfl, ?_⟩
  refine Below.setCell (Below.setCell ?_ (by simp) _) (by simp) _
  refine Below.trans ?_ (hb2.mono (B' := w.heap.size) (by omega))
  refine Below.trans ?_ (hb1.mono (B' := w.heap.size) (by simp; omega))
  exact Below.alloc (Below.alloc (Below.refl _ _) (by simp) _) (by simp) _

/-- the numbers of a list are ints -/
def ints (zs : List Int) : Prop := ∀ j : Nat, -9223372036854775808 ≤ zs[j]?.getD 0 ∧ zs[j]?.getD 0 ≤ 9223372036854775807

theorem sum_take_succ (zs : List Int) (k : Nat) (h : k < zs.length) : (zs.take (k + 1)).sum = (zs.take k).sum + zs[k]?.getD 0 := by
  rw [List.take_succ_eq_append_getElem h, List.sum_append]
  simp [h]

theorem sum_take_bd (zs : List Int) (hz : ints zs) (k : Nat) (h : k ≤ zs.length) : -9223372036854775808 * (k : Int) ≤ (zs.take k).sum ∧ (zs.take k).sum ≤ 9223372036854775807 * (k : Int) := by
  induction k with
  | zero => simp
  | succ k ih =>
    have := ih (by omega)
    have hk := hz k
    rw [sum_take_succ zs k (by omega)]
    omega

theorem hi_bd (z k : Int) (h0 : 0 ≤ k) (h1 : -9223372036854775808 * k ≤ z) (h2 : z ≤ 9223372036854775807 * k) (h3 : k ≤ 9223372036854775807) : -4611686018427387904 ≤ hiOf z ∧ hiOf z ≤ 4611686018427387904 := by
  unfold hiOf; omega

theorem two_sets (w1 : World) (N : Nat) (u v x y : Value) (h0 : w1.cell? ⟨N, 0, none⟩ = some u) (h1 : w1.cell? ⟨N, 1, none⟩ = some v) :
    ((w1.setCell ⟨N, 0, none⟩ x).setCell ⟨N, 1, none⟩ y).cell? ⟨N, 0, none⟩ = some x ∧ ((w1.setCell ⟨N, 0, none⟩ x).setCell ⟨N, 1, none⟩ y).cell? ⟨N, 1, none⟩ = some y
    ∧ (∀ b o, b ≠ N → ((w1.setCell ⟨N, 0, none⟩ x).setCell ⟨N, 1, none⟩ y).cell? ⟨b, o, none⟩ = w1.cell? ⟨b, o, none⟩) := by
  refine ⟨?_, ?_, ?_⟩
  · rw [World.cell?_setCell_other _ _ _ _ (by simp)]; exact World.cell?_setCell_same _ _ _ h0
  · exact World.cell?_setCell_same _ _ _ ((World.cell?_setCell_other _ _ _ _ (by simp)).trans h1)
  · intro b o hb
    rw [World.cell?_setCell_far _ _ _ _ (fun h => hb h.symm), World.cell?_setCell_far _ _ _ _ (fun h => hb h.symm)]

set_option maxHeartbeats 1000000 in
theorem of_any (b off len cap : Nat) (zs : List Int) (w : World) (hb : b < w.heap.size) (hl : len ≤ zs.length) (hm : len ≤ 9223372036854775807) (hz : ints zs)
    (hcell : ∀ j, j < zs.length → w.cell? ⟨b, off + j, none⟩ = some (.int .i64 (zs[j]?.getD 0))) :
    Calls Try.prog 72 #[.slice (some ⟨b, off, none⟩) len cap] w fun e w' => e = .returned (.agg #[.int .i64 (hiOf (zs.take len).sum), .int .u64 (loOf (zs.take len).sum)]) ∧ Below w.heap.size w w' := by
  have HZ := hide hz
  have HC := hide hcell
  clear hz hcell
  go_enter Try.func72, Try.ntmps72
  go_wp2_with fail
  go_loopw [4] (fun i wr => ∃ k : Nat, k ≤ len ∧ i = .int .i64 k ∧ wr.cell? ⟨w.heap.size + 1, 0, none⟩ = some (.int .i64 (hiOf (zs.take k).sum)) ∧ wr.cell? ⟨w.heap.size + 1, 1, none⟩ = some (.int .u64 (loOf (zs.take k).sum))
      ∧ wr.cell? ⟨w.heap.size, 0, none⟩ = some (.int .i64 0) ∧ wr.cell? ⟨w.heap.size, 1, none⟩ = some (.int .u64 0)
      ∧ wr.frozen? ⟨w.heap.size + 1, 0, none⟩ = false ∧ wr.frozen? ⟨w.heap.size + 1, 1, none⟩ = false ∧ wr.frozen? ⟨w.heap.size, 0, none⟩ = false ∧ wr.frozen? ⟨w.heap.size, 1, none⟩ = false
      ∧ Below w.heap.size w wr ∧ w.heap.size + 1 < wr.heap.size) (fun i _ => len - (intOf i).toNat)
  case atStart =>
    refine ⟨0, Nat.zero_le _, rfl, ?_, ?_, ?_, ?_, ?_, ?_, ?_, ?_, ?_, ?_⟩
    all_goals first | (simp [go_sem, hiOf, loOf]; done) | (repeat (first | exact Below.refl _ _ | refine Below.setCell ?_ (by simp <;> omega) _ | refine Below.alloc ?_ (by simp <;> omega) _))
  case round =>
    obtain ⟨k, hk, rfl, e0, e1, e2, e3, e4, e5, e6, e7, hbel, hsz⟩ := hrel
    by_cases hlt : k < len
    · have hck : wr.cell? ⟨b, off + k, none⟩ = some (.int .i64 (zs[k]?.getD 0)) := (hbel.cell hb).trans (HC.out k (by omega))
      have hbd := sum_take_bd zs HZ.out k (by omega)
      have hhi := hi_bd (zs.take k).sum k (by omega) hbd.1 hbd.2 (by omega)
      have hzk := HZ.out k
      have c := hide (fun w => plus_any (zs.take k).sum (zs[k]?.getD 0) w hhi.1 hhi.2 hzk.1 hzk.2)
      have HS := hide (sum_take_succ zs k (by omega))
      clear hbd hhi hzk
      go_wp2_with fail
      go_region_with (go_at_call 113; refine (c.out _).mono ?_; rintro e w1 ⟨rfl, hb1⟩; have q0 := (hb1.cell (p := ⟨w.heap.size + 1, 0, none⟩) hsz).trans e0; have q1 := (hb1.cell (p := ⟨w.heap.size + 1, 1, none⟩) hsz).trans e1; have q4 := (hb1.frozen (p := ⟨w.heap.size + 1, 0, none⟩) hsz).trans e4; have q5 := (hb1.frozen (p := ⟨w.heap.size + 1, 1, none⟩) hsz).trans e5)
      all_goals
        go_wp2_with fail
        go_roundw
        case rel =>
          obtain ⟨t0, t1, t2⟩ := two_sets w1 (w.heap.size + 1) _ _ (.int .i64 (hiOf ((zs.take k).sum + zs[k]?.getD 0))) (.int .u64 (loOf ((zs.take k).sum + zs[k]?.getD 0))) q0 q1
          have r2 := (hb1.cell (p := ⟨w.heap.size, 0, none⟩) (by simp; omega)).trans e2
          have r3 := (hb1.cell (p := ⟨w.heap.size, 1, none⟩) (by simp; omega)).trans e3
          have r6 := (hb1.frozen (p := ⟨w.heap.size, 0, none⟩) (by simp; omega)).trans e6
          have r7 := (hb1.frozen (p := ⟨w.heap.size, 1, none⟩) (by simp; omega)).trans e7
          have rs : wr.heap.size ≤ w1.heap.size := hb1.size
          refine ⟨k + 1, by omega, by go_num, ?_, ?_, ?_, ?_, ?_, ?_, ?_, ?_, ?_, ?_⟩
          · rw [HS.out]; exact t0
          · rw [HS.out]; exact t1
          · exact (t2 _ _ (by omega)).trans r2
          · exact (t2 _ _ (by omega)).trans r3
          · rw [World.frozen?_setCell, World.frozen?_setCell]; exact q4
          · rw [World.frozen?_setCell, World.frozen?_setCell]; exact q5
          · rw [World.frozen?_setCell, World.frozen?_setCell]; exact r6
          · rw [World.frozen?_setCell, World.frozen?_setCell]; exact r7
          · exact Below.setCell (Below.setCell (hbel.drew.trans (hb1.mono (B' := w.heap.size) hbel.size)) (Nat.le_succ _) _) (Nat.le_succ _) _
          · rw [World.size_setCell, World.size_setCell]; omega
        case measure => simp [intOf]; omega
    · obtain rfl : k = len := by omega
      go_wp2_with fail
      refine bodyPost_ret (v := .agg #[.int .i64 (hiOf (zs.take k).sum), .int .u64 (loOf (zs.take k).sum)]) (by simp [results, Try.results72, go_sem, e2, e3]) rfl ⟨rfl, ?_⟩
      repeat (first | exact hbel | refine Below.setCell ?_ (by simp <;> omega) _ | refine Below.alloc ?_ (by simp <;> omega) _)
theorem reffit_any (n : Int) (w : World) (n0 : 0 ≤ n) (n1 : n ≤ 18446744073709551615) :
    Calls Try.prog 137 #[.int .u64 n] w fun e w' => e = .returned (.int .i64 (fitv n)) ∧ w' = w := by
  by_cases h : n ≤ 9223372036854775807
  · rw [fitv_in n h]
    go_enter Try.func137, Try.ntmps137
    go_wp2
    go_ret
    exact ⟨rfl, rfl⟩
  · rw [fitv_out n h]
    go_enter Try.func137, Try.ntmps137
    go_wp2
    go_ret
    exact ⟨rfl, rfl⟩


theorem refshare_no (n p i : Int) (w : World) (n0 : 0 ≤ n) (n1 : n ≤ 18446744073709551615) (h : p < 1 ∨ i < 0 ∨ p ≤ i) :
    Calls Try.prog 109 #[.int .u64 n, .int .i64 p, .int .i64 i] w fun e w' => e = .returned (.int .u64 (sharev n p i)) ∧ w' = w := by
  rw [sharev_no n p i h]
  by_cases h1 : p < 1
  · clear h
    go_enter Try.func109, Try.ntmps109
    go_wp2
    go_ret
    exact ⟨rfl, rfl⟩
  · by_cases h2 : i < 0
    · clear h
      go_enter Try.func109, Try.ntmps109
      go_wp2
      go_ret
      exact ⟨rfl, rfl⟩
    · have h3 : p ≤ i := by omega
      clear h
      go_enter Try.func109, Try.ntmps109
      go_wp2
      go_ret
      exact ⟨rfl, rfl⟩

theorem quo_mul (n p : Int) (n0 : 0 ≤ n) (h1 : 1 ≤ p) : 0 ≤ n / p * p ∧ n / p * p ≤ n ∧ n - n / p * p = n % p := by
  have h2 := Int.mul_ediv_add_emod n p
  have h3 := quo_bd n p n0 h1
  have h4 : 0 ≤ n / p * p := Int.mul_nonneg h3.1 (by omega)
  have h5 : n / p * p = p * (n / p) := Int.mul_comm _ _
  exact ⟨h4, by omega, by omega⟩

theorem refshare_more (n p i : Int) (w : World) (n0 : 0 ≤ n) (n1 : n ≤ 18446744073709551615) (h1 : 1 ≤ p) (p1 : p ≤ 9223372036854775807) (h2 : 0 ≤ i) (h3 : i < p) (h : i < n % p) :
    Calls Try.prog 109 #[.int .u64 n, .int .i64 p, .int .i64 i] w fun e w' => e = .returned (.int .u64 (sharev n p i)) ∧ w' = w := by
  rw [sharev_more n p i h1 h2 h3 h]
  have hb := quo_bd n p n0 h1
  have hc := quo_more n p n0 h1 (by omega)
  obtain ⟨m0, m1, m2⟩ := quo_mul n p n0 h1
  have h' : i < n - n / p * p := by omega
  clear m2 h
  obtain ⟨q0, q1, r0, r1⟩ := hb
  go_enter Try.func109, Try.ntmps109
  go_wp2
  go_ret
  exact ⟨rfl, rfl⟩

theorem refshare_less (n p i : Int) (w : World) (n0 : 0 ≤ n) (n1 : n ≤ 18446744073709551615) (h1 : 1 ≤ p) (p1 : p ≤ 9223372036854775807) (h2 : 0 ≤ i) (h3 : i < p) (h : ¬ i < n % p) :
    Calls Try.prog 109 #[.int .u64 n, .int .i64 p, .int .i64 i] w fun e w' => e = .returned (.int .u64 (sharev n p i)) ∧ w' = w := by
  rw [sharev_less n p i h1 h2 h3 h]
  have hb := quo_bd n p n0 h1
  obtain ⟨m0, m1, m2⟩ := quo_mul n p n0 h1
  have h' : ¬ i < n - n / p * p := by omega
  clear m2 h
  obtain ⟨q0, q1, r0, r1⟩ := hb
  go_enter Try.func109, Try.ntmps109
  go_wp2
  go_ret
  exact ⟨rfl, rfl⟩

theorem refshare_any (n p i : Int) (w : World) (n0 : 0 ≤ n) (n1 : n ≤ 18446744073709551615) (p1 : p ≤ 9223372036854775807) :
    Calls Try.prog 109 #[.int .u64 n, .int .i64 p, .int .i64 i] w fun e w' => e = .returned (.int .u64 (sharev n p i)) ∧ w' = w := by
  by_cases h : p < 1 ∨ i < 0 ∨ p ≤ i
  · exact refshare_no n p i w n0 n1 h
  · by_cases hm : i < n % p
    · exact refshare_more n p i w n0 n1 (by omega) p1 (by omega) (by omega) hm
    · exact refshare_less n p i w n0 n1 (by omega) p1 (by omega) (by omega) hm
theorem refhas_any (lo hi v : Int) (w : World) :
    Calls Try.prog 87 #[.agg #[.int .i64 lo, .int .i64 hi], .int .i64 v] w fun e w' => e = .returned (.bool (hasB lo hi v)) ∧ w' = w.alloc (.cells #[.int .i64 lo, .int .i64 hi] 23) := by
  by_cases h : lo ≤ v ∧ v ≤ hi
  · rw [hasB_true h]
    obtain ⟨h1, h2⟩ := h
    go_enter Try.func87, Try.ntmps87
    go_wp2
    go_ret
    exact ⟨rfl, rfl⟩
  · rw [hasB_false h]
    by_cases h1 : lo ≤ v
    · have h2 : ¬ v ≤ hi := fun x => h ⟨h1, x⟩
      clear h
      go_enter Try.func87, Try.ntmps87
      go_wp2
      go_ret
      exact ⟨rfl, rfl⟩
    · clear h
      go_enter Try.func87, Try.ntmps87
      go_wp2
      go_ret
      exact ⟨rfl, rfl⟩
end Go.Proofs.Ytjcbhgkfbilifaa
