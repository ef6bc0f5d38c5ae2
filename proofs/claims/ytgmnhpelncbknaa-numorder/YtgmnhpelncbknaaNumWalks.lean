/- What the calls of package num return, at the landed code: addTurns, Add, May, and the law folder's awake. No condition but that the numbers are ints. -/
import Derived.Test.YtgmnhpelncbknaaChecked
import Derived.WalkKit
import Derived.WalkLawsBesides
import Derived.ProofKit
import Derived.OpenShut
import Derived.Below

namespace Go.Proofs.Ytgmnhpelncbknaa
open Go.ChangeShapes Go.WideShapes Go.ChangeAt Go.RowKit

theorem hide {p : Prop} (h : p) : Hid p := h

theorem bcell {W w1 : World} (hb : Below W.heap.size W w1) : (∀ b o, b < W.heap.size → w1.cell? ⟨b, o, none⟩ = W.cell? ⟨b, o, none⟩) ∧ (∀ b o, b < W.heap.size → w1.frozen? ⟨b, o, none⟩ = W.frozen? ⟨b, o, none⟩) :=
  ⟨fun b o h => hb.cell (p := ⟨b, o, none⟩) h, fun b o h => hb.frozen (p := ⟨b, o, none⟩) h⟩
theorem wrapU (n : Int) : IntKind.u64.wrap n = n % 18446744073709551616 := by simp [IntKind.wrap, IntKind.bits, IntKind.signed]

theorem ret1 {k : IntKind} {a b : Int} (h : a = b) : Ending.returned (.int k a) = .returned (.int k b) := by rw [h]
theorem ret2 {k k' : IntKind} {a b c d : Int} (h : a = b) (h' : c = d) : Ending.returned (.tuple #[.int k a, .int k' c]) = .returned (.tuple #[.int k b, .int k' d]) := by rw [h, h']

/-- how often the sum goes round the ints -/
def turns (a b : Int) : Int := if 9223372036854775807 < a + b then 1 else if a + b < -9223372036854775808 then -1 else 0

theorem turns_zero (a b : Int) (h1 : a + b ≤ 9223372036854775807) (h2 : -9223372036854775808 ≤ a + b) : turns a b = 0 := by
  unfold turns; rw [if_neg (by omega), if_neg (by omega)]
theorem turns_one (a b : Int) (h1 : 9223372036854775807 < a + b) : turns a b = 1 := by
  unfold turns; rw [if_pos h1]
theorem turns_neg (a b : Int) (h1 : a + b < -9223372036854775808) : turns a b = -1 := by
  unfold turns; rw [if_neg (by omega), if_pos h1]

theorem addTurns_any (a b : Int) (w : World) (a1 : -9223372036854775808 ≤ a) (a2 : a ≤ 9223372036854775807) (b1 : -9223372036854775808 ≤ b) (b2 : b ≤ 9223372036854775807) :
    Calls Try.prog 31 #[.int .i64 a, .int .i64 b] w fun e w' => e = .returned (.int .i64 (turns a b)) ∧ w' = w := by
  by_cases hb : 0 ≤ b
  · by_cases hs : a + b ≤ 9223372036854775807
    · rw [turns_zero a b hs (by omega)]
      go_enter Try.func31, Try.ntmps31
      go_wp2
      go_ret
      exact ⟨rfl, rfl⟩
    · have hw : wrap64 (a + b) < a := by unfold wrap64; omega
      rw [turns_one a b (by omega)]
      go_enter Try.func31, Try.ntmps31
      go_wp2
      go_ret
      exact ⟨rfl, rfl⟩
  · by_cases hs : -9223372036854775808 ≤ a + b
    · rw [turns_zero a b (by omega) hs]
      go_enter Try.func31, Try.ntmps31
      go_wp2
      go_ret
      exact ⟨rfl, rfl⟩
    · have hw : a < wrap64 (a + b) := by unfold wrap64; omega
      rw [turns_neg a b (by omega)]
      go_enter Try.func31, Try.ntmps31
      go_wp2
      go_ret
      exact ⟨rfl, rfl⟩

/-- Add, where the sum is an int -/
theorem add_yes (a b : Int) (w : World) (a1 : -9223372036854775808 ≤ a) (a2 : a ≤ 9223372036854775807) (b1 : -9223372036854775808 ≤ b) (b2 : b ≤ 9223372036854775807)
    (h1 : -9223372036854775808 ≤ a + b) (h2 : a + b ≤ 9223372036854775807) :
    Calls Try.prog 9 #[.int .i64 a, .int .i64 b] w fun e w' => e = .returned (.tuple #[.int .i64 (a + b), .int .i64 0]) ∧ w' = w := by
  have ht := addTurns_any a b w a1 a2 b1 b2
  rw [turns_zero a b h2 h1] at ht
  have H := hide ht
  clear ht
  go_enter Try.func9, Try.ntmps9
  go_wp2_with (go_at_call 31; refine H.out.mono ?_; rintro e w' ⟨rfl, rfl⟩)
  go_ret2
  exact ⟨rfl, rfl⟩

/-- Add, where it is none -/
theorem add_no (a b : Int) (w : World) (a1 : -9223372036854775808 ≤ a) (a2 : a ≤ 9223372036854775807) (b1 : -9223372036854775808 ≤ b) (b2 : b ≤ 9223372036854775807)
    (h : 9223372036854775807 < a + b ∨ a + b < -9223372036854775808) :
    Calls Try.prog 9 #[.int .i64 a, .int .i64 b] w fun e w' => e = .returned (.tuple #[.int .i64 0, .int .i64 10]) ∧ w' = w := by
  have ht := addTurns_any a b w a1 a2 b1 b2
  rcases h with h | h
  · rw [turns_one a b h] at ht
    have H := hide ht
    clear ht
    go_enter Try.func9, Try.ntmps9
    go_wp2_with (go_at_call 31; refine H.out.mono ?_; rintro e w' ⟨rfl, rfl⟩)
    go_ret2
    exact ⟨rfl, rfl⟩
  · rw [turns_neg a b h] at ht
    have H := hide ht
    clear ht
    go_enter Try.func9, Try.ntmps9
    go_wp2_with (go_at_call 31; refine H.out.mono ?_; rintro e w' ⟨rfl, rfl⟩)
    go_ret2
    exact ⟨rfl, rfl⟩

theorem may_any (lo hi : Int) (w : World) :
    Calls Try.prog 24 #[.agg #[.int .i64 lo, .int .i64 hi]] w fun e w' => e = .returned (.bool (decide (lo ≤ hi))) ∧ w' = w.alloc (.cells #[.int .i64 lo, .int .i64 hi] 34) := by
  go_enter Try.func24, Try.ntmps24
  go_wp2
  go_ret
  exact ⟨rfl, rfl⟩

theorem awake_any (w : World) :
    Calls Try.prog 13 #[] w fun e w' => e = .returned (.bool true) ∧ w' = w.alloc (.cells #[.int .i64 1, .int .i64 2] 34) := by
  go_enter Try.func13, Try.ntmps13
  go_wp2_with (first | (go_at_call 9; refine (add_yes 2 3 _ (by decide) (by decide) (by decide) (by decide) (by decide) (by decide)).mono ?_; rintro e w' ⟨rfl, rfl⟩) | (go_at_call 24; refine (may_any 1 2 _).mono ?_; rintro e w' ⟨rfl, rfl⟩))
  go_ret
  exact ⟨rfl, rfl⟩
end Go.Proofs.Ytgmnhpelncbknaa
