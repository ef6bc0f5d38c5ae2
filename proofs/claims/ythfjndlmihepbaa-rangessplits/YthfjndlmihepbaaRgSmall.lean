/- The landed code's and the document's small functions: who may stand, within, ends. No condition but that a list can be read. -/
import Derived.Test.YthfjndlmihepbaaRgMem
import Derived.Handy
import Derived.BigQuiet
import Derived.Shelf.Abstract
namespace Go.Proofs.Ythfjndlmihepbaa
open Go.ChangeShapes Go.WideShapes Go.ChangeAt Go.RowKit Rg
set_option linter.unusedVariables false

set_option maxRecDepth 100000 in
theorem group_any (g : Int) (w : World) : Calls Try.prog 36 #[.int .i64 g] w fun e w' => e = .returned (.bool (grpB g)) ∧ w' = w := by
  unfold grpB
  by_cases h : 1 ≤ g
  · go_enter Try.func36, Try.ntmps36
    go_wp2_with fail
    go_ret
    exact ⟨by simp [h], rfl⟩
  · go_enter Try.func36, Try.ntmps36
    go_wp2_with fail
    go_ret
    exact ⟨by simp <;> omega, rfl⟩
set_option maxRecDepth 100000 in
theorem key_any (k : ByteArray) (w : World) : Calls Try.prog 35 #[.string k] w fun e w' => e = .returned (.bool (keyB k)) ∧ w' = w := by
  unfold keyB
  by_cases h1 : 1 ≤ k.size
  · have i1 : (1 : Int) ≤ (k.size : Int) := by omega
    go_enter Try.func35, Try.ntmps35
    go_wp2_with fail
    go_returns
    exact ⟨by simp [h1] <;> omega, rfl⟩
  · have i1 : ¬ (1 : Int) ≤ (k.size : Int) := by omega
    go_enter Try.func35, Try.ntmps35
    go_wp2_with fail
    go_returns
    exact ⟨by simp <;> omega, rfl⟩
set_option maxRecDepth 100000 in
theorem may_any (r : Pc) (w : World) : Calls Try.prog 34 #[pval r] w fun e w' => e = .returned (.bool (mayB r)) ∧ Below w.heap.size w w' := by
  have C := fun W => hide (group_any r.g W)
  unfold mayB pval
  cases hg : grpB r.g
  · rw [hg] at C
    clear hg
    go_enter Try.func34, Try.ntmps34
    go_wp2_with (go_at_call 36; refine (C _).out.mono ?_; rintro e w' ⟨rfl, hw⟩; rw [hw]; clear hw)
    go_returns
    exact ⟨rfl, by go_grown⟩
  · rw [hg] at C
    clear hg
    by_cases h1 : r.k.size ≤ 16
    · have i1 : (r.k.size : Int) ≤ 16 := by omega
      by_cases h2 : 1 ≤ r.ep
      · go_enter Try.func34, Try.ntmps34
        go_wp2_with (go_at_call 36; refine (C _).out.mono ?_; rintro e w' ⟨rfl, hw⟩; rw [hw]; clear hw)
        go_returns
        exact ⟨by simp [h1, h2], by go_grown⟩
      · go_enter Try.func34, Try.ntmps34
        go_wp2_with (go_at_call 36; refine (C _).out.mono ?_; rintro e w' ⟨rfl, hw⟩; rw [hw]; clear hw)
        go_returns
        exact ⟨by simp <;> omega, by go_grown⟩
    · have i1 : ¬ (r.k.size : Int) ≤ 16 := by omega
      go_enter Try.func34, Try.ntmps34
      go_wp2_with (go_at_call 36; refine (C _).out.mono ?_; rintro e w' ⟨rfl, hw⟩; rw [hw]; clear hw)
      go_returns
      exact ⟨by simp <;> omega, by go_grown⟩
theorem none_lit : ({ data := #[] } : ByteArray) = none0 := rfl
set_option maxRecDepth 100000 in
theorem within_any (lo hi key : ByteArray) (w : World) : Calls Try.prog 13 #[.string lo, .string hi, .string key] w fun e w' => e = .returned (.bool (withinB lo hi key)) ∧ w' = w := by
  have q1 : Op.bytesLess key.toList lo.toList = ltB key lo := rfl
  have q2 : Op.bytesLess key.toList hi.toList = ltB key hi := rfl
  have q3 : (hi.toList == none0.toList) = decide (hi = none0) := by
    by_cases h : hi = none0
    · rw [h]; simp
    · rw [decide_eq_false h, beq_eq_false_iff_ne]; exact fun e => h (tl_inj e)
  rw [show none0.toList = [] from nl_none] at q3
  unfold withinB
  generalize ltB key lo = a at q1 ⊢
  generalize ltB key hi = b at q2 ⊢
  generalize decide (hi = none0) = c at q3 ⊢
  cases a <;> cases b <;> cases c
  all_goals
    go_enter Try.func13, Try.ntmps13
    go_wp2_with fail
    go_returns
    exact ⟨by first | rfl | simp, rfl⟩
set_option maxRecDepth 100000 in
theorem end_any {w : World} {a : Option Addr} {n c : Nat} {l : List Pc} (h : Ps w a n l) (i : Int) (hi : I64 i) :
    Calls Try.prog 18 #[.slice a n c, .int .i64 i] w fun e w' => e = .returned (.string (endV l i)) ∧ w' = w := by
  have hr := h.room
  unfold I64 at hi
  by_cases h1 : i < 0
  · rw [show endV l i = none0 from if_pos h1]
    clear h
    go_enter Try.func18, Try.ntmps18
    go_wp2_with fail
    go_returns
    exact ⟨rfl, rfl⟩
  · rw [show endV l i = endN l i.toNat from if_neg h1]
    by_cases h2 : (n : Int) - 1 ≤ i
    · rw [endN_none (by rw [h.len]; omega)]
      have i1 : IntKind.i64.wrap ((n : Int) - 1) = (n : Int) - 1 := by rw [IntKind.wrap_i64]; omega
      clear h
      go_enter Try.func18, Try.ntmps18
      go_wp2_with fail
      go_returns
      exact ⟨rfl, rfl⟩
    · obtain ⟨k, rfl⟩ : ∃ k : Nat, i = (k : Int) := ⟨i.toNat, by omega⟩
      have i1 : IntKind.i64.wrap ((n : Int) - 1) = (n : Int) - 1 := by rw [IntKind.wrap_i64]; omega
      have i2 : IntKind.i64.wrap ((k : Int) + 1) = (k : Int) + 1 := by rw [IntKind.wrap_i64]; omega
      have i3 : ((k : Int) + 1).toNat = k + 1 := by omega
      have i4 : ¬ (n : Int) - 1 ≤ (k : Int) := h2
      have i5 : (k : Int) + 1 < (n : Int) := by omega
      have i6 : (0 : Int) ≤ (k : Int) + 1 := by omega
      obtain ⟨b, off, x, rfl, hx, hb, M⟩ := ps_at h (show k + 1 < n by omega)
      rw [Int.toNat_natCast, endN_some hx]
      obtain ⟨c0, c1, c2⟩ := M
      clear h hx hb
      go_enter Try.func18, Try.ntmps18
      go_wp2_with fail
      go_returns
      exact ⟨rfl, rfl⟩
set_option maxRecDepth 100000 in
theorem rwithin_any (lo hi key : ByteArray) (w : World) : Calls Try.prog 14 #[.string lo, .string hi, .string key] w fun e w' => e = .returned (.bool (withinB lo hi key)) ∧ w' = w := by
  have q1 : Op.bytesLess key.toList lo.toList = ltB key lo := rfl
  have q2 : Op.bytesLess key.toList hi.toList = ltB key hi := rfl
  have q3 : (hi.toList == none0.toList) = decide (hi = none0) := by
    by_cases h : hi = none0
    · rw [h]; simp
    · rw [decide_eq_false h, beq_eq_false_iff_ne]; exact fun e => h (tl_inj e)
  rw [show none0.toList = [] from nl_none] at q3
  unfold withinB
  generalize ltB key lo = a at q1 ⊢
  generalize ltB key hi = b at q2 ⊢
  generalize decide (hi = none0) = c at q3 ⊢
  cases a <;> cases b <;> cases c
  all_goals
    go_enter Try.func14, Try.ntmps14
    go_wp2_with fail
    go_returns
    exact ⟨by first | rfl | simp, rfl⟩
set_option maxRecDepth 100000 in
theorem rend_any {w : World} {a : Option Addr} {n c : Nat} {l : List Pc} (h : Ps w a n l) (i : Int) (hi : I64 i) :
    Calls Try.prog 22 #[.slice a n c, .int .i64 i] w fun e w' => e = .returned (.string (endV l i)) ∧ w' = w := by
  have hr := h.room
  unfold I64 at hi
  by_cases h1 : i < 0
  · rw [show endV l i = none0 from if_pos h1]
    clear h
    go_enter Try.func22, Try.ntmps22
    go_wp2_with fail
    go_returns
    exact ⟨rfl, rfl⟩
  · rw [show endV l i = endN l i.toNat from if_neg h1]
    by_cases h2 : (n : Int) - 1 ≤ i
    · rw [endN_none (by rw [h.len]; omega)]
      have i1 : IntKind.i64.wrap ((n : Int) - 1) = (n : Int) - 1 := by rw [IntKind.wrap_i64]; omega
      clear h
      go_enter Try.func22, Try.ntmps22
      go_wp2_with fail
      go_returns
      exact ⟨rfl, rfl⟩
    · obtain ⟨k, rfl⟩ : ∃ k : Nat, i = (k : Int) := ⟨i.toNat, by omega⟩
      have i1 : IntKind.i64.wrap ((n : Int) - 1) = (n : Int) - 1 := by rw [IntKind.wrap_i64]; omega
      have i2 : IntKind.i64.wrap ((k : Int) + 1) = (k : Int) + 1 := by rw [IntKind.wrap_i64]; omega
      have i3 : ((k : Int) + 1).toNat = k + 1 := by omega
      have i4 : ¬ (n : Int) - 1 ≤ (k : Int) := h2
      have i5 : (k : Int) + 1 < (n : Int) := by omega
      have i6 : (0 : Int) ≤ (k : Int) + 1 := by omega
      obtain ⟨b, off, x, rfl, hx, hb, M⟩ := ps_at h (show k + 1 < n by omega)
      rw [Int.toNat_natCast, endN_some hx]
      obtain ⟨c0, c1, c2⟩ := M
      clear h hx hb
      go_enter Try.func22, Try.ntmps22
      go_wp2_with fail
      go_returns
      exact ⟨rfl, rfl⟩
end Go.Proofs.Ythfjndlmihepbaa
