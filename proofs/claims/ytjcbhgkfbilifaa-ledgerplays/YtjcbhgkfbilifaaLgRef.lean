/- The document's ledger: Group, May, below, Right, Net. Condition: the list can be read. -/
import Derived.Test.YtjcbhgkfbilifaaLgCheck
namespace Go.Proofs.Ytjcbhgkfbilifaa
open Go.ChangeShapes Go.WideShapes Go.ChangeAt Go.RowKit Ao Lg
set_option linter.unusedVariables false

set_option maxRecDepth 100000 in
theorem lrkey_any (k : ByteArray) (w : World) : Calls Try.prog 86 #[.string k] w fun e w' => e = .returned (.bool (keyB k)) ∧ w' = w := by
  unfold keyB
  by_cases h1 : 1 ≤ k.size
  · by_cases h2 : k.size ≤ 16
    · rw [decide_eq_true ⟨h1, h2⟩]
      go_enter Try.func86, Try.ntmps86
      go_wp2_with fail
      go_returns
      exact ⟨by first | rfl | (simp <;> omega), rfl⟩
    · rw [decide_eq_false fun h => h2 h.2]
      go_enter Try.func86, Try.ntmps86
      go_wp2_with fail
      go_returns
      exact ⟨by simp <;> omega, rfl⟩
  · rw [decide_eq_false fun h => h1 h.1]
    go_enter Try.func86, Try.ntmps86
    go_wp2_with fail
    go_returns
    exact ⟨by simp <;> omega, rfl⟩
set_option maxRecDepth 100000 in
theorem rgroup_any (g : Int) (w : World) : Calls Try.prog 76 #[.int .i64 g] w fun e w' => e = .returned (.bool (grpB g)) ∧ w' = w := by
  unfold grpB
  by_cases h : 1 ≤ g
  · go_enter Try.func76, Try.ntmps76
    go_wp2_with fail
    go_ret
    exact ⟨by simp [h], rfl⟩
  · go_enter Try.func76, Try.ntmps76
    go_wp2_with fail
    go_ret
    exact ⟨by simp <;> omega, rfl⟩
set_option maxRecDepth 100000 in
theorem rmay_any (r : Rt) (w : World) : Calls Try.prog 60 #[rval r] w fun e w' => e = .returned (.bool (mayB r)) ∧ Below w.heap.size w w' := by
  have C := fun W => hide (rgroup_any r.g W)
  have K := fun W => hide (lrkey_any r.k W)
  unfold mayB rval
  cases hg : grpB r.g
  · rw [hg] at C
    clear hg K
    go_enter Try.func60, Try.ntmps60
    go_wp2_with (go_at_call 76; refine (C _).out.mono ?_; rintro e w' ⟨rfl, hw⟩; rw [hw]; clear hw)
    go_returns
    exact ⟨rfl, by go_grown⟩
  · rw [hg] at C
    clear hg
    cases hk : keyB r.k
    · rw [hk] at K
      clear hk
      go_enter Try.func60, Try.ntmps60
      go_wp2_with (first | (go_at_call 76; refine (C _).out.mono ?_; rintro e w' ⟨rfl, hw⟩; rw [hw]; clear hw) | (go_at_call 86; refine (K _).out.mono ?_; rintro e w' ⟨rfl, hw⟩; rw [hw]; clear hw))
      go_returns
      exact ⟨rfl, by go_grown⟩
    · rw [hk] at K
      clear hk
      go_enter Try.func60, Try.ntmps60
      go_wp2_with (first | (go_at_call 76; refine (C _).out.mono ?_; rintro e w' ⟨rfl, hw⟩; rw [hw]; clear hw) | (go_at_call 86; refine (K _).out.mono ?_; rintro e w' ⟨rfl, hw⟩; rw [hw]; clear hw))
      go_returns
      exact ⟨by simp, by go_grown⟩
set_option maxRecDepth 100000 in
theorem rbelow_any (a b : Rt) (w : World) : Calls Try.prog 61 #[rval a, rval b] w fun e w' => e = .returned (.bool (decide (ordR a b < 0))) ∧ Below w.heap.size w w' := by
  have qL : Op.bytesLess a.k.toList b.k.toList = decide (cmpB a.k.data.toList b.k.data.toList < 0) := by rw [Lib.toList_data, Lib.toList_data, cmpB_less]
  have hO := @ord_neg a b
  unfold rval
  by_cases h1 : a.g < b.g
  · rw [decide_eq_true (hO.2 (.inl h1))]
    clear hO qL
    go_enter Try.func61, Try.ntmps61
    go_wp2_with fail
    go_returns
    exact ⟨rfl, by go_grown⟩
  · by_cases h2 : a.g = b.g
    · rw [show decide (ordR a b < 0) = decide (cmpB a.k.data.toList b.k.data.toList < 0) from decide_eq_decide.2 (by rw [hO]; exact ⟨fun h => h.elim (fun h => absurd h h1) (fun h => h.2), fun h => .inr ⟨h2, h⟩⟩)]
      clear hO
      generalize decide (cmpB a.k.data.toList b.k.data.toList < 0) = z at qL ⊢
      cases z
      all_goals
        go_enter Try.func61, Try.ntmps61
        go_wp2_with fail
        go_returns
        exact ⟨rfl, by go_grown⟩
    · rw [decide_eq_false (fun h => (hO.1 h).elim h1 (fun h => h2 h.1))]
      clear hO qL
      go_enter Try.func61, Try.ntmps61
      go_wp2_with fail
      go_returns
      exact ⟨rfl, by go_grown⟩
end Go.Proofs.Ytjcbhgkfbilifaa
