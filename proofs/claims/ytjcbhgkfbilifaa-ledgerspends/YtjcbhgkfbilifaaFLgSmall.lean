/- What may stand in a ledger, and how texts compare: the landed code's small functions. No condition. -/
import Derived.Test.YtjcbhgkfbilifaaFLgMem
import Derived.Test.YtjcbhgkfbilifaaFAcoPlace
import Derived.Lib.Bytealg
namespace Go.Proofs.Ytjcbhgkfbilifaa
open Go.ChangeShapes Go.WideShapes Go.ChangeAt Go.RowKit Ao Lg
set_option linter.unusedVariables false

set_option maxRecDepth 100000 in
theorem group_any (g : Int) (w : World) : Calls Try.prog 118 #[.int .i64 g] w fun e w' => e = .returned (.bool (grpB g)) ∧ w' = w := by
  unfold grpB
  by_cases h : 1 ≤ g
  · go_enter Try.func118, Try.ntmps118
    go_wp2_with fail
    go_ret
    exact ⟨by simp [h], rfl⟩
  · go_enter Try.func118, Try.ntmps118
    go_wp2_with fail
    go_ret
    exact ⟨by simp <;> omega, rfl⟩
set_option maxRecDepth 100000 in
theorem may_any (r : Rt) (w : World) : Calls Try.prog 62 #[rval r] w fun e w' => e = .returned (.bool (mayB r)) ∧ Below w.heap.size w w' := by
  have C := fun W => hide (group_any r.g W)
  unfold mayB keyB rval
  cases hg : grpB r.g
  · rw [hg] at C
    clear hg
    go_enter Try.func62, Try.ntmps62
    go_wp2_with (go_at_call 118; refine (C _).out.mono ?_; rintro e w' ⟨rfl, hw⟩; rw [hw]; clear hw)
    go_returns
    exact ⟨rfl, by go_grown⟩
  · rw [hg] at C
    clear hg
    by_cases h1 : 1 ≤ r.k.size
    · by_cases h2 : r.k.size ≤ 16
      · have i1 : (1 : Int) ≤ (r.k.size : Int) := by omega
        have i2 : (r.k.size : Int) ≤ 16 := by omega
        rw [decide_eq_true ⟨h1, h2⟩]
        go_enter Try.func62, Try.ntmps62
        go_wp2_with (go_at_call 118; refine (C _).out.mono ?_; rintro e w' ⟨rfl, hw⟩; rw [hw]; clear hw)
        go_returns
        exact ⟨by simp, by go_grown⟩
      · have i1 : (1 : Int) ≤ (r.k.size : Int) := by omega
        have i2 : ¬ (r.k.size : Int) ≤ 16 := by omega
        rw [decide_eq_false (fun h => h2 h.2)]
        go_enter Try.func62, Try.ntmps62
        go_wp2_with (go_at_call 118; refine (C _).out.mono ?_; rintro e w' ⟨rfl, hw⟩; rw [hw]; clear hw)
        go_returns
        exact ⟨by simp, by go_grown⟩
    · have i1 : ¬ (1 : Int) ≤ (r.k.size : Int) := by omega
      rw [decide_eq_false (fun h => h1 h.1)]
      go_enter Try.func62, Try.ntmps62
      go_wp2_with (go_at_call 118; refine (C _).out.mono ?_; rintro e w' ⟨rfl, hw⟩; rw [hw]; clear hw)
      go_returns
      exact ⟨by simp, by go_grown⟩
set_option maxRecDepth 100000 in
theorem cstr_any (a b : ByteArray) (w : World) : Calls Try.prog 143 #[.string a, .string b] w fun e w' => e = .returned (.int .i64 (cmpB a.data.toList b.data.toList)) ∧ w' = w := by
  go_enter Try.func143, Try.ntmps143
  go_wp2_with fail
  rw [run_callFunc_extern Try.func149 (by kernel_rfl) (by kernel_rfl) (by kernel_rfl) (e := Extern.BytealgCompare.compare) (by kernel_rfl), Lib.run_compareString]
  simp only [Result.andThen]
  rw [Oper.upon_value]
  go_wp2_with fail
  go_ret
  exact ⟨rfl, rfl⟩
set_option maxRecDepth 100000 in
theorem scmp_any (a b : ByteArray) (w : World) : Calls Try.prog 123 #[.string a, .string b] w fun e w' => e = .returned (.int .i64 (cmpB a.data.toList b.data.toList)) ∧ w' = w := by
  have C := fun W => hide (cstr_any a b W)
  generalize cmpB a.data.toList b.data.toList = z at C ⊢
  go_enter Try.func123, Try.ntmps123
  go_wp2_with fail
  refine (C _).out.mono ?_
  rintro e w1 ⟨rfl, rfl⟩
  go_wp2_with fail
  go_ret
  exact ⟨rfl, rfl⟩
set_option maxRecDepth 100000 in
theorem or_any {w : World} {g : Nat} {x y z : Int} (ez : (if x = 0 then y else x) = z) (h0 : w.cell? ⟨g, 0, none⟩ = some (.int .i64 x)) (h1 : w.cell? ⟨g, 1, none⟩ = some (.int .i64 y)) :
    Calls Try.prog 121 #[.slice (some ⟨g, 0, none⟩) 2 2] w fun e w' => e = .returned (.int .i64 z) ∧ Below w.heap.size w w' := by
  subst ez
  by_cases hx : x = 0
  · subst hx
    rw [if_pos rfl]
    by_cases hy : y = 0
    · subst hy
      go_enter Try.func121, Try.ntmps121
      go_wp2_with fail
      refine wp_loop_rounds 3 ?_
      rw [rounds_succ]
      go_wp2_with fail
      rw [rounds_succ]
      go_wp2_with fail
      rw [rounds_succ]
      go_wp2_with fail
      go_returns
      exact ⟨rfl, by go_grown⟩
    · go_enter Try.func121, Try.ntmps121
      go_wp2_with fail
      refine wp_loop_rounds 2 ?_
      rw [rounds_succ]
      go_wp2_with fail
      rw [rounds_succ]
      go_wp2_with fail
      go_returns
      exact ⟨rfl, by go_grown⟩
  · rw [if_neg hx]
    go_enter Try.func121, Try.ntmps121
    go_wp2_with fail
    refine wp_loop_rounds 1 ?_
    rw [rounds_succ]
    go_wp2_with fail
    go_returns
    exact ⟨rfl, by go_grown⟩
set_option maxRecDepth 100000 in
theorem unspent_any (r : Rt) (w : World) : Calls Try.prog 82 #[rval r] w fun e w' => e = .returned (rval (unR r)) ∧ Below w.heap.size w w' := by
  unfold rval unR
  go_enter Try.func82, Try.ntmps82
  go_wp2_with fail
  go_returns
  exact ⟨rfl, by go_grown⟩
end Go.Proofs.Ytjcbhgkfbilifaa
