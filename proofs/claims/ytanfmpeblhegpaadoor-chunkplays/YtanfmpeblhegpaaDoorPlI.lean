/- What the law folder's helper Plain does with two lists of numbers of one kind that are alike, at the landed code. No condition but the size. -/
import Derived.Test.YtanfmpeblhegpaaDoorSqI
namespace Go.Proofs.YtanfmpeblhegpaaDoor
namespace I8
open Go.ChangeShapes Go.WideShapes Go.ChangeAt Go.RowKit
set_option linter.unusedVariables false

theorem plain_none (a a' : Option Addr) (cap cap' : Nat) (w : World) :
    Calls Tryd.prog 13 #[.slice a 0 cap, .slice a' 0 cap'] w fun e w' => e = .returned (.bool true) ∧ ∃ n, w' = w.drewN n := by
  go_enter Tryd.func13, Tryd.ntmps13
  go_wp2_with fail
  refine wp_loop_rounds 1 ?_
  rw [rounds_succ]
  go_wp2_with fail
  go_ret
  exact ⟨rfl, 0, rfl⟩

theorem plain_some (b off cap b' off' cap' len : Nat) (zs : List Int) (w : World) (hm : len ≤ 140737488355328)
    (hc : ∀ j, j < len → w.cell? ⟨b, off + j, none⟩ = some (.int .i64 (zs[j]?.getD 0))) (hc' : ∀ j, j < len → w.cell? ⟨b', off' + j, none⟩ = some (.int .i64 (zs[j]?.getD 0))) :
    Calls Tryd.prog 13 #[.slice (some ⟨b, off, none⟩) len cap, .slice (some ⟨b', off', none⟩) len cap'] w fun e w' => e = .returned (.bool true) ∧ ∃ n, w' = w.drewN n := by
  have HC := hide hc
  have HC' := hide hc'
  clear hc hc'
  go_enter Tryd.func13, Tryd.ntmps13
  go_wp2_with fail
  go_loopw [5] (fun i wr => ∃ k n : Nat, k ≤ len ∧ i = .int .i64 k ∧ wr = w.drewN n) (fun i _ => len - (intOf i).toNat)
  case atStart => exact ⟨0, 0, Nat.zero_le _, rfl, rfl⟩
  case round =>
    obtain ⟨k, n, hk, rfl, rfl⟩ := hrel
    by_cases hlt : k < len
    · have h1 := HC.out k hlt
      have h2 := HC'.out k hlt
      have hi : (k : Int) < (len : Int) := by omega
      go_wp2_with fail
      go_quiet (fail)
      go_wp2_with fail
      go_roundw
      case rel => exact ⟨k + 1, _, by omega, by go_num, rfl⟩
      case measure => simp [intOf]; omega
    · go_wp2_with fail
      go_ret
      exact ⟨rfl, n, rfl⟩

theorem plain_sq {a a' : Option Addr} {len cap cap' : Nat} {zs : List Int} {w : World} (h : Sq w a len cap zs) (h' : Sq w a' len cap' zs) (hm : len ≤ 140737488355328) :
    Calls Tryd.prog 13 #[.slice a len cap, .slice a' len cap'] w fun e w' => e = .returned (.bool true) ∧ ∃ n, w' = w.drewN n := by
  by_cases h0 : 0 < len
  · obtain ⟨b, off, rfl, hc⟩ := h.cells h0
    obtain ⟨b', off', rfl, hc'⟩ := h'.cells h0
    exact plain_some b off cap b' off' cap' len zs w hm hc hc'
  · obtain rfl : len = 0 := by omega
    exact plain_none a a' cap cap' w

end I8
end Go.Proofs.YtanfmpeblhegpaaDoor
