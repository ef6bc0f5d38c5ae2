/- What the law folder's helpers Plain and Kept answer where the lists are alike, at the landed code. No condition but that the lists are lists of ints. -/
import Derived.Test.YtgmnhpelncbknaaHelpOwn
import Derived.BigQuiet
namespace Go.Proofs.Ytgmnhpelncbknaa
open Go.ChangeShapes Go.WideShapes Go.ChangeAt Go.RowKit
set_option linter.unusedVariables false

theorem plain_none (a a' : Option Addr) (cap cap' : Nat) (w : World) :
    Calls Try.prog 35 #[.slice a 0 cap, .slice a' 0 cap'] w fun e w' => e = .returned (.bool true) ∧ ∃ n, w' = w.drewN n := by
  go_enter Try.func35, Try.ntmps35
  go_wp2_with fail
  refine wp_loop_rounds 1 ?_
  rw [rounds_succ]
  go_wp2_with fail
  go_ret
  exact ⟨rfl, 0, rfl⟩

theorem plain_some (b off cap b' off' cap' len : Nat) (zs : List Int) (w : World) (hm : len * 8 ≤ 140737488351232)
    (hc : ∀ j, j < len → w.cell? ⟨b, off + j, none⟩ = some (.int .i64 (zs[j]?.getD 0))) (hc' : ∀ j, j < len → w.cell? ⟨b', off' + j, none⟩ = some (.int .i64 (zs[j]?.getD 0))) :
    Calls Try.prog 35 #[.slice (some ⟨b, off, none⟩) len cap, .slice (some ⟨b', off', none⟩) len cap'] w fun e w' => e = .returned (.bool true) ∧ ∃ n, w' = w.drewN n := by
  have HC := hide hc
  have HC' := hide hc'
  clear hc hc'
  go_enter Try.func35, Try.ntmps35
  go_wp2_with fail
  go_loopw [5] (fun i wr => ∃ k n : Nat, k ≤ len ∧ i = .int .i64 k ∧ wr = w.drewN n) (fun i _ => len - (intOf i).toNat)
  case atStart => exact ⟨0, 0, Nat.zero_le _, rfl, rfl⟩
  case round =>
    obtain ⟨k, n, hk, rfl, rfl⟩ := hrel
    by_cases hlt : k < len
    · have h1 := HC.out k hlt
      have h2 := HC'.out k hlt
      have hi : (k : Int) < (len : Int) := by omega
      go_wp2_with fail
      go_quiet (fail)
      go_wp2_with fail
      go_roundw
      case rel => exact ⟨k + 1, _, by omega, by go_num, rfl⟩
      case measure => simp [intOf]; omega
    · go_wp2_with fail
      go_ret
      exact ⟨rfl, n, rfl⟩

theorem plain_sl {a a' : Option Addr} {len cap cap' : Nat} {zs : List Int} {w : World} (h : Sl w a len cap zs) (h' : Sl w a' len cap' zs) :
    Calls Try.prog 35 #[.slice a len cap, .slice a' len cap'] w fun e w' => e = .returned (.bool true) ∧ ∃ n, w' = w.drewN n := by
  by_cases h0 : 0 < len
  · obtain ⟨b, off, rfl, hc⟩ := h.cells h0
    obtain ⟨b', off', rfl, hc'⟩ := h'.cells h0
    exact plain_some b off cap b' off' cap' len zs w h.room hc hc'
  · obtain rfl : len = 0 := by omega
    exact plain_none a a' cap cap' w

theorem kept_sl {g len : Nat} {a : Option Addr} {cap : Nat} {zs : List Int} {w : World} (m : Int) (h : Sl w (some ⟨g, 0, none⟩) len (len + 2) zs) (h' : Sl w a len cap zs)
    (h1 : w.cell? ⟨g, len, none⟩ = some (.int .i64 m)) (h2 : w.cell? ⟨g, len + 1, none⟩ = some (.int .i64 m)) :
    Calls Try.prog 17 #[.slice (some ⟨g, 0, none⟩) len (len + 2), .slice a len cap, .int .i64 m] w fun e w' => e = .returned (.bool true) ∧ ∃ n, w' = w.drewN n := by
  have c := hide (plain_sl h h')
  have hr := h.room
  clear h h'
  go_enter Try.func17, Try.ntmps17
  go_wp2_with fail
  refine c.out.mono ?_
  rintro e w' ⟨rfl, n, rfl⟩
  go_wp2_with fail
  go_ret
  exact ⟨rfl, n, rfl⟩

/-- what Own has made, as a list -/
theorem sl_own {w : World} {B g len : Nat} {zs : List Int} {m : Int} (hl : zs.length = len) (hi : ints zs) (hr : len * 8 ≤ 140737488351232)
    (h : w.ownsRow B 3 1 (.slice (some ⟨g, 0, none⟩) (len + 2) (len + 2)) (len + 2) ((zs ++ [m, m]).map (Value.int .i64))) :
    Sl w (some ⟨g, 0, none⟩) len (len + 2) zs ∧ w.cell? ⟨g, len, none⟩ = some (.int .i64 m) ∧ w.cell? ⟨g, len + 1, none⟩ = some (.int .i64 m) := by
  refine ⟨⟨hl, by omega, fun h => absurd h (by simp), fun h0 => ⟨g, 0, rfl, fun j hj => ?_⟩, hi, hr⟩, ?_, ?_⟩
  · rw [Nat.zero_add, h.cellAt j (by omega)]
    have hj' : j < zs.length := by omega
    rw [List.map_append, List.getElem?_append_left (by simpa using hj')]
    simp [hj']
  · rw [h.cellAt len (by omega)]
    simp [← hl]
  · rw [h.cellAt (len + 1) (by omega)]
    simp [← hl]
end Go.Proofs.Ytgmnhpelncbknaa
