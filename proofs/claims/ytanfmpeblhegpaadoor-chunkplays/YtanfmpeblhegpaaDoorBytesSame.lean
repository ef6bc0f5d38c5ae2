/- The law folder's helper Bytes. No condition but a size. -/
import Derived.Test.YtanfmpeblhegpaaDoorPl8
import Derived.BigQuiet
import Derived.Handy
namespace Go.Proofs.YtanfmpeblhegpaaDoor
open Go.ChangeShapes Go.WideShapes Go.ChangeAt Go.RowKit B8
set_option linter.unusedVariables false

theorem below_drewN8 {B : Nat} {w w1 : World} (h : Below B w w1) (n : Nat) : Below B w (w1.drewN n) := ⟨h.os, h.tape, h.output, h.size, h.block⟩
theorem plain_far (a a' : Option Addr) (len cap len' cap' : Nat) (w : World) (h : ¬ len = len') :
    Calls Tryd.prog 24 #[.slice a len cap, .slice a' len' cap'] w fun e w' => e = .returned (.bool false) ∧ ∃ n, w' = w.drewN n := by
  have h1 : ((len : Int) != (len' : Int)) = true := by simp; omega
  go_enter Tryd.func24, Tryd.ntmps24
  go_wp2_with fail
  go_ret
  exact ⟨rfl, 0, rfl⟩
theorem eq_of_at {zs ys : List Int} (hl : zs.length = ys.length) (h : ∀ j, j < zs.length → zs[j]?.getD 0 = ys[j]?.getD 0) : zs = ys := by
  apply List.ext_getElem hl
  intro j h1 h2
  have := h j h1
  rw [List.getElem?_eq_getElem h1, List.getElem?_eq_getElem h2] at this
  simpa using this
set_option maxRecDepth 100000 in
theorem plain_same {b off cap b' off' cap' len : Nat} {zs ys : List Int} {w : World} (hm : len ≤ 140737488355328) (hz : zs.length = len) (hy : ys.length = len)
    (hc : ∀ j, j < len → w.cell? ⟨b, off + j, none⟩ = some (.int .u8 (zs[j]?.getD 0))) (hc' : ∀ j, j < len → w.cell? ⟨b', off' + j, none⟩ = some (.int .u8 (ys[j]?.getD 0))) :
    Calls Tryd.prog 24 #[.slice (some ⟨b, off, none⟩) len cap, .slice (some ⟨b', off', none⟩) len cap'] w fun e w' => e = .returned (.bool (decide (zs = ys))) ∧ ∃ n, w' = w.drewN n := by
  have HC := hide hc
  have HC' := hide hc'
  have HZ := hide hz
  have HY := hide hy
  clear hc hc' hz hy
  go_enter Tryd.func24, Tryd.ntmps24
  go_wp2_with fail
  go_loopw [5] (fun i wr => ∃ k n : Nat, k ≤ len ∧ i = .int .i64 k ∧ wr = w.drewN n ∧ Hid (∀ j, j < k → zs[j]?.getD 0 = ys[j]?.getD 0)) (fun i _ => len - (intOf i).toNat)
  case atStart => exact ⟨0, 0, Nat.zero_le _, rfl, rfl, fun j hj => absurd hj (by omega)⟩
  case round =>
    obtain ⟨k, n, hk, rfl, rfl, HE⟩ := hrel
    by_cases hlt : k < len
    · have h1 := HC.out k hlt
      have h2 := HC'.out k hlt
      obtain ⟨x, ex⟩ : ∃ x, x = zs[k]?.getD 0 := ⟨_, rfl⟩
      obtain ⟨y, ey⟩ : ∃ y, y = ys[k]?.getD 0 := ⟨_, rfl⟩
      rw [← ex] at h1
      rw [← ey] at h2
      have EX := hide ex
      have EY := hide ey
      clear ex ey
      have hi : (k : Int) < (len : Int) := by omega
      by_cases hxy : x = y
      · subst hxy
        have E2 : Hid (∀ j, j < k + 1 → zs[j]?.getD 0 = ys[j]?.getD 0) := fun j hj => by
          by_cases e : j = k
          · subst e
            exact EX.out.symm.trans EY.out
          · exact HE.out j (by omega)
        go_wp2_with fail
        go_quiet (fail)
        go_wp2_with fail
        go_roundw
        case rel => exact ⟨k + 1, _, by omega, by go_num, rfl, E2⟩
        case measure => simp [intOf]; omega
      · have n2 : (x != y) = true := by simpa using hxy
        have NE : Hid (decide (zs = ys) = false) := decide_eq_false (fun e => hxy (by rw [EX.out, EY.out, e]))
        go_wp2_with fail
        go_quiet (fail)
        go_wp2_with fail
        go_ret
        exact ⟨congrArg (fun b => Ending.returned (.bool b)) NE.out.symm, _, World.drewN_drewN _ _ _⟩
    · have EE : Hid (decide (zs = ys) = true) := decide_eq_true (eq_of_at (by rw [HZ.out, HY.out]) (fun j hj => HE.out j (by rw [HZ.out] at hj; omega)))
      go_wp2_with fail
      go_ret
      exact ⟨congrArg (fun b => Ending.returned (.bool b)) EE.out.symm, n, rfl⟩
theorem plain_eq {a a' : Option Addr} {len cap len' cap' : Nat} {zs ys : List Int} {w : World} (h : Sq w a len cap zs) (h' : Sq w a' len' cap' ys) (hm : len ≤ 140737488355328) :
    Calls Tryd.prog 24 #[.slice a len cap, .slice a' len' cap'] w fun e w' => e = .returned (.bool (decide (zs = ys))) ∧ ∃ n, w' = w.drewN n := by
  by_cases hl : len = len'
  · subst hl
    rcases Nat.eq_zero_or_pos len with rfl | h0
    · obtain rfl : zs = [] := List.eq_nil_of_length_eq_zero h.length
      obtain rfl : ys = [] := List.eq_nil_of_length_eq_zero h'.length
      rw [decide_eq_true rfl]
      exact plain_sq h h' hm
    · obtain ⟨b, off, rfl, hc⟩ := h.cells h0
      obtain ⟨b', off', rfl, hc'⟩ := h'.cells h0
      exact plain_same hm h.length h'.length hc hc'
  · rw [decide_eq_false (fun e => hl (by rw [← h.length, ← h'.length, e]))]
    exact plain_far _ _ _ _ _ _ _ hl
theorem bytes_eq {a a' : Option Addr} {len cap len' cap' : Nat} {zs ys : List Int} {w : World} (h : Sq w a len cap zs) (h' : Sq w a' len' cap' ys) (hm : len ≤ 140737488355328) :
    Calls Tryd.prog 16 #[.slice a len cap, .slice a' len' cap'] w fun e w' => e = .returned (.bool (decide (zs = ys))) ∧ ∃ n, w' = w.drewN n := by
  have C := hide (plain_eq h h' hm)
  clear h h'
  generalize decide (zs = ys) = r at *
  go_enter Tryd.func16, Tryd.ntmps16
  go_wp2_with fail
  refine C.out.mono ?_
  rintro e w1 ⟨rfl, n1, rfl⟩
  go_wp2_with fail
  go_ret
  exact ⟨rfl, n1, rfl⟩
theorem bytes_lit {a a' : Option Addr} {len cap len' cap' : Nat} {zs ys : List Int} {w : World} (h : Sq w a len cap zs) (h' : Sq w a' len' cap' ys) (hm : len ≤ 140737488355328) {x : Bool} (e : decide (zs = ys) = x) :
    Calls Tryd.prog 16 #[.slice a len cap, .slice a' len' cap'] w fun e w' => e = .returned (.bool x) ∧ Below w.heap.size w w' := e ▸ (bytes_eq h h' hm).mono fun e w' ⟨he, n, hw⟩ => ⟨he, by rw [hw]; exact below_drewN8 (Below.refl _ _) n⟩
end Go.Proofs.YtanfmpeblhegpaaDoor
