/- What the law folder's helpers Plain and Bytes answer of any two lists of bytes: true if they are alike. No condition but the size. -/
import Derived.Test.YtadjdiocipahhabPl8
import Derived.Test.YtadjdiocipahhabCodecAt
namespace Go.Proofs.Ytadjdiocipahhab
open Go.ChangeShapes Go.WideShapes Go.ChangeAt Go.RowKit B8 Cm
set_option linter.unusedVariables false

theorem plain_unlike (a a' : Option Addr) (len cap len' cap' : Nat) (w : World) (h : ¬ len = len') :
    Calls Try.prog 40 #[.slice a len cap, .slice a' len' cap'] w fun e w' => e = .returned (.bool false) ∧ ∃ n, w' = w.drewN n := by
  have h1 : ((len : Int) != (len' : Int)) = true := by simp; omega
  go_enter Try.func40, Try.ntmps40
  go_wp2_with fail
  go_ret
  exact ⟨rfl, 0, rfl⟩

theorem plain_two (b off cap b' off' cap' len : Nat) (zs ys : List Int) (w : World) (hm : len ≤ 140737488355328)
    (hc : ∀ j, j < len → w.cell? ⟨b, off + j, none⟩ = some (.int .u8 (zs[j]?.getD 0))) (hc' : ∀ j, j < len → w.cell? ⟨b', off' + j, none⟩ = some (.int .u8 (ys[j]?.getD 0))) :
    Calls Try.prog 40 #[.slice (some ⟨b, off, none⟩) len cap, .slice (some ⟨b', off', none⟩) len cap'] w fun e w' => ∃ r, e = .returned (.bool r) ∧ ((∀ j, j < len → zs[j]?.getD 0 = ys[j]?.getD 0) → r = true) ∧ ∃ n, w' = w.drewN n := by
  have HC := hide hc
  have HC' := hide hc'
  clear hc hc'
  go_enter Try.func40, Try.ntmps40
  go_wp2_with fail
  go_loopw [5] (fun i wr => ∃ k n : Nat, k ≤ len ∧ i = .int .i64 k ∧ wr = w.drewN n) (fun i _ => len - (intOf i).toNat)
  case atStart => exact ⟨0, 0, Nat.zero_le _, rfl, rfl⟩
  case round =>
    obtain ⟨k, n, hk, rfl, rfl⟩ := hrel
    by_cases hlt : k < len
    · have h1 := HC.out k hlt
      have h2 := HC'.out k hlt
      obtain ⟨x, ex⟩ : ∃ x, x = zs[k]?.getD 0 := ⟨_, rfl⟩
      obtain ⟨y, ey⟩ : ∃ y, y = ys[k]?.getD 0 := ⟨_, rfl⟩
      rw [← ex] at h1
      rw [← ey] at h2
      have EX := hide ex
      have EY := hide ey
      clear ex ey
      have hi : (k : Int) < (len : Int) := by omega
      by_cases hxy : x = y
      · subst hxy
        go_wp2_with fail
        go_quiet (fail)
        go_wp2_with fail
        go_roundw
        case rel => exact ⟨k + 1, _, by omega, by go_num, rfl⟩
        case measure => simp [intOf]; omega
      · have n2 : (x != y) = true := by simpa using hxy
        have HXY := hide hxy
        go_wp2_with fail
        go_quiet (fail)
        go_wp2_with fail
        go_ret
        refine ⟨false, rfl, fun h => absurd (h k hlt) (fun e => HXY.out (EX.out.trans (e.trans EY.out.symm))), _, World.drewN_drewN _ _ _⟩
    · go_wp2_with fail
      go_ret
      exact ⟨true, rfl, fun _ => rfl, n, rfl⟩

theorem plain_gen {a a' : Option Addr} {len cap len' cap' : Nat} {zs ys : List Int} {w : World} (h : Sq w a len cap zs) (h' : Sq w a' len' cap' ys) (hm : len ≤ 140737488355328) :
    Calls Try.prog 40 #[.slice a len cap, .slice a' len' cap'] w fun e w' => ∃ r, e = .returned (.bool r) ∧ (zs = ys → r = true) ∧ ∃ n, w' = w.drewN n := by
  by_cases hl : len = len'
  · subst hl
    by_cases h0 : 0 < len
    · obtain ⟨b, off, rfl, hc⟩ := h.cells h0
      obtain ⟨b', off', rfl, hc'⟩ := h'.cells h0
      refine (plain_two b off cap b' off' cap' len zs ys w hm hc hc').mono ?_
      rintro e w' ⟨r, rfl, hr, hn⟩
      exact ⟨r, rfl, fun e => hr (fun j _ => by rw [e]), hn⟩
    · obtain rfl : len = 0 := by omega
      refine (plain_none a a' cap cap' w).mono ?_
      rintro e w' ⟨rfl, hn⟩
      exact ⟨true, rfl, fun _ => rfl, hn⟩
  · refine (plain_unlike a a' len cap len' cap' w hl).mono ?_
    rintro e w' ⟨rfl, hn⟩
    exact ⟨false, rfl, fun e => absurd (by rw [← h.length, ← h'.length, e]) hl, hn⟩
theorem bytes_gen {a a' : Option Addr} {len cap len' cap' : Nat} {zs ys : List Int} {w : World} (h : Sq w a len cap zs) (h' : Sq w a' len' cap' ys) (hm : len ≤ 140737488355328) :
    Calls Try.prog 21 #[.slice a len cap, .slice a' len' cap'] w fun e w' => ∃ r, e = .returned (.bool r) ∧ (zs = ys → r = true) ∧ ∃ n, w' = w.drewN n := by
  have c := hide (plain_gen h h' hm)
  clear h h'
  go_enter Try.func21, Try.ntmps21
  go_wp2_with fail
  refine c.out.mono ?_
  rintro e w' ⟨r, rfl, hr, n, rfl⟩
  go_wp2_with fail
  go_ret
  exact ⟨r, rfl, hr, n, rfl⟩
end Go.Proofs.Ytadjdiocipahhab
