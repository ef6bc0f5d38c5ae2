/- Which accounts are right: the landed code's small tests, its reach, and Check. Condition: the account can be read. -/
import Derived.Test.YtjcbhgkfbilifaaFAcoOps
import Derived.Test.YtjcbhgkfbilifaaJX
import Derived.Test.YtjcbhgkfbilifaaJV
import Derived.Handy
import Derived.Deep.RegionHeld3
namespace Go.Proofs.Ytjcbhgkfbilifaa
open Go.ChangeShapes Go.WideShapes Go.ChangeAt Go.RowKit Ao
set_option linter.unusedVariables false

theorem key_any (k : ByteArray) (w : World) : Calls Try.prog 114 #[.string k] w fun e w' => e = .returned (.bool (keyB k)) ∧ w' = w := by
  have HM : Hid (keyB k = decide (1 ≤ k.size ∧ k.size ≤ 16)) := rfl
  rw [HM.out]
  clear HM
  by_cases h : 1 ≤ k.size
  all_goals
    go_enter Try.func114, Try.ntmps114
    go_wp2_with fail
    all_goals
      go_ret
      refine ⟨?_, rfl⟩
      congr 2 <;> simp [h] <;> omega
theorem number_any (n : Int) (w : World) : Calls Try.prog 93 #[.int .i64 n] w fun e w' => e = .returned (.bool (numB n)) ∧ w' = w := by
  have HM : Hid (numB n = decide (1 ≤ n ∧ n ≤ 4611686018427387904)) := rfl
  rw [HM.out]
  clear HM
  by_cases h : 1 ≤ n
  all_goals
    go_enter Try.func93, Try.ntmps93
    go_wp2_with fail
    all_goals
      go_ret
      refine ⟨?_, rfl⟩
      congr 2 <;> simp [h] <;> omega
theorem hs_drop1 {l : List Hd} {k : Nat} {x : Hd} {b : Int} (hk : l[k]? = some x) : hsB b (l.drop k) = (decide (b < x.nd) && hdB x && hsB x.nd (l.drop (k + 1))) := by
  have hlt := (List.getElem?_eq_some_iff.1 hk).1
  rw [List.drop_eq_getElem_cons hlt]
  rw [(List.getElem?_eq_some_iff.1 hk).2]
  rfl
set_option maxRecDepth 100000 in
set_option maxHeartbeats 1000000 in
theorem holders_any {w : World} {a : Option Addr} {n c : Nat} {l : List Hd} (h : Hs w a n l) :
    Calls Try.prog 115 #[.slice a n c] w fun e w' => e = .returned (.bool (hsB 0 l)) ∧ Below w.heap.size w w' := by
  have H := hide h
  have hr := h.room
  have hl := h.len
  clear h
  go_enter Try.func115, Try.ntmps115
  go_wp2_with fail
  go_loopw [3, 5, 8] (fun bv _ iv wr => ∃ (k : Nat) (b : Int), k ≤ n ∧ bv = .int .i64 b ∧ iv = .int .i64 k ∧ Hid (Below w.heap.size w wr) ∧ Hid (hsB 0 l = hsB b (l.drop k))) (fun _ _ iv _ => n - (intOf iv).toNat)
  case atStart => exact ⟨0, 0, Nat.zero_le _, rfl, rfl, Below.refl _ _, rfl⟩
  case round =>
    obtain ⟨k, b, hk, rfl, rfl, HB, HR⟩ := hrel
    by_cases hlt : k < n
    · obtain ⟨bb, off, x, rfl, hx, hb, M⟩ := hs_at (H.out.below HB.out) hlt
      have HX := hide (hs_drop1 (b := b) hx)
      obtain ⟨c0, c1, c2, c3⟩ := M
      have i1 : (k : Int) < (n : Int) := by omega
      have i2 : (0 : Int) ≤ (k : Int) := by omega
      clear hx hb hl
      by_cases hq : b < x.nd ∧ x.nd ≤ 5 ∧ 1 ≤ x.ls ∧ 0 ≤ x.up ∧ 0 ≤ x.dn
      · obtain ⟨g1, g2, g3, g4, g5⟩ := hq
        have HE : Hid (hsB 0 l = hsB x.nd (l.drop (k + 1))) := by
          show _ = _
          rw [HR.out, HX.out]
          simp [hdB, g1, g2, g3, g4, g5]
        have f1 : ¬ x.nd ≤ b := by omega
        have f2 : ¬ 5 < x.nd := by omega
        have f3 : ¬ x.ls < 1 := by omega
        have f4 : ¬ x.up < 0 := by omega
        have f5 : ¬ x.dn < 0 := by omega
        go_wp2_with fail
        go_roundw
        case rel => exact ⟨k + 1, x.nd, by omega, rfl, by go_num, HB.out.alloc HB.out.size _, HE.out⟩
        case measure => simp [intOf]; omega
      · have HE : Hid (hsB 0 l = false) := by
          show _ = _
          rw [HR.out, HX.out]
          rw [Bool.and_assoc, Bool.and_eq_false_iff]
          by_cases e : b < x.nd
          · right
            rw [Bool.and_eq_false_iff]; left
            unfold hdB
            rw [decide_eq_false]
            exact fun hh => hq ⟨e, hh⟩
          · left; exact decide_eq_false e
        clear HX HR
        by_cases f1 : x.nd ≤ b
        · go_wp2_with fail
          go_returns
          exact ⟨by rw [HE.out]; rfl, HB.out.alloc HB.out.size _⟩
        · by_cases f2 : 5 < x.nd
          · go_wp2_with fail
            go_returns
            exact ⟨by rw [HE.out]; rfl, HB.out.alloc HB.out.size _⟩
          · by_cases f3 : x.ls < 1
            · go_wp2_with fail
              go_returns
              exact ⟨by rw [HE.out]; rfl, HB.out.alloc HB.out.size _⟩
            · by_cases f4 : x.up < 0
              · go_wp2_with fail
                go_returns
                exact ⟨by rw [HE.out]; rfl, HB.out.alloc HB.out.size _⟩
              · have f5 : x.dn < 0 := by omega
                go_wp2_with fail
                go_returns
                exact ⟨by rw [HE.out]; rfl, HB.out.alloc HB.out.size _⟩
    · obtain rfl : k = n := by omega
      have HE : Hid (hsB 0 l = true) := by
        show _ = _
        rw [HR.out, List.drop_of_length_le (by omega)]
        rfl
      go_wp2_with fail
      go_returns
      exact ⟨by rw [HE.out]; rfl, HB.out⟩
end Go.Proofs.Ytjcbhgkfbilifaa
