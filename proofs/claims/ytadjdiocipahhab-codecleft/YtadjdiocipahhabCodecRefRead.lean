/- What the document's own reader (purseref02) does, at the landed code. -/
import Derived.Test.YtadjdiocipahhabCodecRd
import Derived.BigQuiet
namespace Go.Proofs.Ytadjdiocipahhab
open Go.ChangeShapes Go.WideShapes Go.ChangeAt Go.RowKit B8 Cm
set_option linter.unusedVariables false

theorem Ending_num (at_ : Nat) {r : NumR} {x : Int} (h : r = ⟨0, 0, x⟩) (hx : x ≠ 0) :
    Ending.returned (.tuple #[.int .u64 0, .int .i64 0, .int .i64 x]) = .returned (.tuple #[.int .u64 (r.v : Nat), .int .i64 (numTo at_ r), .int .i64 r.e]) := by
  subst h
  unfold numTo
  rw [if_neg hx]; rfl
theorem Ending_num2 {r : NumR} {v u at_ : Nat} {x y : Int} (h : r = ⟨v, u, 0⟩) (hx : x = (v : Int)) (hy : y = ((at_ + u : Nat) : Int)) :
    Ending.returned (.tuple #[.int .u64 x, .int .i64 y, .int .i64 0]) = .returned (.tuple #[.int .u64 (r.v : Nat), .int .i64 (numTo at_ r), .int .i64 r.e]) := by
  subst h
  unfold numTo
  rw [if_pos rfl, hx, hy]

set_option maxHeartbeats 4000000 in
theorem number_any {w : World} {R : Nat} {a : Option Addr} {n cp : Nat} {bs : List Int} {at_ : Nat} {err : Int} (h : Rd w R a n cp bs at_ err) :
    Calls Try.prog 42 #[.pointer (some ⟨R, 0, none⟩)] w fun e w' => e = .returned (.tuple #[.int .u64 ((numG (bs.drop at_) 0 0).v : Nat), .int .i64 (numTo at_ (numG (bs.drop at_) 0 0)), .int .i64 (numG (bs.drop at_) 0 0).e]) ∧ ∃ m, w' = w.drewN m := by
  have c0 := h.c0
  have c1 := h.c1
  have hr := h.room
  have hp := h.place
  have HQ := hide h.sq
  clear h
  go_enter Try.func42, Try.ntmps42
  go_wp2_with fail
  go_loopw [5, 6, 7] (fun v i _ wr => ∃ (k vv m : Nat), k ≤ 9 ∧ at_ + k ≤ n ∧ i = .int .i64 k ∧ v = .int .u64 vv ∧ wr = w.drewN m ∧ Hid (vv < 2 ^ (7 * k)) ∧ Hid (numG (bs.drop (at_ + k)) k vv = numG (bs.drop at_) 0 0)) (fun _ i _ _ => 10 - (intOf i).toNat)
  case atStart => exact ⟨0, 0, 0, by omega, by omega, rfl, rfl, rfl, by show _ < _; simp, rfl⟩
  case round =>
    obtain ⟨k, vv, m, hk, hn, rfl, rfl, rfl, HV, HG⟩ := hrel
    by_cases hlt : at_ + k < n
    · obtain ⟨b, off, ea, hc⟩ := HQ.out.cells (by omega)
      have d := hc (at_ + k) hlt
      have z := bounds_u8 (HQ.out.wf (at_ + k))
      obtain ⟨c, ec⟩ : ∃ c, c = bs[at_ + k]?.getD 0 := ⟨_, rfl⟩
      have HD : Hid (bs.drop (at_ + k) = c :: bs.drop (at_ + (k + 1))) := by
        show _ = _
        have hlen := HQ.out.length
        rw [List.drop_eq_getElem_cons (by omega), ec, List.getElem?_eq_getElem (by omega)]
        rfl
      rw [← ec] at d z
      rw [ea] at c0
      clear ec hc ea
      have i1 : (at_ : Int) + (k : Int) < (n : Int) := by omega
      obtain ⟨z0, z1⟩ := z
      by_cases k9 : k = 9
      · have h9 : ((k : Int) == 9) = true := by simp; omega
        have hk9 : 9 ≤ k := by omega
        by_cases hc1 : 1 < c
        · have q1 : decide (1 < c) = true := by simpa using hc1
          have HR : Hid (numG (bs.drop at_) 0 0 = ⟨0, 0, 21⟩) := by
            rw [← HG.out, HD.out]; exact numG_form _ _ _ _ (by omega)
          clear k9
          go_wp2_with fail
          go_quiet (fail)
          go_wp2_with fail
          go_quiet (fail)
          go_wp2_with fail
          go_ret3
          exact ⟨Ending_num at_ HR.out (by decide), _, rfl⟩
        · have q1 : decide (1 < c) = false := by simp; omega
          have hk0 : (0 : Int) < (k : Int) := by omega
          have q2 : decide ((0 : Int) < (k : Int)) = true := by simp; omega
          by_cases hc0 : c = 0
          · have q3 : (c == 0) = true := by simpa using hc0
            have HR : Hid (numG (bs.drop at_) 0 0 = ⟨0, 0, 21⟩) := by
              rw [← HG.out, HD.out]; exact numG_form _ _ _ _ (by omega)
            clear k9 hc0
            go_wp2_with fail
            go_quiet (fail)
            go_wp2_with fail
            go_quiet (fail)
            go_wp2_with fail
            go_ret3
            exact ⟨Ending_num at_ HR.out (by decide), _, rfl⟩
          · have q3 : (c == 0) = false := by simpa using hc0
            have q4 : decide (c < 128) = true := by simp; omega
            have hab := acc_bd vv k (c % 128).toNat (by omega) HV.out (by omega)
            have HA := hide (acc_form vv k c (by omega) (by omega) hab.1 hab.2.1)
            have HR : Hid (numG (bs.drop at_) 0 0 = ⟨vv + (c % 128).toNat * 2 ^ (7 * k), k + 1, 0⟩) := by
              rw [← HG.out, HD.out]; exact numG_done _ _ _ _ (by omega) (by omega)
            clear hab
            clear k9
            go_wp2_with fail
            go_quiet (fail)
            go_wp2_with fail
            go_quiet (fail)
            go_wp2_with fail
            go_quiet (fail)
            go_wp2_with fail
            go_ret3
            exact ⟨Ending_num2 HR.out HA.out (by omega), _, World.drewN_drewN _ _ _⟩
      · have h9 : ((k : Int) == 9) = false := by simp; omega
        by_cases k0 : k = 0
        · have q2 : ((k : Int)) ≤ 0 := by omega
          by_cases hc : c < 128
          · have q4 : decide (c < 128) = true := by simpa using hc
            have hab := acc_bd vv k (c % 128).toNat (by omega) HV.out (by omega)
            have HA := hide (acc_form vv k c (by omega) (by omega) hab.1 hab.2.1)
            have HR : Hid (numG (bs.drop at_) 0 0 = ⟨vv + (c % 128).toNat * 2 ^ (7 * k), k + 1, 0⟩) := by
              rw [← HG.out, HD.out]; exact numG_done _ _ _ _ (by omega) (by omega)
            clear hab
            clear k0
            go_wp2_with fail
            go_quiet (fail)
            go_wp2_with fail
            go_quiet (fail)
            go_wp2_with fail
            go_quiet (fail)
            go_wp2_with fail
            go_ret3
            exact ⟨Ending_num2 HR.out HA.out (by omega), _, World.drewN_drewN _ _ _⟩
          · have q4 : decide (c < 128) = false := by simpa using hc
            have hab := acc_bd vv k (c % 128).toNat (by omega) HV.out (by omega)
            have HA := hide (acc_form vv k c (by omega) (by omega) hab.1 hab.2.1)
            have HB := hide hab.2.2
            have HR : Hid (numG (bs.drop (at_ + (k + 1))) (k + 1) (vv + (c % 128).toNat * 2 ^ (7 * k)) = numG (bs.drop at_) 0 0) := by
              rw [← HG.out, HD.out]; exact (numG_more _ _ _ _ (by omega) (by omega)).symm
            clear hab
            clear k0
            go_wp2_with fail
            go_quiet (fail)
            go_wp2_with fail
            go_quiet (fail)
            go_wp2_with fail
            go_roundw
            case rel => exact ⟨k + 1, _, _, by omega, by omega, by go_num, by rw [HA.out], rfl, HB, HR⟩
            case measure => simp [intOf]; omega
        · have hk0 : (0 : Int) < (k : Int) := by omega
          have q2 : decide ((0 : Int) < (k : Int)) = true := by simp; omega
          by_cases hc0 : c = 0
          · have q3 : (c == 0) = true := by simpa using hc0
            have HR : Hid (numG (bs.drop at_) 0 0 = ⟨0, 0, 21⟩) := by
              rw [← HG.out, HD.out]; exact numG_form _ _ _ _ (by omega)
            clear hc0
            go_wp2_with fail
            go_quiet (fail)
            go_wp2_with fail
            go_quiet (fail)
            go_wp2_with fail
            go_ret3
            exact ⟨Ending_num at_ HR.out (by decide), _, rfl⟩
          · have q3 : (c == 0) = false := by simpa using hc0
            by_cases hc : c < 128
            · have q4 : decide (c < 128) = true := by simpa using hc
              have hab := acc_bd vv k (c % 128).toNat (by omega) HV.out (by omega)
              have HA := hide (acc_form vv k c (by omega) (by omega) hab.1 hab.2.1)
              have HR : Hid (numG (bs.drop at_) 0 0 = ⟨vv + (c % 128).toNat * 2 ^ (7 * k), k + 1, 0⟩) := by
                rw [← HG.out, HD.out]; exact numG_done _ _ _ _ (by omega) (by omega)
              clear hab
              go_wp2_with fail
              go_quiet (fail)
              go_wp2_with fail
              go_quiet (fail)
              go_wp2_with fail
              go_quiet (fail)
              go_wp2_with fail
              go_ret3
              exact ⟨Ending_num2 HR.out HA.out (by omega), _, World.drewN_drewN _ _ _⟩
            · have q4 : decide (c < 128) = false := by simpa using hc
              have hab := acc_bd vv k (c % 128).toNat (by omega) HV.out (by omega)
              have HA := hide (acc_form vv k c (by omega) (by omega) hab.1 hab.2.1)
              have HB := hide hab.2.2
              have HR : Hid (numG (bs.drop (at_ + (k + 1))) (k + 1) (vv + (c % 128).toNat * 2 ^ (7 * k)) = numG (bs.drop at_) 0 0) := by
                rw [← HG.out, HD.out]; exact (numG_more _ _ _ _ (by omega) (by omega)).symm
              clear hab
              go_wp2_with fail
              go_quiet (fail)
              go_wp2_with fail
              go_quiet (fail)
              go_wp2_with fail
              go_roundw
              case rel => exact ⟨k + 1, _, _, by omega, by omega, by go_num, by rw [HA.out], rfl, HB, HR⟩
              case measure => simp [intOf]; omega
    · have HR : Hid (numG (bs.drop at_) 0 0 = ⟨0, 0, 20⟩) := by
        rw [← HG.out, List.drop_of_length_le (by have := HQ.out.length; omega)]; rfl
      have i1 : (n : Int) ≤ (at_ : Int) + (k : Int) := by omega
      go_wp2_with fail
      go_quiet (fail)
      go_wp2_with fail
      go_ret3
      exact ⟨Ending_num at_ HR.out (by decide), _, World.drewN_drewN _ _ _⟩
end Go.Proofs.Ytadjdiocipahhab
