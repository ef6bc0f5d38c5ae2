/- What the landed reader's number and upTo do. No condition. -/
import Derived.Test.YtgenfklbponodaaDoorCodecCut
import Derived.Laws.BitsAllLaws
namespace Go.Proofs.YtgenfklbponodaaDoor
open Go.ChangeShapes Go.WideShapes Go.ChangeAt Go.RowKit B8 Cm
set_option linter.unusedVariables false

theorem or_add (vv k d : Nat) (h : vv < 2 ^ (7 * k)) : vv ||| d * 2 ^ (7 * k) = vv + d * 2 ^ (7 * k) := by
  have := Nat.two_pow_add_eq_or_of_lt (i := 7 * k) (b := vv) h d
  rw [Nat.or_comm, Nat.mul_comm d, ← this]
  omega

theorem acc_or (vv k q : Nat) (c : Int) (c0 : 0 ≤ c) (c1 : c ≤ 255) (hq : q = 7 * k) (hk : k ≤ 9) (hv : vv < 2 ^ (7 * k)) (h1 : (c % 128).toNat * 2 ^ (7 * k) < 18446744073709551616) :
    bits .or .u64 (vv : Int) (IntKind.u64.wrap (IntKind.u64.wrap (bits .and .u8 c 127) * 2 ^ q)) = ((vv + (c % 128).toNat * 2 ^ (7 * k) : Nat) : Int) := by
  subst hq
  rw [u8_and c 127 c0 (by omega) (by omega) (by omega), show (127 : Int).toNat = 127 from rfl, nat_mask7]
  have e0 : c.toNat % 128 = (c % 128).toNat := by omega
  rw [e0]
  obtain ⟨d, hd⟩ : ∃ d : Nat, (c % 128).toNat = d := ⟨_, rfl⟩
  rw [hd] at h1 ⊢
  have hd1 : d ≤ 127 := by omega
  rw [wrapU (d : Int), show ((d : Int) % 18446744073709551616) = d by omega]
  have e : ((d : Int) * 2 ^ (7 * k)) = ((d * 2 ^ (7 * k) : Nat) : Int) := by simp
  rw [e, wrapU, show (((d * 2 ^ (7 * k) : Nat) : Int) % 18446744073709551616) = ((d * 2 ^ (7 * k) : Nat) : Int) by omega]
  by_cases hv64 : vv < 18446744073709551616
  · rw [u64_or_nat _ _ hv64 h1, or_add vv k d hv]
  · exact absurd (Nat.lt_of_lt_of_le hv (show 2 ^ (7 * k) ≤ 18446744073709551616 from by
      exact Nat.le_trans (Nat.pow_le_pow_right (by omega) (show 7 * k ≤ 64 by omega)) (by decide))) hv64

theorem numG_head (bs : List Int) (p n : Nat) (h : p < n) (hl : bs.length = n) : bs.drop p = (bs[p]?.getD 0) :: bs.drop (p + 1) := by
  rw [List.drop_eq_getElem_cons (by omega), List.getElem?_eq_getElem (by omega)]
  rfl

set_option maxHeartbeats 4000000 in
theorem cnumber_any {w : World} {R : Nat} {a : Option Addr} {n cp : Nat} {bs : List Int} {pl : Nat} {err : Int} (h : Rd w R a n cp bs pl err) :
    Calls Tryd.prog 20 #[.pointer (some ⟨R, 0, none⟩)] w fun e w' => e = .returned (.tuple #[.int .u64 ((numG (bs.drop pl) 0 0).v : Nat), .int .i64 (numG (bs.drop pl) 0 0).e]) ∧ ∃ p', Rd w' R a n cp bs p' err ∧ ((numG (bs.drop pl) 0 0).e = 0 → p' = pl + (numG (bs.drop pl) 0 0).used) ∧ w.grownBy w' (some R) := by
  have HR := hide h
  have HL : Hid (bs.length = n) := h.sq.length
  have hpl := h.place
  have hro := h.room
  have HZ := hide h.sq.wf
  clear h
  go_enter Tryd.func20, Tryd.ntmps20
  go_wp2_with fail
  go_loopw [4, 5, 6, 7] (fun v i _ _ wr => ∃ (k vv q : Nat), k ≤ 9 ∧ pl + k ≤ n ∧ i = .int .i64 q ∧ Hid (q = 7 * k) ∧ v = .int .u64 vv ∧ Hid (Rd wr R a n cp bs (pl + k) err) ∧ Hid (w.grownBy wr (some R)) ∧ Hid (vv < 2 ^ (7 * k)) ∧ Hid (numG (bs.drop (pl + k)) k vv = numG (bs.drop pl) 0 0)) (fun _ i _ _ _ => 70 - (intOf i).toNat)
  case atStart => exact ⟨0, 0, 0, by omega, by omega, rfl, rfl, rfl, HR, World.grownBy.refl _ _, by show _ < _; simp, rfl⟩
  case round =>
    obtain ⟨k, vv, q, hk, hn, rfl, HQ, rfl, H1, G1, HV, HG⟩ := hrel
    have hq : q ≤ 63 := by have := HQ.out; omega
    have CN := cnext_any H1.out
    by_cases hlt : pl + k < n
    · have e1 : nextA bs (pl + k) = (bs[pl + k]?.getD 0, 0, pl + k + 1) := if_pos (by rw [HL.out]; exact hlt)
      have hd := numG_head bs (pl + k) n hlt HL.out
      have z := bounds_u8 (HZ.out (pl + k))
      rw [e1] at CN
      obtain ⟨c, ec⟩ : ∃ c, c = bs[pl + k]?.getD 0 := ⟨_, rfl⟩
      rw [← ec] at hd z CN
      have HD := hide hd
      have CN := hide CN
      clear hd ec e1
      obtain ⟨z0, z1⟩ := z
      go_wp2_with fail
      refine CN.out.mono ?_
      rintro e w1 ⟨rfl, hr1, hg1⟩
      have H2 := hide hr1
      have G2 := hide (World.grownBy.trans G1.out hg1)
      clear hr1 hg1
      by_cases k9 : k = 9
      · have h9 : ((q : Int) == 63) = true := by have := HQ.out; simp; omega
        have hq9 : 63 ≤ q := by have := HQ.out; omega
        by_cases hc1 : 1 < c
        · have q1 : decide (1 < c) = true := by simpa using hc1
          have HR2 : Hid (numG (bs.drop pl) 0 0 = ⟨0, 0, 21⟩) := by
            rw [← HG.out, HD.out]; exact numG_form _ _ _ _ (by omega)
          clear k9
          go_wp2_with fail
          go_ret2
          rw [HR2.out]
          exact ⟨rfl, _, H2.out, fun h => absurd h (by decide), G2.out⟩
        · have q1 : decide (1 < c) = false := by simp; omega
          have hk0 : (0 : Int) < (q : Int) := by omega
          have q2 : decide ((0 : Int) < (q : Int)) = true := by simp; omega
          by_cases hc0 : c = 0
          · have q3 : (c == 0) = true := by simpa using hc0
            have HR2 : Hid (numG (bs.drop pl) 0 0 = ⟨0, 0, 21⟩) := by
              rw [← HG.out, HD.out]; exact numG_form _ _ _ _ (by omega)
            clear k9 hc0
            go_wp2_with fail
            go_ret2
            rw [HR2.out]
            exact ⟨rfl, _, H2.out, fun h => absurd h (by decide), G2.out⟩
          · have q3 : (c == 0) = false := by simpa using hc0
            have q4 : decide (c < 128) = true := by simp; omega
            have hab := acc_bd vv k (c % 128).toNat (by omega) HV.out (by omega)
            have HA := hide (acc_or vv k q c z0 z1 HQ.out hk HV.out hab.1)
            have HR2 : Hid (numG (bs.drop pl) 0 0 = ⟨vv + (c % 128).toNat * 2 ^ (7 * k), k + 1, 0⟩) := by
              rw [← HG.out, HD.out]; exact numG_done _ _ _ _ (by omega) (by omega)
            clear hab
            clear k9
            go_wp2_with fail
            go_ret2
            rw [HR2.out]
            exact ⟨ret2 HA.out rfl, _, H2.out, fun _ => by show _ = pl + (k + 1); omega, G2.out⟩
      · have h9 : ((q : Int) == 63) = false := by have := HQ.out; simp; omega
        by_cases k0 : k = 0
        · have hq0 : (q : Int) ≤ 0 := by have := HQ.out; omega
          by_cases hc : c < 128
          · have q4 : decide (c < 128) = true := by simpa using hc
            have hab := acc_bd vv k (c % 128).toNat (by omega) HV.out (by omega)
            have HA := hide (acc_or vv k q c z0 z1 HQ.out hk HV.out hab.1)
            have HR2 : Hid (numG (bs.drop pl) 0 0 = ⟨vv + (c % 128).toNat * 2 ^ (7 * k), k + 1, 0⟩) := by
              rw [← HG.out, HD.out]; exact numG_done _ _ _ _ (by omega) (by omega)
            clear hab
            clear k0
            go_wp2_with fail
            go_ret2
            rw [HR2.out]
            exact ⟨ret2 HA.out rfl, _, H2.out, fun _ => by show _ = pl + (k + 1); omega, G2.out⟩
          · have q4 : decide (c < 128) = false := by simpa using hc
            have hab := acc_bd vv k (c % 128).toNat (by omega) HV.out (by omega)
            have HA := hide (acc_or vv k q c z0 z1 HQ.out hk HV.out hab.1)
            have HB := hide hab.2.2
            have HR2 : Hid (numG (bs.drop (pl + (k + 1))) (k + 1) (vv + (c % 128).toNat * 2 ^ (7 * k)) = numG (bs.drop pl) 0 0) := by
              rw [← HG.out, HD.out]; exact (numG_more _ _ _ _ (by omega) (by omega)).symm
            clear hab
            clear k0
            go_wp2_with fail
            go_roundw
            case rel => exact ⟨k + 1, _, q + 7, by omega, by omega, by go_num, by have := HQ.out; show _ = _; omega, by rw [HA.out], H2, G2, HB, HR2⟩
            case measure => simp [intOf]; omega
        · have hk0 : (0 : Int) < (q : Int) := by have := HQ.out; omega
          have q2 : decide ((0 : Int) < (q : Int)) = true := by simpa using hk0
          by_cases hc0 : c = 0
          · have q3 : (c == 0) = true := by simpa using hc0
            have HR2 : Hid (numG (bs.drop pl) 0 0 = ⟨0, 0, 21⟩) := by
              rw [← HG.out, HD.out]; exact numG_form _ _ _ _ (by omega)
            clear hc0
            go_wp2_with fail
            go_ret2
            rw [HR2.out]
            exact ⟨rfl, _, H2.out, fun h => absurd h (by decide), G2.out⟩
          · have q3 : (c == 0) = false := by simpa using hc0
            by_cases hc : c < 128
            · have q4 : decide (c < 128) = true := by simpa using hc
              have hab := acc_bd vv k (c % 128).toNat (by omega) HV.out (by omega)
              have HA := hide (acc_or vv k q c z0 z1 HQ.out hk HV.out hab.1)
              have HR2 : Hid (numG (bs.drop pl) 0 0 = ⟨vv + (c % 128).toNat * 2 ^ (7 * k), k + 1, 0⟩) := by
                rw [← HG.out, HD.out]; exact numG_done _ _ _ _ (by omega) (by omega)
              clear hab
              go_wp2_with fail
              go_ret2
              rw [HR2.out]
              exact ⟨ret2 HA.out rfl, _, H2.out, fun _ => by show _ = pl + (k + 1); omega, G2.out⟩
            · have q4 : decide (c < 128) = false := by simpa using hc
              have hab := acc_bd vv k (c % 128).toNat (by omega) HV.out (by omega)
              have HA := hide (acc_or vv k q c z0 z1 HQ.out hk HV.out hab.1)
              have HB := hide hab.2.2
              have HR2 : Hid (numG (bs.drop (pl + (k + 1))) (k + 1) (vv + (c % 128).toNat * 2 ^ (7 * k)) = numG (bs.drop pl) 0 0) := by
                rw [← HG.out, HD.out]; exact (numG_more _ _ _ _ (by omega) (by omega)).symm
              clear hab
              go_wp2_with fail
              go_roundw
              case rel => exact ⟨k + 1, _, q + 7, by omega, by omega, by go_num, by have := HQ.out; show _ = _; omega, by rw [HA.out], H2, G2, HB, HR2⟩
              case measure => simp [intOf]; omega
    · have e1 : nextA bs (pl + k) = (0, 20, pl + k) := if_neg (by rw [HL.out]; exact hlt)
      rw [e1] at CN
      have CN := hide CN
      clear e1
      have HR2 : Hid (numG (bs.drop pl) 0 0 = ⟨0, 0, 20⟩) := by
        rw [← HG.out, List.drop_of_length_le (by have := HL.out; omega)]; rfl
      go_wp2_with fail
      refine CN.out.mono ?_
      rintro e w1 ⟨rfl, hr1, hg1⟩
      have H2 := hide hr1
      have G2 := hide (World.grownBy.trans G1.out hg1)
      clear hr1 hg1
      go_wp2_with fail
      go_ret2
      rw [HR2.out]
      exact ⟨rfl, _, H2.out, fun h => absurd h (by decide), G2.out⟩

end Go.Proofs.YtgenfklbponodaaDoor
