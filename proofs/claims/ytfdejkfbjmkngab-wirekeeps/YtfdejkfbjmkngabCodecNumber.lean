/- What the landed reader's number and upTo do. No condition. -/
import Derived.Test.YtfdejkfbjmkngabCodecCut
import Derived.Laws.BitsAllLaws
namespace Go.Proofs.Ytfdejkfbjmkngab
open Go.ChangeShapes Go.WideShapes Go.ChangeAt Go.RowKit B8 Cm
set_option linter.unusedVariables false

theorem or_add (vv k d : Nat) (h : vv < 2 ^ (7 * k)) : vv ||| d * 2 ^ (7 * k) = vv + d * 2 ^ (7 * k) := by
  have := Nat.two_pow_add_eq_or_of_lt (i := 7 * k) (b := vv) h d
  rw [Nat.or_comm, Nat.mul_comm d, ← this]
  omega

theorem acc_or (vv k q : Nat) (c : Int) (c0 : 0 ≤ c) (c1 : c ≤ 255) (hq : q = 7 * k) (hk : k ≤ 9) (hv : vv < 2 ^ (7 * k)) (h1 : (c % 128).toNat * 2 ^ (7 * k) < 18446744073709551616) :
    bits .or .u64 (vv : Int) (IntKind.u64.wrap (IntKind.u64.wrap (bits .and .u8 c 127) * 2 ^ q)) = ((vv + (c % 128).toNat * 2 ^ (7 * k) : Nat) : Int) := by
  subst hq
  rw [u8_and c 127 c0 (by omega) (by omega) (by omega), show (127 : Int).toNat = 127 from rfl, nat_mask7]
  have e0 : c.toNat % 128 = (c % 128).toNat := by omega
  rw [e0]
  obtain ⟨d, hd⟩ : ∃ d : Nat, (c % 128).toNat = d := ⟨_, rfl⟩
  rw [hd] at h1 ⊢
  have hd1 : d ≤ 127 := by omega
  rw [wrapU (d : Int), show ((d : Int) % 18446744073709551616) = d by omega]
  have e : ((d : Int) * 2 ^ (7 * k)) = ((d * 2 ^ (7 * k) : Nat) : Int) := by simp
  rw [e, wrapU, show (((d * 2 ^ (7 * k) : Nat) : Int) % 18446744073709551616) = ((d * 2 ^ (7 * k) : Nat) : Int) by omega]
  by_cases hv64 : vv < 18446744073709551616
  · rw [u64_or_nat _ _ hv64 h1, or_add vv k d hv]
  · exact absurd (Nat.lt_of_lt_of_le hv (show 2 ^ (7 * k) ≤ 18446744073709551616 from by
      exact Nat.le_trans (Nat.pow_le_pow_right (by omega) (show 7 * k ≤ 64 by omega)) (by decide))) hv64

theorem numG_head (bs : List Int) (p n : Nat) (h : p < n) (hl : bs.length = n) : bs.drop p = (bs[p]?.getD 0) :: bs.drop (p + 1) := by
  rw [List.drop_eq_getElem_cons (by omega), List.getElem?_eq_getElem (by omega)]
  rfl

set_option maxHeartbeats 4000000 in
theorem cnumber_any {w : World} {R : Nat} {a : Option Addr} {n cp : Nat} {bs : List Int} {pl : Nat} {err : Int} (h : Rd w R a n cp bs pl err) :
    Calls Try.prog 96 #[.pointer (some ⟨R, 0, none⟩)] w fun e w' => e = .returned (.tuple #[.int .u64 ((numG (bs.drop pl) 0 0).v : Nat), .int .i64 (numG (bs.drop pl) 0 0).e]) ∧ ∃ p', Rd w' R a n cp bs p' err ∧ ((numG (bs.drop pl) 0 0).e = 0 → p' = pl + (numG (bs.drop pl) 0 0).used) ∧ w.grownBy w' (some R) := by
  have HR := hide h
  have HL : Hid (bs.length = n) := h.sq.length
  have hpl := h.place
  have hro := h.room
  have HZ := hide h.sq.wf
  clear h
  go_enter Try.func96, Try.ntmps96
  go_wp2_with fail
  go_loopw [4, 5, 6, 7] (fun v i _ _ wr => ∃ (k vv q : Nat), k ≤ 9 ∧ pl + k ≤ n ∧ i = .int .i64 q ∧ Hid (q = 7 * k) ∧ v = .int .u64 vv ∧ Hid (Rd wr R a n cp bs (pl + k) err) ∧ Hid (w.grownBy wr (some R)) ∧ Hid (vv < 2 ^ (7 * k)) ∧ Hid (numG (bs.drop (pl + k)) k vv = numG (bs.drop pl) 0 0)) (fun _ i _ _ _ => 70 - (intOf i).toNat)
  case atStart => exact ⟨0, 0, 0, by omega, by omega, rfl, rfl, rfl, HR, World.grownBy.refl _ _, by show _ < _; simp, rfl⟩
  case round =>
    obtain ⟨k, vv, q, hk, hn, rfl, HQ, rfl, H1, G1, HV, HG⟩ := hrel
    have hq : q ≤ 63 := by have := HQ.out; omega
    have CN := cnext_any H1.out
    by_cases hlt : pl + k < n
    · have e1 : nextA bs (pl + k) = (bs[pl + k]?.getD 0, 0, pl + k + 1) := if_pos (by rw [HL.out]; exact hlt)
      have hd := numG_head bs (pl + k) n hlt HL.out
      have z := bounds_u8 (HZ.out (pl + k))
      rw [e1] at CN
      obtain ⟨c, ec⟩ : ∃ c, c = bs[pl + k]?.getD 0 := ⟨_, rfl⟩
      rw [← ec] at hd z CN
      have HD := hide hd
      have CN := hide CN
      clear hd ec e1
      obtain ⟨z0, z1⟩ := z
      go_wp2_with fail
      refine CN.out.mono ?_
      rintro e w1 ⟨rfl, hr1, hg1⟩
      have H2 := hide hr1
      have G2 := hide (World.grownBy.trans G1.out hg1)
      clear hr1 hg1
      by_cases k9 : k = 9
      · have h9 : ((q : Int) == 63) = true := by have := HQ.out; simp; omega
        have hq9 : 63 ≤ q := by have := HQ.out; omega
        by_cases hc1 : 1 < c
        · have q1 : decide (1 < c) = true := by simpa using hc1
          have HR2 : Hid (numG (bs.drop pl) 0 0 = ⟨0, 0, 21⟩) := by
            rw [← HG.out, HD.out]; exact numG_form _ _ _ _ (by omega)
          clear k9
          go_wp2_with fail
          go_ret2
          rw [HR2.out]
          exact ⟨rfl, _, H2.out, fun h => absurd h (by decide), G2.out⟩
        · have q1 : decide (1 < c) = false := by simp; omega
          have hk0 : (0 : Int) < (q : Int) := by omega
          have q2 : decide ((0 : Int) < (q : Int)) = true := by simp; omega
          by_cases hc0 : c = 0
          · have q3 : (c == 0) = true := by simpa using hc0
            have HR2 : Hid (numG (bs.drop pl) 0 0 = ⟨0, 0, 21⟩) := by
              rw [← HG.out, HD.out]; exact numG_form _ _ _ _ (by omega)
            clear k9 hc0
            go_wp2_with fail
            go_ret2
            rw [HR2.out]
            exact ⟨rfl, _, H2.out, fun h => absurd h (by decide), G2.out⟩
          · have q3 : (c == 0) = false := by simpa using hc0
            have q4 : decide (c < 128) = true := by simp; omega
            have hab := acc_bd vv k (c % 128).toNat (by omega) HV.out (by omega)
            have HA := hide (acc_or vv k q c z0 z1 HQ.out hk HV.out hab.1)
            have HR2 : Hid (numG (bs.drop pl) 0 0 = ⟨vv + (c % 128).toNat * 2 ^ (7 * k), k + 1, 0⟩) := by
              rw [← HG.out, HD.out]; exact numG_done _ _ _ _ (by omega) (by omega)
            clear hab
            clear k9
            go_wp2_with fail
            go_ret2
            rw [HR2.out]
            exact ⟨ret2 HA.out rfl, _, H2.out, fun _ => by show _ = pl + (k + 1); omega, G2.out⟩
      · have h9 : ((q : Int) == 63) = false := by have := HQ.out; simp; omega
        by_cases k0 : k = 0
        · have hq0 : (q : Int) ≤ 0 := by have := HQ.out; omega
          by_cases hc : c < 128
          · have q4 : decide (c < 128) = true := by simpa using hc
            have hab := acc_bd vv k (c % 128).toNat (by omega) HV.out (by omega)
            have HA := hide (acc_or vv k q c z0 z1 HQ.out hk HV.out hab.1)
            have HR2 : Hid (numG (bs.drop pl) 0 0 = ⟨vv + (c % 128).toNat * 2 ^ (7 * k), k + 1, 0⟩) := by
              rw [← HG.out, HD.out]; exact numG_done _ _ _ _ (by omega) (by omega)
            clear hab
            clear k0
            go_wp2_with fail
            go_ret2
            rw [HR2.out]
            exact ⟨ret2 HA.out rfl, _, H2.out, fun _ => by show _ = pl + (k + 1); omega, G2.out⟩
          · have q4 : decide (c < 128) = false := by simpa using hc
            have hab := acc_bd vv k (c % 128).toNat (by omega) HV.out (by omega)
            have HA := hide (acc_or vv k q c z0 z1 HQ.out hk HV.out hab.1)
            have HB := hide hab.2.2
            have HR2 : Hid (numG (bs.drop (pl + (k + 1))) (k + 1) (vv + (c % 128).toNat * 2 ^ (7 * k)) = numG (bs.drop pl) 0 0) := by
              rw [← HG.out, HD.out]; exact (numG_more _ _ _ _ (by omega) (by omega)).symm
            clear hab
            clear k0
            go_wp2_with fail
            go_roundw
            case rel => exact ⟨k + 1, _, q + 7, by omega, by omega, by go_num, by have := HQ.out; show _ = _; omega, by rw [HA.out], H2, G2, HB, HR2⟩
            case measure => simp [intOf]; omega
        · have hk0 : (0 : Int) < (q : Int) := by have := HQ.out; omega
          have q2 : decide ((0 : Int) < (q : Int)) = true := by simpa using hk0
          by_cases hc0 : c = 0
          · have q3 : (c == 0) = true := by simpa using hc0
            have HR2 : Hid (numG (bs.drop pl) 0 0 = ⟨0, 0, 21⟩) := by
              rw [← HG.out, HD.out]; exact numG_form _ _ _ _ (by omega)
            clear hc0
            go_wp2_with fail
            go_ret2
            rw [HR2.out]
            exact ⟨rfl, _, H2.out, fun h => absurd h (by decide), G2.out⟩
          · have q3 : (c == 0) = false := by simpa using hc0
            by_cases hc : c < 128
            · have q4 : decide (c < 128) = true := by simpa using hc
              have hab := acc_bd vv k (c % 128).toNat (by omega) HV.out (by omega)
              have HA := hide (acc_or vv k q c z0 z1 HQ.out hk HV.out hab.1)
              have HR2 : Hid (numG (bs.drop pl) 0 0 = ⟨vv + (c % 128).toNat * 2 ^ (7 * k), k + 1, 0⟩) := by
                rw [← HG.out, HD.out]; exact numG_done _ _ _ _ (by omega) (by omega)
              clear hab
              go_wp2_with fail
              go_ret2
              rw [HR2.out]
              exact ⟨ret2 HA.out rfl, _, H2.out, fun _ => by show _ = pl + (k + 1); omega, G2.out⟩
            · have q4 : decide (c < 128) = false := by simpa using hc
              have hab := acc_bd vv k (c % 128).toNat (by omega) HV.out (by omega)
              have HA := hide (acc_or vv k q c z0 z1 HQ.out hk HV.out hab.1)
              have HB := hide hab.2.2
              have HR2 : Hid (numG (bs.drop (pl + (k + 1))) (k + 1) (vv + (c % 128).toNat * 2 ^ (7 * k)) = numG (bs.drop pl) 0 0) := by
                rw [← HG.out, HD.out]; exact (numG_more _ _ _ _ (by omega) (by omega)).symm
              clear hab
              go_wp2_with fail
              go_roundw
              case rel => exact ⟨k + 1, _, q + 7, by omega, by omega, by go_num, by have := HQ.out; show _ = _; omega, by rw [HA.out], H2, G2, HB, HR2⟩
              case measure => simp [intOf]; omega
    · have e1 : nextA bs (pl + k) = (0, 20, pl + k) := if_neg (by rw [HL.out]; exact hlt)
      rw [e1] at CN
      have CN := hide CN
      clear e1
      have HR2 : Hid (numG (bs.drop pl) 0 0 = ⟨0, 0, 20⟩) := by
        rw [← HG.out, List.drop_of_length_le (by have := HL.out; omega)]; rfl
      go_wp2_with fail
      refine CN.out.mono ?_
      rintro e w1 ⟨rfl, hr1, hg1⟩
      have H2 := hide hr1
      have G2 := hide (World.grownBy.trans G1.out hg1)
      clear hr1 hg1
      go_wp2_with fail
      go_ret2
      rw [HR2.out]
      exact ⟨rfl, _, H2.out, fun h => absurd h (by decide), G2.out⟩

/-- what upTo answers -/
def upR (G : NumR) (most : Int) : Int × Int := if G.e = 0 then (if max 0 most < (G.v : Int) then (0, 22) else ((G.v : Int), 0)) else (0, G.e)

theorem cupto_at {w : World} {R : Nat} {a : Option Addr} {n cp : Nat} {bs : List Int} {pl : Nat} {err : Int} (most m : Int) (hm : (0 < most ∧ most = m) ∨ (most ≤ 0 ∧ m = 0)) (h9 : most < 9223372036854775808) (h : Rd w R a n cp bs pl err) :
    Calls Try.prog 92 #[.pointer (some ⟨R, 0, none⟩), .int .i64 most] w fun e w' => e = .returned (.tuple #[.int .i64 (upR (numG (bs.drop pl) 0 0) most).1, .int .i64 (upR (numG (bs.drop pl) 0 0) most).2]) ∧ ∃ p', Rd w' R a n cp bs p' err ∧ ((upR (numG (bs.drop pl) 0 0) most).2 = 0 → p' = pl + (numG (bs.drop pl) 0 0).used) ∧ w.grownBy w' (some R) := by
  have CN := cnumber_any h
  have hlt := numG_lt (bs.drop pl) 0 0 (by omega) (by simp) (fun x hx => bs_bd h.sq.wf x (List.mem_of_mem_drop hx))
  obtain ⟨G, eG⟩ : ∃ G, G = numG (bs.drop pl) 0 0 := ⟨_, rfl⟩
  rw [← eG] at CN hlt ⊢
  clear h eG
  obtain ⟨v, u, x⟩ := G
  have CN := hide CN
  have hv : v < 18446744073709551616 := hlt
  have hmax : max 0 most = m := by omega
  have HX := hide hmax
  clear hlt hmax
  by_cases h0 : x = 0
  · subst h0
    by_cases h1 : m < (v : Int)
    · have HU : Hid (upR ⟨v, u, 0⟩ most = (0, 22)) := by show _ = _; unfold upR; rw [HX.out]; simp [h1]
      rcases hm with ⟨hm, rfl⟩ | ⟨hm, rfl⟩
      · have q1 : decide (most < (v : Int)) = true := by simpa using h1
        go_enter Try.func92, Try.ntmps92
        go_wp2_with fail
        refine CN.out.mono ?_
        rintro e w1 ⟨rfl, p', hr, hp, hg⟩
        have H1 := hide hr
        have G1 := hide hg
        clear hr hg hp
        go_wp2_with fail
        all_goals
          go_ret2
          rw [HU.out]
          exact ⟨rfl, _, H1.out, fun h => absurd h (by decide), G1.out⟩
      · have q1 : decide (0 < (v : Int)) = true := by simpa using h1
        go_enter Try.func92, Try.ntmps92
        go_wp2_with fail
        refine CN.out.mono ?_
        rintro e w1 ⟨rfl, p', hr, hp, hg⟩
        have H1 := hide hr
        have G1 := hide hg
        clear hr hg hp
        go_wp2_with fail
        all_goals
          go_ret2
          rw [HU.out]
          exact ⟨rfl, _, H1.out, fun h => absurd h (by decide), G1.out⟩
    · have HU : Hid (upR ⟨v, u, 0⟩ most = ((v : Int), 0)) := by show _ = _; unfold upR; rw [HX.out]; simp [h1]
      rcases hm with ⟨hm, rfl⟩ | ⟨hm, rfl⟩
      · have q1 : decide (most < (v : Int)) = false := by simpa using h1
        have hv9 : (v : Int) < 9223372036854775808 := by omega
        go_enter Try.func92, Try.ntmps92
        go_wp2_with fail
        refine CN.out.mono ?_
        rintro e w1 ⟨rfl, p', hr, hp, hg⟩
        have H1 := hide hr
        have G1 := hide hg
        have P1 := hide hp
        clear hr hg hp
        go_wp2_with fail
        all_goals
          go_ret2
          rw [HU.out]
          exact ⟨rfl, _, H1.out, (fun _ => P1.out (by trivial)), G1.out⟩
      · obtain rfl : v = 0 := by omega
        go_enter Try.func92, Try.ntmps92
        go_wp2_with fail
        refine CN.out.mono ?_
        rintro e w1 ⟨rfl, p', hr, hp, hg⟩
        have H1 := hide hr
        have G1 := hide hg
        have P1 := hide hp
        clear hr hg hp
        go_wp2_with fail
        all_goals
          go_ret2
          rw [HU.out]
          exact ⟨rfl, _, H1.out, (fun _ => P1.out (by trivial)), G1.out⟩
  · have HU : Hid (upR ⟨v, u, x⟩ most = (0, x)) := if_neg h0
    have hx : (x == 0) = false := by simpa using h0
    have hx2 : (x != 0) = true := by simpa using h0
    have HX0 := hide h0
    go_enter Try.func92, Try.ntmps92
    go_wp2_with fail
    refine CN.out.mono ?_
    rintro e w1 ⟨rfl, p', hr, hp, hg⟩
    have H1 := hide hr
    have G1 := hide hg
    clear hr hg hp
    go_wp2_with fail
    go_ret2
    rw [HU.out]
    exact ⟨rfl, _, H1.out, fun h => absurd h HX0.out, G1.out⟩
theorem cupto_any {w : World} {R : Nat} {a : Option Addr} {n cp : Nat} {bs : List Int} {pl : Nat} {err : Int} (most : Int) (h9 : most < 9223372036854775808) (h : Rd w R a n cp bs pl err) :
    Calls Try.prog 92 #[.pointer (some ⟨R, 0, none⟩), .int .i64 most] w fun e w' => e = .returned (.tuple #[.int .i64 (upR (numG (bs.drop pl) 0 0) most).1, .int .i64 (upR (numG (bs.drop pl) 0 0) most).2]) ∧ ∃ p', Rd w' R a n cp bs p' err ∧ ((upR (numG (bs.drop pl) 0 0) most).2 = 0 → p' = pl + (numG (bs.drop pl) 0 0).used) ∧ w.grownBy w' (some R) := by
  by_cases hm : 0 < most
  · exact cupto_at most most (.inl ⟨hm, rfl⟩) h9 h
  · exact cupto_at most 0 (.inr ⟨by omega, rfl⟩) h9 h
end Go.Proofs.Ytfdejkfbjmkngab
