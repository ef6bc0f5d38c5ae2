/- What the landed Num, Int and Text return: the bytes of a number, an int, a text, in memory of their own. No condition but the size. What the landed reader's number and upTo do. No condition. What the landed thing does with each of the reader's six readings, whatever these do. No condition. What the landed reader's Num, Int, Byte, Flag and Count answer, and how it stands then. No condition. What the landed reader's Text answers, and how it stands then. No condition. -/
import Derived.Test.YthklpkmdmkgjiaaGreatJA
import Derived.Laws.AppendOwnNone
import Derived.Laws.BitsAllLaws
import Derived.Deep.RegionHeld3
namespace Go.Proofs.YthklpkmdmkgjiaaGreat
open Go.ChangeShapes Go.WideShapes Go.ChangeAt Go.RowKit B8 Cm
set_option linter.unusedVariables false

theorem or128_all : ∀ a, a < 256 → a ||| 128 = a % 128 + 128 := by decide +kernel
theorem or128 (x : Nat) : bits .or .u8 ((x : Int) % 256) 128 = (x : Int) % 128 + 128 := by
  rw [u8_or _ 128 (by omega) (by omega) (by omega) (by omega), show (128 : Int).toNat = 128 from rfl, or128_all _ (by omega)]
  omega

set_option maxRecDepth 20000 in
set_option maxHeartbeats 1000000 in
theorem cnumw_any (V : Nat) (w : World) (hV : V < 18446744073709551616) :
    Calls Tryz.prog 118 #[.int .u64 V] w fun e w' => ∃ x, e = .returned x ∧ w'.ownsRow w.heap.size 5 1 x (numB V).length (vals (numB V)) ∧ Below w.heap.size w w' := by
  obtain ⟨i0, hi, hz0, hz1, hz2⟩ := info_parts B8.info
  go_enter Tryz.func118, Tryz.ntmps118
  go_wp2_with fail
  go_loopw [0, 3] (fun v b wr => ∃ (f x : Nat) (xs : List Int), v = .int .u64 x ∧ Hid (xs ++ numF f x = numB V) ∧ Hid (x < 128 ^ (f + 1)) ∧ x < 18446744073709551616 ∧ xs.length + f ≤ 9 ∧ wr.ownsRow w.heap.size 5 1 b xs.length (vals xs) ∧ Below w.heap.size w wr) (fun v _ _ => (intOf v).toNat)
  case atStart => exact ⟨9, V, [], rfl, rfl, by show _ < _; omega, hV, by simp, World.ownsRow_nil _ _ _ _, Below.refl _ _⟩
  case round =>
    obtain ⟨f, x, xs, rfl, HX, HF, hx, hl, hown, hnx⟩ := hrel
    by_cases h : x ≤ 127
    · have HE : Hid (xs ++ [(x : Int)] = numB V) := by
        have := HX.out
        rw [numF_end f x h] at this
        exact this
      go_wp2_with (first
        | (at_builtin; refine wpList_append_own _ rfl (.tmp 14) (.tmp 17) 29 rfl w.heap.size 5 i0 (.int .u8 0) 1 1 Tryz.underlying29 hi hz0 hz1 hz2 rfl (by decide) _ _ _ rfl (hown.alloc _) ⟨wr.heap.size, 0, none⟩ 1 1 [.int .u8 (x : Int)] rfl rfl ?c1 ?c2 ?c3 ?c4 ?c5 ?_))
      case c1 =>
        intro j u hj
        match j, hj with
        | 0, hj => simp at hj; subst hj; simp [Addr.add]
      case c2 => intro u hu; simp at hu; subst hu; rfl
      case c3 => unfold maxLen; omega
      case c4 => omega
      case c5 => have := hnx.size; simp; omega
      intro v' w1 hown' hgrow _
      go_wp2_with fail
      go_ret
      refine ⟨v', rfl, ?_, (hnx.alloc hnx.size _).grown hgrow (by have := hnx.size; simp; omega) (fun k hk => (hown.lt k hk).1)⟩
      rw [← HE.out, vals_append, List.length_append]
      exact hown'
    · obtain ⟨f', rfl⟩ : ∃ f', f = f' + 1 := by
        match f, HF.out with
        | 0, h2 => omega
        | f + 1, _ => exact ⟨f, rfl⟩
      have HE : Hid (xs ++ [(x : Int) % 128 + 128] ++ numF f' (x / 128) = numB V) := by
        have := HX.out
        rw [numF_more f' x h] at this
        show _ = _
        rw [List.append_assoc]
        exact this
      have HF' : Hid (x / 128 < 128 ^ (f' + 1)) := by
        have := HF.out
        rw [Nat.pow_succ] at this
        exact Nat.div_lt_of_lt_mul (by rw [Nat.mul_comm]; exact this)
      have HO := or128 x
      go_wp2_with (first
        | (at_builtin; refine wpList_append_own _ rfl (.tmp 6) (.tmp 10) 29 rfl w.heap.size 5 i0 (.int .u8 0) 1 1 Tryz.underlying29 hi hz0 hz1 hz2 rfl (by decide) _ _ _ rfl (hown.alloc _) ⟨wr.heap.size, 0, none⟩ 1 1 [.int .u8 ((x : Int) % 128 + 128)] rfl rfl ?d1 ?d2 ?d3 ?d4 ?d5 ?_))
      case d1 =>
        intro j u hj
        match j, hj with
        | 0, hj => simp at hj; subst hj; simp [Addr.add]
      case d2 => intro u hu; simp at hu; subst hu; rfl
      case d3 => unfold maxLen; omega
      case d4 => omega
      case d5 => have := hnx.size; simp; omega
      intro v' w1 hown' hgrow _
      go_wp2_with fail
      go_roundw
      case rel =>
        refine ⟨f', x / 128, xs ++ [(x : Int) % 128 + 128], by go_num, HE, HF', by omega, by simp; omega, ?_, (hnx.alloc hnx.size _).grown hgrow (by have := hnx.size; simp; omega) (fun k hk => (hown.lt k hk).1)⟩
        rw [vals_append, List.length_append]
        exact hown'
      case measure => simp [intOf]; omega

theorem cnumw_int (x : Int) (w : World) (h0 : 0 ≤ x) (h1 : x < 18446744073709551616) :
    Calls Tryz.prog 118 #[.int .u64 x] w fun e w' => ∃ y, e = .returned y ∧ w'.ownsRow w.heap.size 5 1 y (numB x.toNat).length (vals (numB x.toNat)) ∧ Below w.heap.size w w' := by
  have := cnumw_any x.toNat w (by omega)
  rw [show ((x.toNat : Nat) : Int) = x from by omega] at this
  exact this

theorem not64 (n : Int) (h0 : -9223372036854775808 ≤ n) (h1 : n < 0) : bits .xor .u64 IntKind.u64.max (IntKind.u64.wrap (IntKind.u64.wrap n * 2)) = 2 * -(n + 1) + 1 := by
  rw [wrapU n, wrapU]
  obtain ⟨s, hs⟩ : ∃ s : Nat, n % 18446744073709551616 * 2 % 18446744073709551616 = s := ⟨(n % 18446744073709551616 * 2 % 18446744073709551616).toNat, by omega⟩
  rw [hs]
  show IntKind.u64.wrap ((BitVec.ofInt 64 IntKind.u64.max ^^^ BitVec.ofInt 64 (s : Int)).toNat : Int) = _
  have e1 : BitVec.ofInt 64 IntKind.u64.max = BitVec.allOnes 64 := by decide
  rw [e1, BitVec.allOnes_xor, BitVec.toNat_not, BitVec.toNat_ofInt, wrapU]
  omega

theorem cintw_any (n : Int) (w : World) (n0 : -9223372036854775808 ≤ n) (n1 : n ≤ 9223372036854775807) :
    Calls Tryz.prog 119 #[.int .i64 n] w fun e w' => ∃ y, e = .returned y ∧ w'.ownsRow w.heap.size 5 1 y (numB (zig n)).length (vals (numB (zig n))) ∧ Below w.heap.size w w' := by
  by_cases h : 0 ≤ n
  · have c := hide (cnumw_int (n * 2) w (by omega) (by omega))
    rw [show zig n = (n * 2).toNat by rw [zig_up n h]; omega]
    go_enter Tryz.func119, Tryz.ntmps119
    go_wp2_with fail
    refine c.out.mono ?_
    rintro e w' ⟨y, rfl, h1, h2⟩
    go_wp2_with fail
    go_ret
    exact ⟨y, rfl, h1, h2⟩
  · have c := hide (cnumw_int (2 * -(n + 1) + 1) w (by omega) (by omega))
    rw [zig_down n h]
    have HN := hide (not64 n n0 (by omega))
    go_enter Tryz.func119, Tryz.ntmps119
    go_wp2_with fail
    rw [HN.out]
    refine c.out.mono ?_
    rintro e w' ⟨y, rfl, h1, h2⟩
    go_wp2_with fail
    go_ret
    exact ⟨y, rfl, h1, h2⟩
theorem cnumB_wfs (v : Nat) (h : v < 18446744073709551616) : wfs (numB v) := by
  intro j
  by_cases hj : j < (numB v).length
  · rw [List.getElem?_eq_getElem hj]
    have := numF_bytes 9 v (by omega) _ (List.getElem_mem hj)
    exact WalkArith.wf_u8 (by show 0 ≤ (numB v)[j] ∧ (numB v)[j] ≤ 255; exact this)
  · rw [List.getElem?_eq_none (Nat.le_of_not_lt hj)]
    decide

theorem ctextw_sq {a : Option Addr} {len cap : Nat} {bs : List Int} {w : World} (h : Sq w a len cap bs) (hr : len ≤ 140737488355312) :
    Calls Tryz.prog 117 #[.slice a len cap] w fun e w' => ∃ y, e = .returned y ∧ w'.ownsRow w.heap.size 5 1 y (numB bs.length ++ bs).length (vals (numB bs.length ++ bs)) ∧ Below w.heap.size w w' := by
  have c := hide (cnumw_any len w (by omega))
  have hl := numF_length 9 len
  have hl' : (numB len).length ≤ 10 := hl.2
  have H := hide h
  clear h hl
  go_enter Tryz.func117, Tryz.ntmps117
  go_wp2_with fail
  refine c.out.mono ?_
  rintro e w1 ⟨y, rfl, hown, hb1⟩
  have H1 := hide (H.out.below hb1)
  go_wp2_with (at_builtin; refine wp_append_sq _ rfl (.tmp 6) (.tmp 7) rfl w.heap.size y (numB len).length (numB len) rfl hown a len cap bs rfl H1.out (by omega) hb1.size ?_; intro v2 w2 hown2 hgrow2)
  go_ret
  refine ⟨v2, rfl, ?_, below_grown hb1 hown (Nat.le_refl _) hgrow2⟩
  rw [List.length_append, H.out.length]
  exact hown2
end Go.Proofs.YthklpkmdmkgjiaaGreat

namespace Go.Proofs.YthklpkmdmkgjiaaGreat
open Go.ChangeShapes Go.WideShapes Go.ChangeAt Go.RowKit B8 Cm
set_option linter.unusedVariables false

theorem or_add (vv k d : Nat) (h : vv < 2 ^ (7 * k)) : vv ||| d * 2 ^ (7 * k) = vv + d * 2 ^ (7 * k) := by
  have := Nat.two_pow_add_eq_or_of_lt (i := 7 * k) (b := vv) h d
  rw [Nat.or_comm, Nat.mul_comm d, ← this]
  omega

theorem acc_or (vv k q : Nat) (c : Int) (c0 : 0 ≤ c) (c1 : c ≤ 255) (hq : q = 7 * k) (hk : k ≤ 9) (hv : vv < 2 ^ (7 * k)) (h1 : (c % 128).toNat * 2 ^ (7 * k) < 18446744073709551616) :
    bits .or .u64 (vv : Int) (IntKind.u64.wrap (IntKind.u64.wrap (bits .and .u8 c 127) * 2 ^ q)) = ((vv + (c % 128).toNat * 2 ^ (7 * k) : Nat) : Int) := by
  subst hq
  rw [u8_and c 127 c0 (by omega) (by omega) (by omega), show (127 : Int).toNat = 127 from rfl, nat_mask7]
  have e0 : c.toNat % 128 = (c % 128).toNat := by omega
  rw [e0]
  obtain ⟨d, hd⟩ : ∃ d : Nat, (c % 128).toNat = d := ⟨_, rfl⟩
  rw [hd] at h1 ⊢
  have hd1 : d ≤ 127 := by omega
  rw [wrapU (d : Int), show ((d : Int) % 18446744073709551616) = d by omega]
  have e : ((d : Int) * 2 ^ (7 * k)) = ((d * 2 ^ (7 * k) : Nat) : Int) := by simp
  rw [e, wrapU, show (((d * 2 ^ (7 * k) : Nat) : Int) % 18446744073709551616) = ((d * 2 ^ (7 * k) : Nat) : Int) by omega]
  by_cases hv64 : vv < 18446744073709551616
  · rw [u64_or_nat _ _ hv64 h1, or_add vv k d hv]
  · exact absurd (Nat.lt_of_lt_of_le hv (show 2 ^ (7 * k) ≤ 18446744073709551616 from by
      exact Nat.le_trans (Nat.pow_le_pow_right (by omega) (show 7 * k ≤ 64 by omega)) (by decide))) hv64

theorem numG_head (bs : List Int) (p n : Nat) (h : p < n) (hl : bs.length = n) : bs.drop p = (bs[p]?.getD 0) :: bs.drop (p + 1) := by
  rw [List.drop_eq_getElem_cons (by omega), List.getElem?_eq_getElem (by omega)]
  rfl

set_option maxHeartbeats 4000000 in
theorem cnumber_any {w : World} {R : Nat} {a : Option Addr} {n cp : Nat} {bs : List Int} {pl : Nat} {err : Int} (h : Rd w R a n cp bs pl err) :
    Calls Tryz.prog 137 #[.pointer (some ⟨R, 0, none⟩)] w fun e w' => e = .returned (.tuple #[.int .u64 ((numG (bs.drop pl) 0 0).v : Nat), .int .i64 (numG (bs.drop pl) 0 0).e]) ∧ ∃ p', Rd w' R a n cp bs p' err ∧ ((numG (bs.drop pl) 0 0).e = 0 → p' = pl + (numG (bs.drop pl) 0 0).used) ∧ w.grownBy w' (some R) := by
  have HR := hide h
  have HL : Hid (bs.length = n) := h.sq.length
  have hpl := h.place
  have hro := h.room
  have HZ := hide h.sq.wf
  clear h
  go_enter Tryz.func137, Tryz.ntmps137
  go_wp2_with fail
  go_loopw [4, 5, 6, 7] (fun v i _ _ wr => ∃ (k vv q : Nat), k ≤ 9 ∧ pl + k ≤ n ∧ i = .int .i64 q ∧ Hid (q = 7 * k) ∧ v = .int .u64 vv ∧ Hid (Rd wr R a n cp bs (pl + k) err) ∧ Hid (w.grownBy wr (some R)) ∧ Hid (vv < 2 ^ (7 * k)) ∧ Hid (numG (bs.drop (pl + k)) k vv = numG (bs.drop pl) 0 0)) (fun _ i _ _ _ => 70 - (intOf i).toNat)
  case atStart => exact ⟨0, 0, 0, by omega, by omega, rfl, rfl, rfl, HR, World.grownBy.refl _ _, by show _ < _; simp, rfl⟩
  case round =>
    obtain ⟨k, vv, q, hk, hn, rfl, HQ, rfl, H1, G1, HV, HG⟩ := hrel
    have hq : q ≤ 63 := by have := HQ.out; omega
    have CN := cnext_any H1.out
    by_cases hlt : pl + k < n
    · have e1 : nextA bs (pl + k) = (bs[pl + k]?.getD 0, 0, pl + k + 1) := if_pos (by rw [HL.out]; exact hlt)
      have hd := numG_head bs (pl + k) n hlt HL.out
      have z := bounds_u8 (HZ.out (pl + k))
      rw [e1] at CN
      obtain ⟨c, ec⟩ : ∃ c, c = bs[pl + k]?.getD 0 := ⟨_, rfl⟩
      rw [← ec] at hd z CN
      have HD := hide hd
      have CN := hide CN
      clear hd ec e1
      obtain ⟨z0, z1⟩ := z
      go_wp2_with fail
      refine CN.out.mono ?_
      rintro e w1 ⟨rfl, hr1, hg1⟩
      have H2 := hide hr1
      have G2 := hide (World.grownBy.trans G1.out hg1)
      clear hr1 hg1
      by_cases k9 : k = 9
      · have h9 : ((q : Int) == 63) = true := by have := HQ.out; simp; omega
        have hq9 : 63 ≤ q := by have := HQ.out; omega
        by_cases hc1 : 1 < c
        · have q1 : decide (1 < c) = true := by simpa using hc1
          have HR2 : Hid (numG (bs.drop pl) 0 0 = ⟨0, 0, 21⟩) := by
            rw [← HG.out, HD.out]; exact numG_form _ _ _ _ (by omega)
          clear k9
          go_wp2_with fail
          go_ret2
          rw [HR2.out]
          exact ⟨rfl, _, H2.out, fun h => absurd h (by decide), G2.out⟩
        · have q1 : decide (1 < c) = false := by simp; omega
          have hk0 : (0 : Int) < (q : Int) := by omega
          have q2 : decide ((0 : Int) < (q : Int)) = true := by simp; omega
          by_cases hc0 : c = 0
          · have q3 : (c == 0) = true := by simpa using hc0
            have HR2 : Hid (numG (bs.drop pl) 0 0 = ⟨0, 0, 21⟩) := by
              rw [← HG.out, HD.out]; exact numG_form _ _ _ _ (by omega)
            clear k9 hc0
            go_wp2_with fail
            go_ret2
            rw [HR2.out]
            exact ⟨rfl, _, H2.out, fun h => absurd h (by decide), G2.out⟩
          · have q3 : (c == 0) = false := by simpa using hc0
            have q4 : decide (c < 128) = true := by simp; omega
            have hab := acc_bd vv k (c % 128).toNat (by omega) HV.out (by omega)
            have HA := hide (acc_or vv k q c z0 z1 HQ.out hk HV.out hab.1)
            have HR2 : Hid (numG (bs.drop pl) 0 0 = ⟨vv + (c % 128).toNat * 2 ^ (7 * k), k + 1, 0⟩) := by
              rw [← HG.out, HD.out]; exact numG_done _ _ _ _ (by omega) (by omega)
            clear hab
            clear k9
            go_wp2_with fail
            go_ret2
            rw [HR2.out]
            exact ⟨ret2 HA.out rfl, _, H2.out, fun _ => by show _ = pl + (k + 1); omega, G2.out⟩
      · have h9 : ((q : Int) == 63) = false := by have := HQ.out; simp; omega
        by_cases k0 : k = 0
        · have hq0 : (q : Int) ≤ 0 := by have := HQ.out; omega
          by_cases hc : c < 128
          · have q4 : decide (c < 128) = true := by simpa using hc
            have hab := acc_bd vv k (c % 128).toNat (by omega) HV.out (by omega)
            have HA := hide (acc_or vv k q c z0 z1 HQ.out hk HV.out hab.1)
            have HR2 : Hid (numG (bs.drop pl) 0 0 = ⟨vv + (c % 128).toNat * 2 ^ (7 * k), k + 1, 0⟩) := by
              rw [← HG.out, HD.out]; exact numG_done _ _ _ _ (by omega) (by omega)
            clear hab
            clear k0
            go_wp2_with fail
            go_ret2
            rw [HR2.out]
            exact ⟨ret2 HA.out rfl, _, H2.out, fun _ => by show _ = pl + (k + 1); omega, G2.out⟩
          · have q4 : decide (c < 128) = false := by simpa using hc
            have hab := acc_bd vv k (c % 128).toNat (by omega) HV.out (by omega)
            have HA := hide (acc_or vv k q c z0 z1 HQ.out hk HV.out hab.1)
            have HB := hide hab.2.2
            have HR2 : Hid (numG (bs.drop (pl + (k + 1))) (k + 1) (vv + (c % 128).toNat * 2 ^ (7 * k)) = numG (bs.drop pl) 0 0) := by
              rw [← HG.out, HD.out]; exact (numG_more _ _ _ _ (by omega) (by omega)).symm
            clear hab
            clear k0
            go_wp2_with fail
            go_roundw
            case rel => exact ⟨k + 1, _, q + 7, by omega, by omega, by go_num, by have := HQ.out; show _ = _; omega, by rw [HA.out], H2, G2, HB, HR2⟩
            case measure => simp [intOf]; omega
        · have hk0 : (0 : Int) < (q : Int) := by have := HQ.out; omega
          have q2 : decide ((0 : Int) < (q : Int)) = true := by simpa using hk0
          by_cases hc0 : c = 0
          · have q3 : (c == 0) = true := by simpa using hc0
            have HR2 : Hid (numG (bs.drop pl) 0 0 = ⟨0, 0, 21⟩) := by
              rw [← HG.out, HD.out]; exact numG_form _ _ _ _ (by omega)
            clear hc0
            go_wp2_with fail
            go_ret2
            rw [HR2.out]
            exact ⟨rfl, _, H2.out, fun h => absurd h (by decide), G2.out⟩
          · have q3 : (c == 0) = false := by simpa using hc0
            by_cases hc : c < 128
            · have q4 : decide (c < 128) = true := by simpa using hc
              have hab := acc_bd vv k (c % 128).toNat (by omega) HV.out (by omega)
              have HA := hide (acc_or vv k q c z0 z1 HQ.out hk HV.out hab.1)
              have HR2 : Hid (numG (bs.drop pl) 0 0 = ⟨vv + (c % 128).toNat * 2 ^ (7 * k), k + 1, 0⟩) := by
                rw [← HG.out, HD.out]; exact numG_done _ _ _ _ (by omega) (by omega)
              clear hab
              go_wp2_with fail
              go_ret2
              rw [HR2.out]
              exact ⟨ret2 HA.out rfl, _, H2.out, fun _ => by show _ = pl + (k + 1); omega, G2.out⟩
            · have q4 : decide (c < 128) = false := by simpa using hc
              have hab := acc_bd vv k (c % 128).toNat (by omega) HV.out (by omega)
              have HA := hide (acc_or vv k q c z0 z1 HQ.out hk HV.out hab.1)
              have HB := hide hab.2.2
              have HR2 : Hid (numG (bs.drop (pl + (k + 1))) (k + 1) (vv + (c % 128).toNat * 2 ^ (7 * k)) = numG (bs.drop pl) 0 0) := by
                rw [← HG.out, HD.out]; exact (numG_more _ _ _ _ (by omega) (by omega)).symm
              clear hab
              go_wp2_with fail
              go_roundw
              case rel => exact ⟨k + 1, _, q + 7, by omega, by omega, by go_num, by have := HQ.out; show _ = _; omega, by rw [HA.out], H2, G2, HB, HR2⟩
              case measure => simp [intOf]; omega
    · have e1 : nextA bs (pl + k) = (0, 20, pl + k) := if_neg (by rw [HL.out]; exact hlt)
      rw [e1] at CN
      have CN := hide CN
      clear e1
      have HR2 : Hid (numG (bs.drop pl) 0 0 = ⟨0, 0, 20⟩) := by
        rw [← HG.out, List.drop_of_length_le (by have := HL.out; omega)]; rfl
      go_wp2_with fail
      refine CN.out.mono ?_
      rintro e w1 ⟨rfl, hr1, hg1⟩
      have H2 := hide hr1
      have G2 := hide (World.grownBy.trans G1.out hg1)
      clear hr1 hg1
      go_wp2_with fail
      go_ret2
      rw [HR2.out]
      exact ⟨rfl, _, H2.out, fun h => absurd h (by decide), G2.out⟩

/-- what upTo answers -/
def upR (G : NumR) (most : Int) : Int × Int := if G.e = 0 then (if max 0 most < (G.v : Int) then (0, 22) else ((G.v : Int), 0)) else (0, G.e)

theorem cupto_at {w : World} {R : Nat} {a : Option Addr} {n cp : Nat} {bs : List Int} {pl : Nat} {err : Int} (most m : Int) (hm : (0 < most ∧ most = m) ∨ (most ≤ 0 ∧ m = 0)) (h9 : most < 9223372036854775808) (h : Rd w R a n cp bs pl err) :
    Calls Tryz.prog 133 #[.pointer (some ⟨R, 0, none⟩), .int .i64 most] w fun e w' => e = .returned (.tuple #[.int .i64 (upR (numG (bs.drop pl) 0 0) most).1, .int .i64 (upR (numG (bs.drop pl) 0 0) most).2]) ∧ ∃ p', Rd w' R a n cp bs p' err ∧ ((upR (numG (bs.drop pl) 0 0) most).2 = 0 → p' = pl + (numG (bs.drop pl) 0 0).used) ∧ w.grownBy w' (some R) := by
  have CN := cnumber_any h
  have hlt := numG_lt (bs.drop pl) 0 0 (by omega) (by simp) (fun x hx => bs_bd h.sq.wf x (List.mem_of_mem_drop hx))
  obtain ⟨G, eG⟩ : ∃ G, G = numG (bs.drop pl) 0 0 := ⟨_, rfl⟩
  rw [← eG] at CN hlt ⊢
  clear h eG
  obtain ⟨v, u, x⟩ := G
  have CN := hide CN
  have hv : v < 18446744073709551616 := hlt
  have hmax : max 0 most = m := by omega
  have HX := hide hmax
  clear hlt hmax
  by_cases h0 : x = 0
  · subst h0
    by_cases h1 : m < (v : Int)
    · have HU : Hid (upR ⟨v, u, 0⟩ most = (0, 22)) := by show _ = _; unfold upR; rw [HX.out]; simp [h1]
      rcases hm with ⟨hm, rfl⟩ | ⟨hm, rfl⟩
      · have q1 : decide (most < (v : Int)) = true := by simpa using h1
        go_enter Tryz.func133, Tryz.ntmps133
        go_wp2_with fail
        refine CN.out.mono ?_
        rintro e w1 ⟨rfl, p', hr, hp, hg⟩
        have H1 := hide hr
        have G1 := hide hg
        clear hr hg hp
        go_wp2_with fail
        all_goals
          go_ret2
          rw [HU.out]
          exact ⟨rfl, _, H1.out, fun h => absurd h (by decide), G1.out⟩
      · have q1 : decide (0 < (v : Int)) = true := by simpa using h1
        go_enter Tryz.func133, Tryz.ntmps133
        go_wp2_with fail
        refine CN.out.mono ?_
        rintro e w1 ⟨rfl, p', hr, hp, hg⟩
        have H1 := hide hr
        have G1 := hide hg
        clear hr hg hp
        go_wp2_with fail
        all_goals
          go_ret2
          rw [HU.out]
          exact ⟨rfl, _, H1.out, fun h => absurd h (by decide), G1.out⟩
    · have HU : Hid (upR ⟨v, u, 0⟩ most = ((v : Int), 0)) := by show _ = _; unfold upR; rw [HX.out]; simp [h1]
      rcases hm with ⟨hm, rfl⟩ | ⟨hm, rfl⟩
      · have q1 : decide (most < (v : Int)) = false := by simpa using h1
        have hv9 : (v : Int) < 9223372036854775808 := by omega
        go_enter Tryz.func133, Tryz.ntmps133
        go_wp2_with fail
        refine CN.out.mono ?_
        rintro e w1 ⟨rfl, p', hr, hp, hg⟩
        have H1 := hide hr
        have G1 := hide hg
        have P1 := hide hp
        clear hr hg hp
        go_wp2_with fail
        all_goals
          go_ret2
          rw [HU.out]
          exact ⟨rfl, _, H1.out, (fun _ => P1.out (by trivial)), G1.out⟩
      · obtain rfl : v = 0 := by omega
        go_enter Tryz.func133, Tryz.ntmps133
        go_wp2_with fail
        refine CN.out.mono ?_
        rintro e w1 ⟨rfl, p', hr, hp, hg⟩
        have H1 := hide hr
        have G1 := hide hg
        have P1 := hide hp
        clear hr hg hp
        go_wp2_with fail
        all_goals
          go_ret2
          rw [HU.out]
          exact ⟨rfl, _, H1.out, (fun _ => P1.out (by trivial)), G1.out⟩
  · have HU : Hid (upR ⟨v, u, x⟩ most = (0, x)) := if_neg h0
    have hx : (x == 0) = false := by simpa using h0
    have hx2 : (x != 0) = true := by simpa using h0
    have HX0 := hide h0
    go_enter Tryz.func133, Tryz.ntmps133
    go_wp2_with fail
    refine CN.out.mono ?_
    rintro e w1 ⟨rfl, p', hr, hp, hg⟩
    have H1 := hide hr
    have G1 := hide hg
    clear hr hg hp
    go_wp2_with fail
    go_ret2
    rw [HU.out]
    exact ⟨rfl, _, H1.out, fun h => absurd h HX0.out, G1.out⟩
theorem cupto_any {w : World} {R : Nat} {a : Option Addr} {n cp : Nat} {bs : List Int} {pl : Nat} {err : Int} (most : Int) (h9 : most < 9223372036854775808) (h : Rd w R a n cp bs pl err) :
    Calls Tryz.prog 133 #[.pointer (some ⟨R, 0, none⟩), .int .i64 most] w fun e w' => e = .returned (.tuple #[.int .i64 (upR (numG (bs.drop pl) 0 0) most).1, .int .i64 (upR (numG (bs.drop pl) 0 0) most).2]) ∧ ∃ p', Rd w' R a n cp bs p' err ∧ ((upR (numG (bs.drop pl) 0 0) most).2 = 0 → p' = pl + (numG (bs.drop pl) 0 0).used) ∧ w.grownBy w' (some R) := by
  by_cases hm : 0 < most
  · exact cupto_at most most (.inl ⟨hm, rfl⟩) h9 h
  · exact cupto_at most 0 (.inr ⟨by omega, rfl⟩) h9 h
end Go.Proofs.YthklpkmdmkgjiaaGreat

namespace Go.Proofs.YthklpkmdmkgjiaaGreat
open Go.ChangeShapes Go.WideShapes Go.ChangeAt Go.RowKit B8 Cm
set_option linter.unusedVariables false

/-- what thing answers -/
def thingV (err X : Int) (V Z : Value) : Value := if err = 0 then (if X = 0 then V else Z) else Z
/-- how the reader stands behind it -/
def thingS (err X : Int) (pl P : Nat) : St := if err = 0 then (if X = 0 then ⟨P, 0⟩ else ⟨pl, X⟩) else ⟨pl, err⟩
theorem thingV_ok (V Z : Value) : thingV 0 0 V Z = V := rfl
theorem thingV_bad {X : Int} (h : ¬ X = 0) (V Z : Value) : thingV 0 X V Z = Z := if_neg h
theorem thingV_fault {err : Int} (h : ¬ err = 0) (X : Int) (V Z : Value) : thingV err X V Z = Z := if_neg h
theorem thingS_ok (pl P : Nat) : thingS 0 0 pl P = ⟨P, 0⟩ := rfl
theorem thingS_bad {X : Int} (h : ¬ X = 0) (pl P : Nat) : thingS 0 X pl P = ⟨pl, X⟩ := if_neg h
theorem thingS_fault {err : Int} (h : ¬ err = 0) (X : Int) (pl P : Nat) : thingS err X pl P = ⟨pl, err⟩ := if_neg h

/-- what a reading promises: its answer and its fault X, the place P where it ends without one -/
def Read (R : Nat) (a : Option Addr) (n cp : Nat) (bs : List Int) (X : Int) (P : Nat) (Q : Value → World → Prop) (w : World) (e : Ending) (w' : World) : Prop :=
  ∃ V p', e = .returned (.tuple #[V, .int .i64 X]) ∧ Rd w' R a n cp bs p' 0 ∧ (X = 0 → p' = P) ∧ Q V w' ∧ w.grownBy w' (some R)


theorem thing_int {w : World} {R : Nat} {a : Option Addr} {n cp : Nat} {bs : List Int} {pl : Nat} {err X : Int} {P : Nat} {Q : Value → World → Prop} (caps : Array Value) (h : Rd w R a n cp bs pl err)
    (hc : err = 0 → Calls Tryz.prog 136 caps w (Read R a n cp bs X P Q w)) :
    Calls Tryz.prog 134 #[.pointer (some ⟨R, 0, none⟩), .func (.func 136) #[] caps] w fun e w' => ∃ V, e = .returned (thingV err X V (.int .i64 0)) ∧ (err = 0 → X = 0 → Q V w') ∧ Rd w' R a n cp bs (thingS err X pl P).pl (thingS err X pl P).err ∧ w.grownBy w' (some R) := by
  have c1 := h.c1
  have c2 := h.c2
  have H := hide h
  have HC := hide hc
  clear h hc
  by_cases h0 : err = 0
  · subst h0
    have C := hide (HC.out rfl)
    clear HC
    go_enter Tryz.func134, Tryz.ntmps134
    go_wp2_with fail
    refine C.out.mono ?_
    rintro e w1 ⟨V, p', rfl, hr, hp, hq, hg⟩
    have H1 := hide hr
    have P1 := hide hp
    have Q1 := hide hq
    have G1 := hide hg
    clear hr hp hq hg
    by_cases hX : X = 0
    · subst hX
      have E1 := hide (P1.out rfl)
      clear P1
      go_wp2_with fail
      go_ret
      rw [thingS_ok]
      refine ⟨V, rfl, by first | exact Q1.out | exact fun _ _ => Q1.out, ?_, G1.out⟩
      rw [← E1.out]
      exact H1.out
    · have hX1 : (X != 0) = true := by simpa using hX
      have HV := hide (fun V Z => thingV_bad hX V Z)
      have HS := hide (thingS_bad hX pl P)
      have HX := hide hX
      have f1 := H1.out.f1
      have f2 := H1.out.f2
      have d1 := H1.out.c1
      have d2 := H1.out.c2
      have HP := hide H.out.place
      clear H P1 c1 c2
      go_wp2_with fail
      go_ret
      rw [HS.out]
      refine ⟨V, by rw [HV.out]; rfl, fun _ h => absurd h HX.out, (H1.out.moved pl HP.out).failed X, World.grownBy.trans G1.out (World.grownBy.trans (grown_setCell _ _ _ _) (grown_setCell _ _ _ _))⟩
  · have hx : (err != 0) = true := by simpa using h0
    have hx' : (err == 0) = false := by simpa using h0
    have HV := hide (fun V Z => thingV_fault h0 X V Z)
    have HS := hide (thingS_fault h0 X pl P)
    have H0 := hide h0
    go_enter Tryz.func134, Tryz.ntmps134
    go_wp2_with fail
    go_ret
    rw [HS.out]
    exact ⟨.bool true, by rw [HV.out]; rfl, fun h => absurd h H0.out, H.out, World.grownBy.refl _ _⟩


theorem thing_flag {w : World} {R : Nat} {a : Option Addr} {n cp : Nat} {bs : List Int} {pl : Nat} {err X : Int} {P : Nat} {Q : Value → World → Prop} (caps : Array Value) (h : Rd w R a n cp bs pl err)
    (hc : err = 0 → Calls Tryz.prog 139 caps w (Read R a n cp bs X P Q w)) :
    Calls Tryz.prog 138 #[.pointer (some ⟨R, 0, none⟩), .func (.func 139) #[] caps] w fun e w' => ∃ V, e = .returned (thingV err X V (.bool false)) ∧ (err = 0 → X = 0 → Q V w') ∧ Rd w' R a n cp bs (thingS err X pl P).pl (thingS err X pl P).err ∧ w.grownBy w' (some R) := by
  have c1 := h.c1
  have c2 := h.c2
  have H := hide h
  have HC := hide hc
  clear h hc
  by_cases h0 : err = 0
  · subst h0
    have C := hide (HC.out rfl)
    clear HC
    go_enter Tryz.func138, Tryz.ntmps138
    go_wp2_with fail
    refine C.out.mono ?_
    rintro e w1 ⟨V, p', rfl, hr, hp, hq, hg⟩
    have H1 := hide hr
    have P1 := hide hp
    have Q1 := hide hq
    have G1 := hide hg
    clear hr hp hq hg
    by_cases hX : X = 0
    · subst hX
      have E1 := hide (P1.out rfl)
      clear P1
      go_wp2_with fail
      go_ret
      rw [thingS_ok]
      refine ⟨V, rfl, by first | exact Q1.out | exact fun _ _ => Q1.out, ?_, G1.out⟩
      rw [← E1.out]
      exact H1.out
    · have hX1 : (X != 0) = true := by simpa using hX
      have HV := hide (fun V Z => thingV_bad hX V Z)
      have HS := hide (thingS_bad hX pl P)
      have HX := hide hX
      have f1 := H1.out.f1
      have f2 := H1.out.f2
      have d1 := H1.out.c1
      have d2 := H1.out.c2
      have HP := hide H.out.place
      clear H P1 c1 c2
      go_wp2_with fail
      go_ret
      rw [HS.out]
      refine ⟨V, by rw [HV.out]; rfl, fun _ h => absurd h HX.out, (H1.out.moved pl HP.out).failed X, World.grownBy.trans G1.out (World.grownBy.trans (grown_setCell _ _ _ _) (grown_setCell _ _ _ _))⟩
  · have hx : (err != 0) = true := by simpa using h0
    have hx' : (err == 0) = false := by simpa using h0
    have HV := hide (fun V Z => thingV_fault h0 X V Z)
    have HS := hide (thingS_fault h0 X pl P)
    have H0 := hide h0
    go_enter Tryz.func138, Tryz.ntmps138
    go_wp2_with fail
    go_ret
    rw [HS.out]
    exact ⟨.bool true, by rw [HV.out]; rfl, fun h => absurd h H0.out, H.out, World.grownBy.refl _ _⟩

theorem thing_text {w : World} {R : Nat} {a : Option Addr} {n cp : Nat} {bs : List Int} {pl : Nat} {err X : Int} {P : Nat} {Q : Value → World → Prop} (caps : Array Value) (h : Rd w R a n cp bs pl err)
    (hc : err = 0 → Calls Tryz.prog 132 caps w (Read R a n cp bs X P Q w)) :
    Calls Tryz.prog 131 #[.pointer (some ⟨R, 0, none⟩), .func (.func 132) #[] caps] w fun e w' => ∃ V, e = .returned (thingV err X V (.slice none 0 0)) ∧ (err = 0 → X = 0 → Q V w') ∧ Rd w' R a n cp bs (thingS err X pl P).pl (thingS err X pl P).err ∧ w.grownBy w' (some R) := by
  have c1 := h.c1
  have c2 := h.c2
  have H := hide h
  have HC := hide hc
  clear h hc
  by_cases h0 : err = 0
  · subst h0
    have C := hide (HC.out rfl)
    clear HC
    go_enter Tryz.func131, Tryz.ntmps131
    go_wp2_with fail
    refine C.out.mono ?_
    rintro e w1 ⟨V, p', rfl, hr, hp, hq, hg⟩
    have H1 := hide hr
    have P1 := hide hp
    have Q1 := hide hq
    have G1 := hide hg
    clear hr hp hq hg
    by_cases hX : X = 0
    · subst hX
      have E1 := hide (P1.out rfl)
      clear P1
      go_wp2_with fail
      go_ret
      rw [thingS_ok]
      refine ⟨V, rfl, by first | exact Q1.out | exact fun _ _ => Q1.out, ?_, G1.out⟩
      rw [← E1.out]
      exact H1.out
    · have hX1 : (X != 0) = true := by simpa using hX
      have HV := hide (fun V Z => thingV_bad hX V Z)
      have HS := hide (thingS_bad hX pl P)
      have HX := hide hX
      have f1 := H1.out.f1
      have f2 := H1.out.f2
      have d1 := H1.out.c1
      have d2 := H1.out.c2
      have HP := hide H.out.place
      clear H P1 c1 c2
      go_wp2_with fail
      go_ret
      rw [HS.out]
      refine ⟨V, by rw [HV.out]; rfl, fun _ h => absurd h HX.out, (H1.out.moved pl HP.out).failed X, World.grownBy.trans G1.out (World.grownBy.trans (grown_setCell _ _ _ _) (grown_setCell _ _ _ _))⟩
  · have hx : (err != 0) = true := by simpa using h0
    have hx' : (err == 0) = false := by simpa using h0
    have HV := hide (fun V Z => thingV_fault h0 X V Z)
    have HS := hide (thingS_fault h0 X pl P)
    have H0 := hide h0
    go_enter Tryz.func131, Tryz.ntmps131
    go_wp2_with fail
    go_ret
    rw [HS.out]
    exact ⟨.bool true, by rw [HV.out]; rfl, fun h => absurd h H0.out, H.out, World.grownBy.refl _ _⟩

theorem thing_count {w : World} {R : Nat} {a : Option Addr} {n cp : Nat} {bs : List Int} {pl : Nat} {err X : Int} {P : Nat} {Q : Value → World → Prop} (caps : Array Value) (h : Rd w R a n cp bs pl err)
    (hc : err = 0 → Calls Tryz.prog 135 caps w (Read R a n cp bs X P Q w)) :
    Calls Tryz.prog 134 #[.pointer (some ⟨R, 0, none⟩), .func (.func 135) #[] caps] w fun e w' => ∃ V, e = .returned (thingV err X V (.int .i64 0)) ∧ (err = 0 → X = 0 → Q V w') ∧ Rd w' R a n cp bs (thingS err X pl P).pl (thingS err X pl P).err ∧ w.grownBy w' (some R) := by
  have c1 := h.c1
  have c2 := h.c2
  have H := hide h
  have HC := hide hc
  clear h hc
  by_cases h0 : err = 0
  · subst h0
    have C := hide (HC.out rfl)
    clear HC
    go_enter Tryz.func134, Tryz.ntmps134
    go_wp2_with fail
    refine C.out.mono ?_
    rintro e w1 ⟨V, p', rfl, hr, hp, hq, hg⟩
    have H1 := hide hr
    have P1 := hide hp
    have Q1 := hide hq
    have G1 := hide hg
    clear hr hp hq hg
    by_cases hX : X = 0
    · subst hX
      have E1 := hide (P1.out rfl)
      clear P1
      go_wp2_with fail
      go_ret
      rw [thingS_ok]
      refine ⟨V, rfl, by first | exact Q1.out | exact fun _ _ => Q1.out, ?_, G1.out⟩
      rw [← E1.out]
      exact H1.out
    · have hX1 : (X != 0) = true := by simpa using hX
      have HV := hide (fun V Z => thingV_bad hX V Z)
      have HS := hide (thingS_bad hX pl P)
      have HX := hide hX
      have f1 := H1.out.f1
      have f2 := H1.out.f2
      have d1 := H1.out.c1
      have d2 := H1.out.c2
      have HP := hide H.out.place
      clear H P1 c1 c2
      go_wp2_with fail
      go_ret
      rw [HS.out]
      refine ⟨V, by rw [HV.out]; rfl, fun _ h => absurd h HX.out, (H1.out.moved pl HP.out).failed X, World.grownBy.trans G1.out (World.grownBy.trans (grown_setCell _ _ _ _) (grown_setCell _ _ _ _))⟩
  · have hx : (err != 0) = true := by simpa using h0
    have hx' : (err == 0) = false := by simpa using h0
    have HV := hide (fun V Z => thingV_fault h0 X V Z)
    have HS := hide (thingS_fault h0 X pl P)
    have H0 := hide h0
    go_enter Tryz.func134, Tryz.ntmps134
    go_wp2_with fail
    go_ret
    rw [HS.out]
    exact ⟨.bool true, by rw [HV.out]; rfl, fun h => absurd h H0.out, H.out, World.grownBy.refl _ _⟩
end Go.Proofs.YthklpkmdmkgjiaaGreat

namespace Go.Proofs.YthklpkmdmkgjiaaGreat
open Go.ChangeShapes Go.WideShapes Go.ChangeAt Go.RowKit B8 Cm
set_option linter.unusedVariables false

theorem rd_alloc {w : World} {R : Nat} {a : Option Addr} {n cp : Nat} {bs : List Int} {pl : Nat} {err : Int} (h : Rd w R a n cp bs pl err) (o : Obj) : Rd (w.alloc o) R a n cp bs pl err :=
  h.grown (grown_below (Below.alloc (Below.refl _ _) (Nat.le_refl _) o) none) (by simp) (by simp)
theorem grown_alloc {w w' : World} {o : Obj} {row : Option Nat} (h : (w.alloc o).grownBy w' row) : w.grownBy w' row :=
  World.grownBy.trans (grown_below (Below.alloc (Below.refl _ _) (Nat.le_refl _) o) row) h
theorem ends {X Y : Prop} (h : X ∧ Y) : Y ∧ X := ⟨h.2, h.1⟩

/-- what Flag's reading answers -/
def flagR (bs : List Int) (pl : Nat) : Bool × Int := if 1 < (nextA bs pl).1 then (false, 21) else (decide ((nextA bs pl).1 = 1), (nextA bs pl).2.1)
theorem num_end (bs : List Int) (pl : Nat) (err : Int) (V : Value) (hq : err = 0 → (numG (bs.drop pl) 0 0).e = 0 → V = .int .u64 ((numG (bs.drop pl) 0 0).v : Nat)) :
    thingV err (numG (bs.drop pl) 0 0).e V (.int .u64 0) = .int .u64 ((numA bs ⟨pl, err⟩).v : Nat) ∧ thingS err (numG (bs.drop pl) 0 0).e pl (pl + (numG (bs.drop pl) 0 0).used) = (numA bs ⟨pl, err⟩).s := by
  by_cases h0 : err = 0
  · subst h0
    by_cases h1 : (numG (bs.drop pl) 0 0).e = 0
    · rw [numA_good _ _ rfl h1, hq rfl h1]
      unfold thingV thingS
      rw [if_pos rfl, if_pos h1, if_pos rfl, if_pos h1]
      exact ⟨rfl, rfl⟩
    · rw [numA_bad _ _ rfl h1, thingV_bad h1, thingS_bad h1]; exact ⟨rfl, rfl⟩
  · rw [numA_fault _ _ h0, thingV_fault h0, thingS_fault h0]; exact ⟨rfl, rfl⟩
theorem int_end (bs : List Int) (pl : Nat) (err : Int) (V : Value) (hq : err = 0 → (numG (bs.drop pl) 0 0).e = 0 → V = .int .i64 (zag (numG (bs.drop pl) 0 0).v)) :
    thingV err (numG (bs.drop pl) 0 0).e V (.int .i64 0) = .int .i64 (intA bs ⟨pl, err⟩).v ∧ thingS err (numG (bs.drop pl) 0 0).e pl (pl + (numG (bs.drop pl) 0 0).used) = (intA bs ⟨pl, err⟩).s := by
  unfold intA
  by_cases h0 : err = 0
  · subst h0
    by_cases h1 : (numG (bs.drop pl) 0 0).e = 0
    · rw [numA_good _ _ rfl h1, hq rfl h1]
      unfold thingV thingS
      rw [if_pos rfl, if_pos h1, if_pos rfl, if_pos h1]
      exact ⟨rfl, rfl⟩
    · rw [numA_bad _ _ rfl h1, thingV_bad h1, thingS_bad h1]; exact ⟨congrArg (Value.int .i64) (show (0 : Int) = zag 0 from by decide), rfl⟩
  · rw [numA_fault _ _ h0, thingV_fault h0, thingS_fault h0]; exact ⟨congrArg (Value.int .i64) (show (0 : Int) = zag 0 from by decide), rfl⟩
theorem flag_end (bs : List Int) (pl : Nat) (err : Int) (V : Value) (hq : err = 0 → (flagR bs pl).2 = 0 → V = .bool (flagR bs pl).1) :
    thingV err (flagR bs pl).2 V (.bool false) = .bool (flagA bs ⟨pl, err⟩).v ∧ thingS err (flagR bs pl).2 pl (nextA bs pl).2.2 = (flagA bs ⟨pl, err⟩).s := by
  by_cases h0 : err = 0
  · subst h0
    by_cases h1 : pl < bs.length
    · have e : nextA bs pl = (bs[pl]?.getD 0, 0, pl + 1) := if_pos h1
      have eb := byteA_good bs ⟨pl, 0⟩ rfl h1
      by_cases h2 : 1 < bs[pl]?.getD 0
      · have ef : flagR bs pl = (false, 21) := by unfold flagR; rw [e, if_pos h2]
        rw [ef, e, flagA_bad _ _ (by rw [eb]; exact h2), thingV_bad (by decide), thingS_bad (by decide)]
        exact ⟨rfl, rfl⟩
      · have ef : flagR bs pl = (decide (bs[pl]?.getD 0 = 1), 0) := by unfold flagR; rw [e, if_neg h2]
        rw [ef] at hq
        rw [ef, e, flagA_good _ _ (by rw [eb]; exact h2), hq rfl rfl, thingV_ok, thingS_ok, eb]
        exact ⟨rfl, rfl⟩
    · have e : nextA bs pl = (0, 20, pl) := if_neg h1
      have eb := byteA_short bs ⟨pl, 0⟩ rfl h1
      have ef : flagR bs pl = (false, 20) := by unfold flagR; rw [e, if_neg (show ¬ (1 : Int) < 0 by decide)]; rfl
      rw [ef, e, flagA_good _ _ (by rw [eb]; show ¬ (1 : Int) < 0; decide), thingV_bad (by decide), thingS_bad (by decide), eb]
      exact ⟨rfl, rfl⟩
  · have eb := byteA_fault bs ⟨pl, err⟩ h0
    rw [flagA_good _ _ (by rw [eb]; show ¬ (1 : Int) < 0; decide), thingV_fault h0, thingS_fault h0, eb]; exact ⟨rfl, rfl⟩
theorem count_end (bs : List Int) (most : Int) (pl : Nat) (err : Int) (V : Value) (hq : err = 0 → (upR (numG (bs.drop pl) 0 0) most).2 = 0 → V = .int .i64 (upR (numG (bs.drop pl) 0 0) most).1) :
    thingV err (upR (numG (bs.drop pl) 0 0) most).2 V (.int .i64 0) = .int .i64 ((countA bs most ⟨pl, err⟩).v : Nat) ∧ thingS err (upR (numG (bs.drop pl) 0 0) most).2 pl (pl + (numG (bs.drop pl) 0 0).used) = (countA bs most ⟨pl, err⟩).s := by
  by_cases h0 : err = 0
  · subst h0
    by_cases h1 : (numG (bs.drop pl) 0 0).e = 0
    · have en := numA_good bs ⟨pl, 0⟩ rfl h1
      by_cases h2 : max 0 most < ((numG (bs.drop pl) 0 0).v : Int)
      · have eu : upR (numG (bs.drop pl) 0 0) most = (0, 22) := by unfold upR; rw [if_pos h1, if_pos h2]
        rw [eu, countA_long _ _ _ (by rw [en]; exact h2), thingV_bad (by decide), thingS_bad (by decide)]
        exact ⟨rfl, rfl⟩
      · have eu : upR (numG (bs.drop pl) 0 0) most = (((numG (bs.drop pl) 0 0).v : Int), 0) := by unfold upR; rw [if_pos h1, if_neg h2]
        rw [eu] at hq
        rw [eu, countA_good _ _ _ (by rw [en]; exact h2), hq rfl rfl, thingV_ok, thingS_ok, en]
        exact ⟨rfl, rfl⟩
    · have en := numA_bad bs ⟨pl, 0⟩ rfl h1
      have eu : upR (numG (bs.drop pl) 0 0) most = (0, (numG (bs.drop pl) 0 0).e) := by unfold upR; rw [if_neg h1]
      rw [eu, countA_good _ _ _ (by rw [en]; show ¬ _ < ((0 : Nat) : Int); omega), thingV_bad h1, thingS_bad h1, en]
      exact ⟨rfl, rfl⟩
  · have en := numA_fault bs ⟨pl, err⟩ h0
    rw [countA_good _ _ _ (by rw [en]; show ¬ _ < ((0 : Nat) : Int); omega), thingV_fault h0, thingS_fault h0, en]; exact ⟨rfl, rfl⟩
theorem xor_ones (x : Int) (h0 : 0 ≤ x) (h1 : x < 9223372036854775808) : bits .xor .i64 x (-1) = -x - 1 := by
  show IntKind.i64.wrap ((BitVec.ofInt 64 x ^^^ BitVec.ofInt 64 (-1)).toNat : Int) = _
  have e1 : BitVec.ofInt 64 (-1) = BitVec.allOnes 64 := by decide
  rw [e1, BitVec.xor_allOnes, BitVec.toNat_not, BitVec.toNat_ofInt, IntKind.wrap_i64]
  omega
theorem xor_zero64 (x : Int) (h0 : 0 ≤ x) (h1 : x < 9223372036854775808) : bits .xor .i64 x 0 = x := by
  show IntKind.i64.wrap ((BitVec.ofInt 64 x ^^^ BitVec.ofInt 64 0).toNat : Int) = _
  have e1 : BitVec.ofInt 64 0 = 0#64 := by decide
  rw [e1, BitVec.xor_zero, BitVec.toNat_ofInt, IntKind.wrap_i64]
  omega
theorem zag_form (v : Nat) (hv : v < 18446744073709551616) : bits .xor .i64 ((v : Int) / 2) (wrap64 (-wrap64 (bits .and .u64 (v : Int) 1))) = zag v := by
  rw [u64_and _ 1 (by omega) (by omega) (by omega) (by omega), Int.toNat_natCast, show (1 : Int).toNat = 1 from rfl, nat_mask1]
  unfold zag
  by_cases h : v % 2 = 1
  · rw [h, if_pos rfl, show wrap64 (-wrap64 ((1 : Nat) : Int)) = -1 from by unfold wrap64; omega, xor_ones _ (by omega) (by omega)]
    omega
  · rw [show v % 2 = 0 by omega, if_neg (by decide), show wrap64 (-wrap64 ((0 : Nat) : Int)) = 0 from by unfold wrap64; omega, xor_zero64 _ (by omega) (by omega)]
    omega

theorem clos_int {w : World} {R C : Nat} {a : Option Addr} {n cp : Nat} {bs : List Int} {pl : Nat} (h : Rd w R a n cp bs pl 0) (hC : w.cell? ⟨C, 0, none⟩ = some (.pointer (some ⟨R, 0, none⟩))) :
    Calls Tryz.prog 136 #[.pointer (some ⟨C, 0, none⟩)] w (Read R a n cp bs (numG (bs.drop pl) 0 0).e (pl + (numG (bs.drop pl) 0 0).used) (fun V _ => V = .int .i64 (zag (numG (bs.drop pl) 0 0).v)) w) := by
  have CN := cnumber_any h
  have hlt := numG_lt (bs.drop pl) 0 0 (by omega) (by simp) (fun x hx => bs_bd h.sq.wf x (List.mem_of_mem_drop hx))
  obtain ⟨G, eG⟩ : ∃ G, G = numG (bs.drop pl) 0 0 := ⟨_, rfl⟩
  rw [← eG] at CN hlt ⊢
  clear h eG
  obtain ⟨v, u, x⟩ := G
  have hv : v < 18446744073709551616 := hlt
  have CN := hide CN
  clear hlt
  have HZ := hide (zag_form v hv)
  go_enter Tryz.func136, Tryz.ntmps136
  go_wp2_with fail
  refine CN.out.mono ?_
  rintro e w1 ⟨rfl, p', hr, hp, hg⟩
  go_wp2_with fail
  go_ret2
  exact ⟨_, p', rfl, hr, hp, congrArg (Value.int .i64) HZ.out, hg⟩
theorem clos_flag {w : World} {R C : Nat} {a : Option Addr} {n cp : Nat} {bs : List Int} {pl : Nat} (h : Rd w R a n cp bs pl 0) (hC : w.cell? ⟨C, 0, none⟩ = some (.pointer (some ⟨R, 0, none⟩))) :
    Calls Tryz.prog 139 #[.pointer (some ⟨C, 0, none⟩)] w (Read R a n cp bs (flagR bs pl).2 (nextA bs pl).2.2 (fun V _ => V = .bool (flagR bs pl).1) w) := by
  have CN := cnext_any h
  unfold flagR
  obtain ⟨A, eA⟩ : ∃ A, A = nextA bs pl := ⟨_, rfl⟩
  rw [← eA] at CN ⊢
  clear h eA
  obtain ⟨c, x, p⟩ := A
  have CN := hide CN
  by_cases h1 : 1 < c
  · have q1 : decide (1 < c) = true := by simpa using h1
    have HV : Hid ((if 1 < c then (false, (21 : Int)) else (decide (c = 1), x)) = (false, 21)) := if_pos h1
    go_enter Tryz.func139, Tryz.ntmps139
    go_wp2_with fail
    refine CN.out.mono ?_
    rintro e w1 ⟨rfl, hr, hg⟩
    go_wp2_with fail
    go_ret2
    exact ⟨_, _, rfl, hr, fun h => absurd h (by decide), rfl, hg⟩
  · have q1 : decide (1 < c) = false := by simpa using h1
    have HV : Hid ((if 1 < c then (false, (21 : Int)) else (decide (c = 1), x)) = (decide (c = 1), x)) := if_neg h1
    go_enter Tryz.func139, Tryz.ntmps139
    go_wp2_with fail
    refine CN.out.mono ?_
    rintro e w1 ⟨rfl, hr, hg⟩
    go_wp2_with fail
    go_ret2
    exact ⟨_, _, rfl, hr, fun _ => rfl, congrArg Value.bool (by rw [Bool.eq_iff_iff]; simp), hg⟩
theorem clos_count {w : World} {R C D : Nat} {a : Option Addr} {n cp : Nat} {bs : List Int} {pl : Nat} (most : Int) (h9 : most < 9223372036854775808) (h : Rd w R a n cp bs pl 0) (hC : w.cell? ⟨C, 0, none⟩ = some (.pointer (some ⟨R, 0, none⟩))) (hD : w.cell? ⟨D, 0, none⟩ = some (.int .i64 most)) :
    Calls Tryz.prog 135 #[.pointer (some ⟨C, 0, none⟩), .pointer (some ⟨D, 0, none⟩)] w (Read R a n cp bs (upR (numG (bs.drop pl) 0 0) most).2 (pl + (numG (bs.drop pl) 0 0).used) (fun V _ => V = .int .i64 (upR (numG (bs.drop pl) 0 0) most).1) w) := by
  have CN := hide (cupto_any most h9 h)
  clear h
  go_enter Tryz.func135, Tryz.ntmps135
  go_wp2_with fail
  refine CN.out.mono ?_
  rintro e w1 ⟨rfl, p', hr, hp, hg⟩
  go_wp2_with fail
  go_ret2
  exact ⟨_, p', rfl, hr, hp, rfl, hg⟩
theorem cint_any {w : World} {R : Nat} {a : Option Addr} {n cp : Nat} {bs : List Int} {s : St} (h : Rd w R a n cp bs s.pl s.err) :
    Calls Tryz.prog 129 #[.pointer (some ⟨R, 0, none⟩)] w fun e w' => e = .returned (.int .i64 (intA bs s).v) ∧ Rd w' R a n cp bs (intA bs s).s.pl (intA bs s).s.err ∧ w.grownBy w' (some R) := by
  obtain ⟨pl, err⟩ := s
  have HR := hide (rd_alloc h (.cells #[.pointer (some ⟨R, 0, none⟩)] 132))
  clear h
  have C := hide (thing_int (X := (numG (bs.drop pl) 0 0).e) (P := pl + (numG (bs.drop pl) 0 0).used) (Q := fun V _ => V = .int .i64 (zag (numG (bs.drop pl) 0 0).v)) #[.pointer (some ⟨w.heap.size, 0, none⟩)] HR.out (fun (h0 : err = 0) => clos_int (by have := HR.out; rw [← h0]; exact this) (by simp)))
  go_enter Tryz.func129, Tryz.ntmps129
  go_wp2_with fail
  refine C.out.mono ?_
  rintro e w1 ⟨V, rfl, hq, hr, hg⟩
  have E := hide (int_end bs pl err V hq)
  clear hq
  go_wp2_with fail
  go_ret
  rw [← E.out.2]
  exact ⟨congrArg Ending.returned E.out.1, hr, grown_alloc hg⟩
theorem cflag_any {w : World} {R : Nat} {a : Option Addr} {n cp : Nat} {bs : List Int} {s : St} (h : Rd w R a n cp bs s.pl s.err) :
    Calls Tryz.prog 130 #[.pointer (some ⟨R, 0, none⟩)] w fun e w' => e = .returned (.bool (flagA bs s).v) ∧ Rd w' R a n cp bs (flagA bs s).s.pl (flagA bs s).s.err ∧ w.grownBy w' (some R) := by
  obtain ⟨pl, err⟩ := s
  have HR := hide (rd_alloc h (.cells #[.pointer (some ⟨R, 0, none⟩)] 132))
  clear h
  have C := hide (thing_flag (X := (flagR bs pl).2) (P := (nextA bs pl).2.2) (Q := fun V _ => V = .bool (flagR bs pl).1) #[.pointer (some ⟨w.heap.size, 0, none⟩)] HR.out (fun (h0 : err = 0) => clos_flag (by have := HR.out; rw [← h0]; exact this) (by simp)))
  go_enter Tryz.func130, Tryz.ntmps130
  go_wp2_with fail
  refine C.out.mono ?_
  rintro e w1 ⟨V, rfl, hq, hr, hg⟩
  have E := hide (flag_end bs pl err V hq)
  clear hq
  go_wp2_with fail
  go_ret
  rw [← E.out.2]
  exact ⟨congrArg Ending.returned E.out.1, hr, grown_alloc hg⟩
theorem ccount_any {w : World} {R : Nat} {a : Option Addr} {n cp : Nat} {bs : List Int} {s : St} (most : Int) (h9 : most < 9223372036854775808) (h : Rd w R a n cp bs s.pl s.err) :
    Calls Tryz.prog 128 #[.pointer (some ⟨R, 0, none⟩), .int .i64 most] w fun e w' => e = .returned (.int .i64 ((countA bs most s).v : Nat)) ∧ Rd w' R a n cp bs (countA bs most s).s.pl (countA bs most s).s.err ∧ w.grownBy w' (some R) := by
  obtain ⟨pl, err⟩ := s
  have HR := hide (rd_alloc (rd_alloc h (.cells #[.pointer (some ⟨R, 0, none⟩)] 132)) (.cells #[.int .i64 most] 3))
  clear h
  have C := hide (thing_count (X := (upR (numG (bs.drop pl) 0 0) most).2) (P := pl + (numG (bs.drop pl) 0 0).used) (Q := fun V _ => V = .int .i64 (upR (numG (bs.drop pl) 0 0) most).1) #[.pointer (some ⟨w.heap.size, 0, none⟩), .pointer (some ⟨w.heap.size + 1, 0, none⟩)] HR.out (fun (h0 : err = 0) => clos_count most h9 (by have := HR.out; rw [← h0]; exact this) (by simp) (by simp)))
  go_enter Tryz.func128, Tryz.ntmps128
  go_wp2_with fail
  refine C.out.mono ?_
  rintro e w1 ⟨V, rfl, hq, hr, hg⟩
  have E := hide (count_end bs most pl err V hq)
  clear hq
  go_wp2_with fail
  go_ret
  rw [← E.out.2]
  exact ⟨congrArg Ending.returned E.out.1, hr, grown_alloc (grown_alloc hg)⟩
end Go.Proofs.YthklpkmdmkgjiaaGreat

namespace Go.Proofs.YthklpkmdmkgjiaaGreat
open Go.ChangeShapes Go.WideShapes Go.ChangeAt Go.RowKit B8 Cm
set_option linter.unusedVariables false

/-- what Text's reading answers: the bytes, the fault, the place behind them -/
def textR (bs : List Int) (most : Int) (pl : Nat) : List Int × Int × Nat :=
  if (upR (numG (bs.drop pl) 0 0) most).2 = 0 then
    (if bs.length - (pl + (numG (bs.drop pl) 0 0).used) < (upR (numG (bs.drop pl) 0 0) most).1.toNat then ([], 20, pl)
     else ((bs.drop (pl + (numG (bs.drop pl) 0 0).used)).take (upR (numG (bs.drop pl) 0 0) most).1.toNat, 0, pl + (numG (bs.drop pl) 0 0).used + (upR (numG (bs.drop pl) 0 0) most).1.toNat))
  else ([], (upR (numG (bs.drop pl) 0 0) most).2, pl)

theorem upR_nonneg (G : NumR) (most : Int) : 0 ≤ (upR G most).1 := by
  unfold upR
  split
  · split
    · exact Int.le_refl _
    · exact Int.natCast_nonneg _
  · exact Int.le_refl _

theorem upR_used (r : List Int) (most : Int) (h : (upR (numG r 0 0) most).2 = 0) : 0 < (numG r 0 0).used := by
  by_cases h1 : (numG r 0 0).e = 0
  · exact (numG_used r 0 0 h1).1
  · have e : upR (numG r 0 0) most = (0, (numG r 0 0).e) := if_neg h1
    rw [e] at h
    exact absurd h h1

/-- the bytes that were handed out lie in new memory -/
def Handed (B : Nat) (bs : List Int) (V : Value) (w : World) : Prop := ∃ a cp, V = .slice a bs.length cp ∧ Mine w B a bs.length cp bs

theorem clos_text {w : World} {R C D : Nat} {a : Option Addr} {n cp : Nat} {bs : List Int} {pl : Nat} (most : Int) (h9 : most < 9223372036854775808) (h : Rd w R a n cp bs pl 0)
    (hC : w.cell? ⟨C, 0, none⟩ = some (.pointer (some ⟨R, 0, none⟩))) (hD : w.cell? ⟨D, 0, none⟩ = some (.int .i64 most)) (hCR : C ≠ R) (hDR : D ≠ R) :
    Calls Tryz.prog 132 #[.pointer (some ⟨C, 0, none⟩), .pointer (some ⟨D, 0, none⟩)] w (Read R a n cp bs (textR bs most pl).2.1 (textR bs most pl).2.2 (Handed w.heap.size (textR bs most pl).1) w) := by
  have CU := cupto_any most h9 h
  have HL : Hid (bs.length = n) := h.sq.length
  have h0 := upR_nonneg (numG (bs.drop pl) 0 0) most
  have hu := upR_used (bs.drop pl) most
  unfold textR
  obtain ⟨u, eu⟩ : ∃ u, u = (numG (bs.drop pl) 0 0).used := ⟨_, rfl⟩
  obtain ⟨U, eU⟩ : ∃ U, U = upR (numG (bs.drop pl) 0 0) most := ⟨_, rfl⟩
  rw [← eu, ← eU] at CU hu ⊢
  rw [← eU] at h0
  clear h eu eU
  obtain ⟨c', x⟩ := U
  obtain ⟨c, rfl⟩ := Int.eq_ofNat_of_zero_le h0
  have CU := hide CU
  clear h0
  simp only [Int.toNat_natCast]
  by_cases hx : x = 0
  · subst hx
    by_cases h1 : n - (pl + u) < c
    · have HV : Hid ((if (0 : Int) = 0 then (if bs.length - (pl + u) < c then (([] : List Int), (20 : Int), pl) else ((bs.drop (pl + u)).take c, 0, pl + u + c)) else ([], 0, pl)) = ([], 20, pl)) := by
        show _ = _
        rw [if_pos rfl, HL.out, if_pos h1]
      rw [HV.out]
      go_enter Tryz.func132, Tryz.ntmps132
      go_wp2_with fail
      refine CU.out.mono ?_
      rintro e w1 ⟨rfl, p1, hr, hp, hg⟩
      obtain rfl : p1 = pl + u := hp (by trivial)
      have dC := hg.cell hC (by simpa using hCR)
      have H1 := hide hr
      have G1 := hide hg
      clear hr hg hp
      have i1 : decide (((n - (pl + u) : Nat) : Int) < (c : Int)) = true := by simp; omega
      have i2 : ((n - (pl + u) : Nat) : Int) < (c : Int) := by omega
      go_wp2_with fail
      refine (cleft_any H1.out).mono ?_
      rintro e w2 ⟨rfl, m, rfl⟩
      go_wp2_with fail
      go_ret2
      exact ⟨_, _, rfl, H1.out.drewN m, fun h => absurd h (by decide), ⟨none, 0, rfl, ⟨rfl, Nat.le_refl _, fun _ => rfl, fun h => absurd h (by simp), wfs_nil⟩, fun ad h => absurd h (by simp)⟩, World.grownBy.trans G1.out (grown_drewN _ _ _)⟩
    · have HV : Hid ((if (0 : Int) = 0 then (if bs.length - (pl + u) < c then (([] : List Int), (20 : Int), pl) else ((bs.drop (pl + u)).take c, 0, pl + u + c)) else ([], 0, pl)) = ((bs.drop (pl + u)).take c, 0, pl + u + c)) := by
        show _ = _
        rw [if_pos rfl, HL.out, if_neg h1]
      rw [HV.out]
      go_enter Tryz.func132, Tryz.ntmps132
      go_wp2_with fail
      refine CU.out.mono ?_
      rintro e w1 ⟨rfl, p1, hr, hp, hg⟩
      obtain rfl : p1 = pl + u := hp (by trivial)
      have dC := hg.cell hC (by simpa using hCR)
      have H1 := hide hr
      have G1 := hide hg
      clear hr hg hp
      have i1 : decide (((n - (pl + u) : Nat) : Int) < (c : Int)) = false := by simp; omega
      have i2 : (c : Int) ≤ ((n - (pl + u) : Nat) : Int) := by omega
      go_wp2_with fail
      refine (cleft_any H1.out).mono ?_
      rintro e w2 ⟨rfl, m, ew⟩
      have hu0 : 0 < u := hu (by trivial)
      have H2 := hide (H1.out.drewN m)
      have G2 := hide (World.grownBy.trans G1.out (grown_drewN w1 m (some R)))
      have eC : w2.cell? ⟨C, 0, none⟩ = some (.pointer (some ⟨R, 0, none⟩)) := by rw [ew]; exact dC
      rw [← ew] at H2 G2
      clear ew H1 G1 dC hu CU
      obtain ⟨p1, ep⟩ : ∃ p1, p1 = pl + u := ⟨_, rfl⟩
      rw [← ep] at H2 i1 i2 h1 HV ⊢
      have hp1 := H2.out.place
      have hro := H2.out.room
      have hlc := H2.out.sq.lecap
      obtain ⟨b, off, ea, _⟩ := H2.out.sq.cells (by omega)
      subst ea
      have EP := hide ep
      have p0 : 0 < p1 := by omega
      clear ep
      have d0 := H2.out.c0
      have d1 := H2.out.c1
      have f1 := H2.out.f1
      have hb : b ≠ R := H2.out.apart b off rfl
      go_wp2_with fail
      have H3 := hide (H2.out.moved (p1 + c) (by omega))
      have G3 := hide (World.grownBy.trans G2.out (grown_setCell w2 R 1 (.int .i64 ((p1 + c : Nat) : Int))))
      have eC3 : (w2.setCell ⟨R, 1, none⟩ (.int .i64 ((p1 + c : Nat) : Int))).cell? ⟨C, 0, none⟩ = some (.pointer (some ⟨R, 0, none⟩)) := (grown_setCell w2 R 1 (.int .i64 ((p1 + c : Nat) : Int))).cell eC (by simpa using hCR)
      rw [show ((p1 : Int) + (c : Int)) = ((p1 + c : Nat) : Int) by omega] at *
      obtain ⟨w3, e3⟩ : ∃ w3, w3 = w2.setCell ⟨R, 1, none⟩ (.int .i64 ((p1 + c : Nat) : Int)) := ⟨_, rfl⟩
      rw [← e3] at H3 G3 eC3 ⊢
      clear e3 d0 d1 f1 eC H2 G2
      obtain ⟨q, hq⟩ : ∃ q, q = p1 + c := ⟨_, rfl⟩
      rw [← hq] at H3 HV ⊢
      have HQ := hide hq
      have d0 := H3.out.c0
      have d1 := H3.out.c1
      have i3 : (0 : Int) ≤ (p1 : Int) := by omega
      have i4 : (p1 : Int) ≤ (q : Int) := by omega
      have i5 : (q : Int) ≤ (cp : Int) := by omega
      have i6 : q ≤ cp := by omega
      have i7 : p1 ≤ q := by omega
      have i10 : (0 : Int) ≤ (q : Int) := by omega
      have i9 : max (q : Int) 0 = q := by omega
      have K0 := hide d0
      have K1 := hide d1
      have KC := hide eC3
      have LR := hide (World.block_lt_of_cell? w3 _ d0)
      have LC := hide (World.block_lt_of_cell? w3 _ eC3)
      rcases (show cp ≠ p1 ∨ (cp = p1 ∧ n = p1 ∧ c = 0 ∧ q = p1) by omega) with hcp | ⟨ecp, en, ec, eq⟩
      · have q2 := ((H3.out.sq.take q (by omega)).drop p1 i7 (some ⟨b, off + p1, none⟩) (fun h => absurd h (by simp)) (fun _ => rfl))
        rw [List.drop_take, show q - p1 = c by omega] at q2
        have i11 : q - p1 = c := by omega
        clear hq
        have CC := hide (cut_sq (q2.drew 1) (by omega))
        clear q2
        go_region_held3 (fun w' => w'.cell? ⟨R, 0, none⟩ = some (.slice (some ⟨b, off, none⟩) n cp) ∧ w'.cell? ⟨R, 1, none⟩ = some (.int .i64 (q : Int)) ∧ w'.cell? ⟨C, 0, none⟩ = some (.pointer (some ⟨R, 0, none⟩))) (first | go_keep | exact ⟨(hb4.cell (p := ⟨R, 0, none⟩) LR.out).trans K0.out, (hb4.cell (p := ⟨R, 1, none⟩) LR.out).trans K1.out, (hb4.cell (p := ⟨C, 0, none⟩) LC.out).trans KC.out⟩)
          ((go_at_call 77; refine CC.out.mono ?_; rintro e w4 ⟨a4, rfl, hm4, hb4⟩))
        have M4 := hide hm4
        have B4 := hide (show Below w3.heap.size w3 w4 from ⟨hb4.os, hb4.tape, hb4.output, hb4.size, hb4.block⟩)
        clear hm4 hb4
        go_wp2_with fail
        go_ret2
        have hlen : ((bs.drop p1).take c).length = c := by have := HL.out; simp; omega
        rw [← EP.out]
        have M5 := M4.out.base (B' := w.heap.size) G3.out.size
        refine ⟨_, q, rfl, H3.out.grown (grown_below B4.out none) (by simp) (by simp), fun _ => HQ.out, ⟨a4, c, ?_, ?_⟩, World.grownBy.trans G3.out (grown_below B4.out _)⟩
        · rw [hlen]; rfl
        · rw [hlen]; exact M5
      · subst ec; subst eq; subst en; subst ecp
        have q2 := ((H3.out.sq.take cp (by omega)).drop cp i7 (some ⟨b, off, none⟩) (fun h => absurd h (by simp)) (fun h => by omega))
        rw [List.drop_take, show cp - cp = 0 by omega] at q2
        have i11 : cp - cp = 0 := by omega
        clear hq
        have CC := hide (cut_sq (q2.drew 1) (by omega))
        clear q2
        go_region_held3 (fun w' => w'.cell? ⟨R, 0, none⟩ = some (.slice (some ⟨b, off, none⟩) cp cp) ∧ w'.cell? ⟨R, 1, none⟩ = some (.int .i64 (cp : Int)) ∧ w'.cell? ⟨C, 0, none⟩ = some (.pointer (some ⟨R, 0, none⟩))) (first | go_keep | exact ⟨(hb4.cell (p := ⟨R, 0, none⟩) LR.out).trans K0.out, (hb4.cell (p := ⟨R, 1, none⟩) LR.out).trans K1.out, (hb4.cell (p := ⟨C, 0, none⟩) LC.out).trans KC.out⟩)
          ((go_at_call 77; refine CC.out.mono ?_; rintro e w4 ⟨a4, rfl, hm4, hb4⟩))
        have M4 := hide hm4
        have B4 := hide (show Below w3.heap.size w3 w4 from ⟨hb4.os, hb4.tape, hb4.output, hb4.size, hb4.block⟩)
        clear hm4 hb4
        go_wp2_with fail
        go_ret2
        have hlen : ((bs.drop cp).take 0).length = 0 := by have := HL.out; simp
        rw [← EP.out]
        have M5 := M4.out.base (B' := w.heap.size) G3.out.size
        refine ⟨_, cp, rfl, H3.out.grown (grown_below B4.out none) (by simp) (by simp), fun _ => HQ.out, ⟨a4, 0, ?_, ?_⟩, World.grownBy.trans G3.out (grown_below B4.out _)⟩
        · rw [hlen]; rfl
        · rw [hlen]; exact M5
  · have HV : Hid ((if x = 0 then (if bs.length - (pl + u) < c then (([] : List Int), (20 : Int), pl) else ((bs.drop (pl + u)).take c, 0, pl + u + c)) else ([], x, pl)) = ([], x, pl)) := if_neg hx
    rw [HV.out]
    have hx1 : (x != 0) = true := by simpa using hx
    have HX := hide hx
    go_enter Tryz.func132, Tryz.ntmps132
    go_wp2_with fail
    refine CU.out.mono ?_
    rintro e w1 ⟨rfl, p1, hr, hp, hg⟩
    have H1 := hide hr
    have G1 := hide hg
    clear hr hg hp
    go_wp2_with fail
    go_ret2
    exact ⟨_, _, rfl, H1.out, fun h => absurd h HX.out, ⟨none, 0, rfl, ⟨rfl, Nat.le_refl _, fun _ => rfl, fun h => absurd h (by simp), wfs_nil⟩, fun ad h => absurd h (by simp)⟩, G1.out⟩

theorem countA_up (bs : List Int) (most : Int) (pl : Nat) : countA bs most ⟨pl, 0⟩ = if (upR (numG (bs.drop pl) 0 0) most).2 = 0 then ⟨(upR (numG (bs.drop pl) 0 0) most).1.toNat, ⟨pl + (numG (bs.drop pl) 0 0).used, 0⟩⟩ else ⟨0, ⟨pl, (upR (numG (bs.drop pl) 0 0) most).2⟩⟩ := by
  by_cases h1 : (numG (bs.drop pl) 0 0).e = 0
  · have en := numA_good bs ⟨pl, 0⟩ rfl h1
    by_cases h2 : max 0 most < ((numG (bs.drop pl) 0 0).v : Int)
    · have eu : upR (numG (bs.drop pl) 0 0) most = (0, 22) := by unfold upR; rw [if_pos h1, if_pos h2]
      rw [eu, countA_long _ _ _ (by rw [en]; exact h2), if_neg (show ¬ (22 : Int) = 0 by decide)]
    · have eu : upR (numG (bs.drop pl) 0 0) most = (((numG (bs.drop pl) 0 0).v : Int), 0) := by unfold upR; rw [if_pos h1, if_neg h2]
      rw [eu, countA_good _ _ _ (by rw [en]; exact h2), en, if_pos rfl, Int.toNat_natCast]
  · have en := numA_bad bs ⟨pl, 0⟩ rfl h1
    have eu : upR (numG (bs.drop pl) 0 0) most = (0, (numG (bs.drop pl) 0 0).e) := by unfold upR; rw [if_neg h1]
    rw [eu, countA_good _ _ _ (by rw [en]; show ¬ _ < ((0 : Nat) : Int); omega), en, if_neg h1]

theorem text_end (bs : List Int) (most : Int) (pl : Nat) (err : Int) :
    thingS err (textR bs most pl).2.1 pl (textR bs most pl).2.2 = (textA bs most ⟨pl, err⟩).s ∧ (err = 0 → (textR bs most pl).2.1 = 0 → (textR bs most pl).1 = (textA bs most ⟨pl, err⟩).v) ∧ (¬ (err = 0 ∧ (textR bs most pl).2.1 = 0) → (textA bs most ⟨pl, err⟩).v = []) := by
  by_cases h0 : err = 0
  · subst h0
    have ec := countA_up bs most pl
    unfold textR
    by_cases h1 : (upR (numG (bs.drop pl) 0 0) most).2 = 0
    · rw [if_pos h1] at ec ⊢
      by_cases h2 : bs.length - (pl + (numG (bs.drop pl) 0 0).used) < (upR (numG (bs.drop pl) 0 0) most).1.toNat
      · rw [if_pos h2, textA_short _ _ _ (by rw [ec]) (by rw [ec]; exact h2), thingS_bad (show ¬ (20 : Int) = 0 by decide)]
        exact ⟨rfl, fun _ h => absurd h (show ¬ (20 : Int) = 0 by decide), fun _ => rfl⟩
      · rw [if_neg h2, textA_good _ _ _ (by rw [ec]) (by rw [ec]; exact h2), thingS_ok, ec]
        exact ⟨rfl, fun _ _ => rfl, fun h => absurd ⟨rfl, rfl⟩ h⟩
    · rw [if_neg h1] at ec ⊢
      rw [textA_fault _ _ _ (by rw [ec]; exact h1), thingS_bad h1, ec]
      exact ⟨rfl, fun _ h => absurd h h1, fun _ => rfl⟩
  · have en := numA_fault bs ⟨pl, err⟩ h0
    have ec : countA bs most ⟨pl, err⟩ = ⟨0, ⟨pl, err⟩⟩ := by rw [countA_good _ _ _ (by rw [en]; show ¬ _ < ((0 : Nat) : Int); omega), en]
    rw [textA_fault _ _ _ (by rw [ec]; exact h0), thingS_fault h0, ec]
    exact ⟨rfl, fun h => absurd h h0, fun _ => rfl⟩

theorem handed_nil (B : Nat) (w : World) : Handed B [] (.slice none 0 0) w := ⟨none, 0, rfl, ⟨rfl, Nat.le_refl _, fun _ => rfl, fun h => absurd h (by simp), wfs_nil⟩, fun ad h => absurd h (by simp)⟩

theorem ctext_any {w : World} {R : Nat} {a : Option Addr} {n cp : Nat} {bs : List Int} {s : St} (most : Int) (h9 : most < 9223372036854775808) (h : Rd w R a n cp bs s.pl s.err) :
    Calls Tryz.prog 127 #[.pointer (some ⟨R, 0, none⟩), .int .i64 most] w fun e w' => ∃ V, e = .returned V ∧ Handed w.heap.size (textA bs most s).v V w' ∧ Rd w' R a n cp bs (textA bs most s).s.pl (textA bs most s).s.err ∧ w.grownBy w' (some R) := by
  obtain ⟨pl, err⟩ := s
  have hlt := World.block_lt_of_cell? w _ h.c0
  have HR := hide (rd_alloc (rd_alloc h (.cells #[.pointer (some ⟨R, 0, none⟩)] 132)) (.cells #[.int .i64 most] 3))
  clear h
  have C := hide (thing_text (X := (textR bs most pl).2.1) (P := (textR bs most pl).2.2) (Q := Handed ((w.alloc (.cells #[.pointer (some ⟨R, 0, none⟩)] 132)).alloc (.cells #[.int .i64 most] 3)).heap.size (textR bs most pl).1) #[.pointer (some ⟨w.heap.size, 0, none⟩), .pointer (some ⟨w.heap.size + 1, 0, none⟩)] HR.out (fun (h0 : err = 0) => clos_text most h9 (by have := HR.out; rw [← h0]; exact this) (by simp) (by simp) (by intro e; rw [← e] at hlt; exact absurd hlt (Nat.lt_irrefl _)) (by intro e; rw [← e] at hlt; simp at hlt; omega)))
  have E := hide (text_end bs most pl err)
  have HS : Hid (w.heap.size ≤ ((w.alloc (.cells #[.pointer (some ⟨R, 0, none⟩)] 132)).alloc (.cells #[.int .i64 most] 3)).heap.size) := by show _ ≤ _; simp; omega
  go_enter Tryz.func127, Tryz.ntmps127
  go_wp2_with fail
  refine C.out.mono ?_
  rintro e w1 ⟨V, rfl, hq, hr, hg⟩
  have HQ := hide hq
  have H1 := hide hr
  have G1 := hide hg
  clear hq hr hg C
  go_wp2_with fail
  go_ret
  rw [← E.out.1]
  refine ⟨_, rfl, ?_, H1.out, grown_alloc (grown_alloc G1.out)⟩
  by_cases h0 : err = 0 ∧ (textR bs most pl).2.1 = 0
  · obtain ⟨a', cp', e1, m1⟩ := HQ.out h0.1 h0.2
    rw [← E.out.2.1 h0.1 h0.2]
    unfold thingV
    rw [if_pos h0.1, if_pos h0.2]
    exact ⟨a', cp', e1, m1.base HS.out⟩
  · rw [E.out.2.2 h0]
    unfold thingV
    by_cases h1 : err = 0
    · rw [if_pos h1, if_neg (fun h => h0 ⟨h1, h⟩)]
      exact handed_nil _ _
    · rw [if_neg h1]
      exact handed_nil _ _
end Go.Proofs.YthklpkmdmkgjiaaGreat
