/- What the document's own Num and Int (purseref02) return, at the landed code: the bytes of a number, in memory of their own. No condition but that the number is of its kind. What the document's own reader (purseref02) does, at the landed code. What the document's own reader (purseref02) answers, and how it stands then, at the landed code. What the document's own reader (purseref02) answers, and how it stands then: flags, counts, what is left, the fault, the end. What the document's own reader (purseref02) does with a text, and how it begins, at the landed code. -/
import Derived.Test.YthklpkmdmkgjiaaGreatJA
import Derived.Laws.AppendOwnNone
import Derived.BigQuiet
import Derived.Laws.World
import Derived.Deep.RegionHeld3
namespace Go.Proofs.YthklpkmdmkgjiaaGreat
open Go.ChangeShapes Go.WideShapes Go.ChangeAt Go.RowKit B8 Cm
set_option linter.unusedVariables false
set_option maxRecDepth 100000

set_option maxHeartbeats 1000000 in
theorem refnum_any (V : Nat) (w : World) (hV : V < 18446744073709551616) :
    Calls Tryz.prog 82 #[.int .u64 V] w fun e w' => ∃ x, e = .returned x ∧ w'.ownsRow w.heap.size 5 1 x (numB V).length (vals (numB V)) ∧ Below w.heap.size w w' := by
  obtain ⟨i0, hi, hz0, hz1, hz2⟩ := info_parts B8.info
  go_enter Tryz.func82, Tryz.ntmps82
  go_wp2_with fail
  go_loopw [0, 3] (fun v b wr => ∃ (f x : Nat) (xs : List Int), v = .int .u64 x ∧ Hid (xs ++ numF f x = numB V) ∧ Hid (x < 128 ^ (f + 1)) ∧ x < 18446744073709551616 ∧ xs.length + f ≤ 9 ∧ wr.ownsRow w.heap.size 5 1 b xs.length (vals xs) ∧ Below w.heap.size w wr) (fun v _ _ => (intOf v).toNat)
  case atStart => exact ⟨9, V, [], rfl, rfl, by show _ < _; omega, hV, by simp, World.ownsRow_nil _ _ _ _, Below.refl _ _⟩
  case round =>
    obtain ⟨f, x, xs, rfl, HX, HF, hx, hl, hown, hnx⟩ := hrel
    by_cases h : x ≤ 127
    · have HE : Hid (xs ++ [(x : Int)] = numB V) := by
        have := HX.out
        rw [numF_end f x h] at this
        exact this
      go_wp2_with (first
        | (at_builtin; refine wpList_append_own _ rfl _ _ 29 rfl w.heap.size 5 i0 (.int .u8 0) 1 1 Tryz.underlying29 hi hz0 hz1 hz2 rfl (by decide) _ _ _ rfl (hown.alloc _) ⟨wr.heap.size, 0, none⟩ 1 1 [.int .u8 (x : Int)] rfl rfl ?c1 ?c2 ?c3 ?c4 ?c5 ?_))
      case c1 =>
        intro j u hj
        match j, hj with
        | 0, hj => simp at hj; subst hj; simp [Addr.add]
      case c2 => intro u hu; simp at hu; subst hu; rfl
      case c3 => unfold maxLen; omega
      case c4 => omega
      case c5 => have := hnx.size; simp; omega
      intro v' w1 hown' hgrow _
      go_wp2_with fail
      go_ret
      refine ⟨v', rfl, ?_, (hnx.alloc hnx.size _).grown hgrow (by have := hnx.size; simp; omega) (fun k hk => (hown.lt k hk).1)⟩
      rw [← HE.out, vals_append, List.length_append]
      exact hown'
    · obtain ⟨f', rfl⟩ : ∃ f', f = f' + 1 := by
        match f, HF.out with
        | 0, h2 => omega
        | f + 1, _ => exact ⟨f, rfl⟩
      have HE : Hid (xs ++ [(x : Int) % 128 + 128] ++ numF f' (x / 128) = numB V) := by
        have := HX.out
        rw [numF_more f' x h] at this
        show _ = _
        rw [List.append_assoc]
        exact this
      have HF' : Hid (x / 128 < 128 ^ (f' + 1)) := by
        have := HF.out
        rw [Nat.pow_succ] at this
        exact Nat.div_lt_of_lt_mul (by rw [Nat.mul_comm]; exact this)
      go_wp2_with (first
        | (at_builtin; refine wpList_append_own _ rfl _ _ 29 rfl w.heap.size 5 i0 (.int .u8 0) 1 1 Tryz.underlying29 hi hz0 hz1 hz2 rfl (by decide) _ _ _ rfl (hown.alloc _) ⟨wr.heap.size, 0, none⟩ 1 1 [.int .u8 ((x : Int) % 128 + 128)] rfl rfl ?d1 ?d2 ?d3 ?d4 ?d5 ?_))
      case d1 =>
        intro j u hj
        match j, hj with
        | 0, hj => simp at hj; subst hj; simp [Addr.add]
      case d2 => intro u hu; simp at hu; subst hu; rfl
      case d3 => unfold maxLen; omega
      case d4 => omega
      case d5 => have := hnx.size; simp; omega
      intro v' w1 hown' hgrow _
      go_wp2_with fail
      go_roundw
      case rel =>
        refine ⟨f', x / 128, xs ++ [(x : Int) % 128 + 128], by go_num, HE, HF', by omega, by simp; omega, ?_, (hnx.alloc hnx.size _).grown hgrow (by have := hnx.size; simp; omega) (fun k hk => (hown.lt k hk).1)⟩
        rw [vals_append, List.length_append]
        exact hown'
      case measure => simp [intOf]; omega

theorem refnum_int (x : Int) (w : World) (h0 : 0 ≤ x) (h1 : x < 18446744073709551616) :
    Calls Tryz.prog 82 #[.int .u64 x] w fun e w' => ∃ y, e = .returned y ∧ w'.ownsRow w.heap.size 5 1 y (numB x.toNat).length (vals (numB x.toNat)) ∧ Below w.heap.size w w' := by
  have := refnum_any x.toNat w (by omega)
  rw [show ((x.toNat : Nat) : Int) = x from by omega] at this
  exact this

theorem refint_any (n : Int) (w : World) (n0 : -9223372036854775808 ≤ n) (n1 : n ≤ 9223372036854775807) :
    Calls Tryz.prog 66 #[.int .i64 n] w fun e w' => ∃ y, e = .returned y ∧ w'.ownsRow w.heap.size 5 1 y (numB (zig n)).length (vals (numB (zig n))) ∧ Below w.heap.size w w' := by
  by_cases h : 0 ≤ n
  · have c := hide (refnum_int (2 * n) w (by omega) (by omega))
    rw [zig_up n h]
    go_enter Tryz.func66, Tryz.ntmps66
    go_wp2_with fail
    refine c.out.mono ?_
    rintro e w' ⟨y, rfl, h1, h2⟩
    go_wp2_with fail
    go_ret
    exact ⟨y, rfl, h1, h2⟩
  · have c := hide (refnum_int (2 * -(n + 1) + 1) w (by omega) (by omega))
    rw [zig_down n h]
    go_enter Tryz.func66, Tryz.ntmps66
    go_wp2_with fail
    refine c.out.mono ?_
    rintro e w' ⟨y, rfl, h1, h2⟩
    go_wp2_with fail
    go_ret
    exact ⟨y, rfl, h1, h2⟩

theorem numB_wfs (v : Nat) (h : v < 18446744073709551616) : wfs (numB v) := by
  intro j
  by_cases hj : j < (numB v).length
  · rw [List.getElem?_eq_getElem hj]
    have := numF_bytes 9 v (by omega) _ (List.getElem_mem hj)
    exact WalkArith.wf_u8 (by show 0 ≤ (numB v)[j] ∧ (numB v)[j] ≤ 255; exact this)
  · rw [List.getElem?_eq_none (Nat.le_of_not_lt hj)]
    decide

/-- a text as bytes -/
def textB (bs : List Int) : List Int := numB bs.length ++ bs

theorem reftext_sq {a : Option Addr} {len cap : Nat} {bs : List Int} {w : World} (h : Sq w a len cap bs) (hr : len ≤ 140737488351232) :
    Calls Tryz.prog 76 #[.slice a len cap] w fun e w' => ∃ y, e = .returned y ∧ w'.ownsRow w.heap.size 5 1 y (textB bs).length (vals (textB bs)) ∧ Below w.heap.size w w' := by
  obtain ⟨i0, hi, hz0, hz1, hz2⟩ := info_parts B8.info
  have c := hide (refnum_any len w (by omega))
  have hl := numF_length 9 len
  have H := hide h
  clear h
  go_enter Tryz.func76, Tryz.ntmps76
  go_wp2_with fail
  refine c.out.mono ?_
  rintro e w1 ⟨y, rfl, hown, hb1⟩
  have H1 := hide (H.out.below hb1)
  match a, H1 with
  | none, H1 =>
    obtain ⟨rfl, rfl⟩ := H1.out.noAddr rfl
    have hb : bs = [] := List.eq_nil_of_length_eq_zero H.out.length
    go_wp2_with (first
      | (at_builtin; refine wpList_append_own_none rfl (.tmp 6) (.tmp 7) 29 rfl w.heap.size 5 i0 1 Tryz.underlying29 hi _ _ _ rfl hown rfl ?_))
    go_ret
    refine ⟨y, rfl, ?_, hb1⟩
    subst hb
    rw [show textB [] = numB 0 from by unfold textB; rw [List.append_nil]; rfl]
    exact hown
  | some ad, H1 =>
    go_wp2_with (first
      | (at_builtin; refine wpList_append_own _ rfl (.tmp 6) (.tmp 7) 29 rfl w.heap.size 5 i0 (.int .u8 0) 1 1 Tryz.underlying29 hi hz0 hz1 hz2 rfl (by decide) _ _ _ rfl hown ad len cap (vals bs) rfl ?c0 ?c1 ?c2 ?c3 ?c4 ?c5 ?_))
    case c0 => exact H1.out.valsLength
    case c1 => exact H1.out.news ad rfl
    case c2 => exact vals_one _
    case c3 => unfold maxLen numB; omega
    case c4 => unfold numB; omega
    case c5 => exact hb1.size
    intro v' w2 hown' hgrow _
    go_wp2_with fail
    go_ret
    refine ⟨v', rfl, ?_, hb1.grown hgrow hb1.size (fun k hk => (hown.lt k hk).1)⟩
    unfold textB
    rw [vals_append, List.length_append, H.out.length]
    exact hown'
end Go.Proofs.YthklpkmdmkgjiaaGreat

namespace Go.Proofs.YthklpkmdmkgjiaaGreat
open Go.ChangeShapes Go.WideShapes Go.ChangeAt Go.RowKit B8 Cm
set_option linter.unusedVariables false
set_option maxRecDepth 100000

theorem Ending_num (at_ : Nat) {r : NumR} {x : Int} (h : r = ⟨0, 0, x⟩) (hx : x ≠ 0) :
    Ending.returned (.tuple #[.int .u64 0, .int .i64 0, .int .i64 x]) = .returned (.tuple #[.int .u64 (r.v : Nat), .int .i64 (numTo at_ r), .int .i64 r.e]) := by
  subst h
  unfold numTo
  rw [if_neg hx]; rfl
theorem Ending_num2 {r : NumR} {v u at_ : Nat} {x y : Int} (h : r = ⟨v, u, 0⟩) (hx : x = (v : Int)) (hy : y = ((at_ + u : Nat) : Int)) :
    Ending.returned (.tuple #[.int .u64 x, .int .i64 y, .int .i64 0]) = .returned (.tuple #[.int .u64 (r.v : Nat), .int .i64 (numTo at_ r), .int .i64 r.e]) := by
  subst h
  unfold numTo
  rw [if_pos rfl, hx, hy]

set_option maxHeartbeats 4000000 in
theorem number_any {w : World} {R : Nat} {a : Option Addr} {n cp : Nat} {bs : List Int} {at_ : Nat} {err : Int} (h : Rd w R a n cp bs at_ err) :
    Calls Tryz.prog 92 #[.pointer (some ⟨R, 0, none⟩)] w fun e w' => e = .returned (.tuple #[.int .u64 ((numG (bs.drop at_) 0 0).v : Nat), .int .i64 (numTo at_ (numG (bs.drop at_) 0 0)), .int .i64 (numG (bs.drop at_) 0 0).e]) ∧ ∃ m, w' = w.drewN m := by
  have c0 := h.c0
  have c1 := h.c1
  have hr := h.room
  have hp := h.place
  have HQ := hide h.sq
  clear h
  go_enter Tryz.func92, Tryz.ntmps92
  go_wp2_with fail
  go_loopw [5, 6, 7] (fun v i _ wr => ∃ (k vv m : Nat), k ≤ 9 ∧ at_ + k ≤ n ∧ i = .int .i64 k ∧ v = .int .u64 vv ∧ wr = w.drewN m ∧ Hid (vv < 2 ^ (7 * k)) ∧ Hid (numG (bs.drop (at_ + k)) k vv = numG (bs.drop at_) 0 0)) (fun _ i _ _ => 10 - (intOf i).toNat)
  case atStart => exact ⟨0, 0, 0, by omega, by omega, rfl, rfl, rfl, by show _ < _; simp, rfl⟩
  case round =>
    obtain ⟨k, vv, m, hk, hn, rfl, rfl, rfl, HV, HG⟩ := hrel
    by_cases hlt : at_ + k < n
    · obtain ⟨b, off, ea, hc⟩ := HQ.out.cells (by omega)
      have d := hc (at_ + k) hlt
      have z := bounds_u8 (HQ.out.wf (at_ + k))
      obtain ⟨c, ec⟩ : ∃ c, c = bs[at_ + k]?.getD 0 := ⟨_, rfl⟩
      have HD : Hid (bs.drop (at_ + k) = c :: bs.drop (at_ + (k + 1))) := by
        show _ = _
        have hlen := HQ.out.length
        rw [List.drop_eq_getElem_cons (by omega), ec, List.getElem?_eq_getElem (by omega)]
        rfl
      rw [← ec] at d z
      rw [ea] at c0
      clear ec hc ea
      have i1 : (at_ : Int) + (k : Int) < (n : Int) := by omega
      obtain ⟨z0, z1⟩ := z
      by_cases k9 : k = 9
      · have h9 : ((k : Int) == 9) = true := by simp; omega
        have hk9 : 9 ≤ k := by omega
        by_cases hc1 : 1 < c
        · have q1 : decide (1 < c) = true := by simpa using hc1
          have HR : Hid (numG (bs.drop at_) 0 0 = ⟨0, 0, 21⟩) := by
            rw [← HG.out, HD.out]; exact numG_form _ _ _ _ (by omega)
          clear k9
          go_wp2_with fail
          go_quiet (fail)
          go_wp2_with fail
          go_quiet (fail)
          go_wp2_with fail
          go_ret3
          exact ⟨Ending_num at_ HR.out (by decide), _, rfl⟩
        · have q1 : decide (1 < c) = false := by simp; omega
          have hk0 : (0 : Int) < (k : Int) := by omega
          have q2 : decide ((0 : Int) < (k : Int)) = true := by simp; omega
          by_cases hc0 : c = 0
          · have q3 : (c == 0) = true := by simpa using hc0
            have HR : Hid (numG (bs.drop at_) 0 0 = ⟨0, 0, 21⟩) := by
              rw [← HG.out, HD.out]; exact numG_form _ _ _ _ (by omega)
            clear k9 hc0
            go_wp2_with fail
            go_quiet (fail)
            go_wp2_with fail
            go_quiet (fail)
            go_wp2_with fail
            go_ret3
            exact ⟨Ending_num at_ HR.out (by decide), _, rfl⟩
          · have q3 : (c == 0) = false := by simpa using hc0
            have q4 : decide (c < 128) = true := by simp; omega
            have hab := acc_bd vv k (c % 128).toNat (by omega) HV.out (by omega)
            have HA := hide (acc_form vv k c (by omega) (by omega) hab.1 hab.2.1)
            have HR : Hid (numG (bs.drop at_) 0 0 = ⟨vv + (c % 128).toNat * 2 ^ (7 * k), k + 1, 0⟩) := by
              rw [← HG.out, HD.out]; exact numG_done _ _ _ _ (by omega) (by omega)
            clear hab
            clear k9
            go_wp2_with fail
            go_quiet (fail)
            go_wp2_with fail
            go_quiet (fail)
            go_wp2_with fail
            go_quiet (fail)
            go_wp2_with fail
            go_ret3
            exact ⟨Ending_num2 HR.out HA.out (by omega), _, World.drewN_drewN _ _ _⟩
      · have h9 : ((k : Int) == 9) = false := by simp; omega
        by_cases k0 : k = 0
        · have q2 : ((k : Int)) ≤ 0 := by omega
          by_cases hc : c < 128
          · have q4 : decide (c < 128) = true := by simpa using hc
            have hab := acc_bd vv k (c % 128).toNat (by omega) HV.out (by omega)
            have HA := hide (acc_form vv k c (by omega) (by omega) hab.1 hab.2.1)
            have HR : Hid (numG (bs.drop at_) 0 0 = ⟨vv + (c % 128).toNat * 2 ^ (7 * k), k + 1, 0⟩) := by
              rw [← HG.out, HD.out]; exact numG_done _ _ _ _ (by omega) (by omega)
            clear hab
            clear k0
            go_wp2_with fail
            go_quiet (fail)
            go_wp2_with fail
            go_quiet (fail)
            go_wp2_with fail
            go_quiet (fail)
            go_wp2_with fail
            go_ret3
            exact ⟨Ending_num2 HR.out HA.out (by omega), _, World.drewN_drewN _ _ _⟩
          · have q4 : decide (c < 128) = false := by simpa using hc
            have hab := acc_bd vv k (c % 128).toNat (by omega) HV.out (by omega)
            have HA := hide (acc_form vv k c (by omega) (by omega) hab.1 hab.2.1)
            have HB := hide hab.2.2
            have HR : Hid (numG (bs.drop (at_ + (k + 1))) (k + 1) (vv + (c % 128).toNat * 2 ^ (7 * k)) = numG (bs.drop at_) 0 0) := by
              rw [← HG.out, HD.out]; exact (numG_more _ _ _ _ (by omega) (by omega)).symm
            clear hab
            clear k0
            go_wp2_with fail
            go_quiet (fail)
            go_wp2_with fail
            go_quiet (fail)
            go_wp2_with fail
            go_roundw
            case rel => exact ⟨k + 1, _, _, by omega, by omega, by go_num, by rw [HA.out], rfl, HB, HR⟩
            case measure => simp [intOf]; omega
        · have hk0 : (0 : Int) < (k : Int) := by omega
          have q2 : decide ((0 : Int) < (k : Int)) = true := by simp; omega
          by_cases hc0 : c = 0
          · have q3 : (c == 0) = true := by simpa using hc0
            have HR : Hid (numG (bs.drop at_) 0 0 = ⟨0, 0, 21⟩) := by
              rw [← HG.out, HD.out]; exact numG_form _ _ _ _ (by omega)
            clear hc0
            go_wp2_with fail
            go_quiet (fail)
            go_wp2_with fail
            go_quiet (fail)
            go_wp2_with fail
            go_ret3
            exact ⟨Ending_num at_ HR.out (by decide), _, rfl⟩
          · have q3 : (c == 0) = false := by simpa using hc0
            by_cases hc : c < 128
            · have q4 : decide (c < 128) = true := by simpa using hc
              have hab := acc_bd vv k (c % 128).toNat (by omega) HV.out (by omega)
              have HA := hide (acc_form vv k c (by omega) (by omega) hab.1 hab.2.1)
              have HR : Hid (numG (bs.drop at_) 0 0 = ⟨vv + (c % 128).toNat * 2 ^ (7 * k), k + 1, 0⟩) := by
                rw [← HG.out, HD.out]; exact numG_done _ _ _ _ (by omega) (by omega)
              clear hab
              go_wp2_with fail
              go_quiet (fail)
              go_wp2_with fail
              go_quiet (fail)
              go_wp2_with fail
              go_quiet (fail)
              go_wp2_with fail
              go_ret3
              exact ⟨Ending_num2 HR.out HA.out (by omega), _, World.drewN_drewN _ _ _⟩
            · have q4 : decide (c < 128) = false := by simpa using hc
              have hab := acc_bd vv k (c % 128).toNat (by omega) HV.out (by omega)
              have HA := hide (acc_form vv k c (by omega) (by omega) hab.1 hab.2.1)
              have HB := hide hab.2.2
              have HR : Hid (numG (bs.drop (at_ + (k + 1))) (k + 1) (vv + (c % 128).toNat * 2 ^ (7 * k)) = numG (bs.drop at_) 0 0) := by
                rw [← HG.out, HD.out]; exact (numG_more _ _ _ _ (by omega) (by omega)).symm
              clear hab
              go_wp2_with fail
              go_quiet (fail)
              go_wp2_with fail
              go_quiet (fail)
              go_wp2_with fail
              go_roundw
              case rel => exact ⟨k + 1, _, _, by omega, by omega, by go_num, by rw [HA.out], rfl, HB, HR⟩
              case measure => simp [intOf]; omega
    · have HR : Hid (numG (bs.drop at_) 0 0 = ⟨0, 0, 20⟩) := by
        rw [← HG.out, List.drop_of_length_le (by have := HQ.out.length; omega)]; rfl
      have i1 : (n : Int) ≤ (at_ : Int) + (k : Int) := by omega
      go_wp2_with fail
      go_quiet (fail)
      go_wp2_with fail
      go_ret3
      exact ⟨Ending_num at_ HR.out (by decide), _, World.drewN_drewN _ _ _⟩
end Go.Proofs.YthklpkmdmkgjiaaGreat

namespace Go.Proofs.YthklpkmdmkgjiaaGreat
open Go.ChangeShapes Go.WideShapes Go.ChangeAt Go.RowKit B8 Cm
set_option linter.unusedVariables false
set_option maxRecDepth 100000

theorem fail_any {w : World} {R : Nat} {a : Option Addr} {n cp : Nat} {bs : List Int} {s : Nat} (x : Int) (h : Rd w R a n cp bs s 0) :
    Calls Tryz.prog 81 #[.pointer (some ⟨R, 0, none⟩), .int .i64 x] w fun e w' => e = .returned (.tuple #[]) ∧ Rd w' R a n cp bs s x ∧ w.grownBy w' (some R) := by
  have c2 := h.c2
  have f2 := h.f2
  have H := hide h
  clear h
  go_enter Tryz.func81, Tryz.ntmps81
  go_wp2_with fail
  refine bodyPost_end (results_none rfl _ _ _) rfl ?_
  exact ⟨rfl, H.out.failed x, grown_setCell _ _ _ _⟩

theorem num_any {w : World} {R : Nat} {a : Option Addr} {n cp : Nat} {bs : List Int} {s : St} (h : Rd w R a n cp bs s.pl s.err) :
    Calls Tryz.prog 83 #[.pointer (some ⟨R, 0, none⟩)] w fun e w' => e = .returned (.int .u64 ((numA bs s).v : Nat)) ∧ Rd w' R a n cp bs (numA bs s).s.pl (numA bs s).s.err ∧ w.grownBy w' (some R) := by
  obtain ⟨pl, err⟩ := s
  have c2 := h.c2
  have H := hide h
  have HL : Hid (bs.length = n) := h.sq.length
  clear h
  by_cases h0 : err = 0
  · subst h0
    have CN := hide (number_any H.out)
    by_cases h1 : (numG (bs.drop pl) 0 0).e = 0
    · have HV := hide (numA_good bs ⟨pl, 0⟩ rfl h1)
      have HU := hide (numG_used _ _ _ h1).2
      have HT : Hid (numTo pl (numG (bs.drop pl) 0 0) = ((pl + (numG (bs.drop pl) 0 0).used : Nat) : Int)) := if_pos h1
      have HE := hide h1
      clear h1
      go_enter Tryz.func83, Tryz.ntmps83
      go_wp2_with fail
      refine CN.out.mono ?_
      rintro e w' ⟨rfl, m, rfl⟩
      rw [HE.out, HT.out]
      have H' := hide (H.out.drewN m)
      have c1 := H'.out.c1
      have f1 := H'.out.f1
      go_wp2_with fail
      go_ret
      have hu := HU.out
      have hl := HL.out
      have hp := H.out.place
      simp only [List.length_drop, Nat.zero_add] at hp hu
      rw [HV.out]
      exact ⟨rfl, H'.out.moved _ (by omega), World.grownBy.trans (grown_drewN w m _) (grown_setCell _ _ _ _)⟩
    · have HV := hide (numA_bad bs ⟨pl, 0⟩ rfl h1)
      have HT : Hid (numTo pl (numG (bs.drop pl) 0 0) = 0) := if_neg h1
      have HE := hide h1
      obtain ⟨x, ex⟩ : ∃ x, x = (numG (bs.drop pl) 0 0).e := ⟨_, rfl⟩
      rw [← ex] at h1
      have HX := hide ex
      clear ex
      have hx : (x == 0) = false := by simpa using h1
      go_enter Tryz.func83, Tryz.ntmps83
      go_wp2_with fail
      refine CN.out.mono ?_
      rintro e w' ⟨rfl, m, rfl⟩
      rw [HT.out, ← HX.out]
      have H' := hide (H.out.drewN m)
      go_wp2_with fail
      refine (fail_any x H'.out).mono ?_
      rintro e w' ⟨rfl, hr, hg⟩
      go_wp2_with fail
      go_ret
      rw [HV.out, ← HX.out]
      exact ⟨rfl, hr, World.grownBy.trans (grown_drewN w m _) hg⟩
  · have HV := hide (numA_fault bs ⟨pl, err⟩ h0)
    have hx : (err == 0) = false := by simpa using h0
    go_enter Tryz.func83, Tryz.ntmps83
    go_wp2_with fail
    go_ret
    rw [HV.out]
    exact ⟨rfl, H.out, World.grownBy.refl _ _⟩

theorem int_any {w : World} {R : Nat} {a : Option Addr} {n cp : Nat} {bs : List Int} {s : St} (h : Rd w R a n cp bs s.pl s.err) :
    Calls Tryz.prog 67 #[.pointer (some ⟨R, 0, none⟩)] w fun e w' => e = .returned (.int .i64 (intA bs s).v) ∧ Rd w' R a n cp bs (intA bs s).s.pl (intA bs s).s.err ∧ w.grownBy w' (some R) := by
  have CN := hide (num_any h)
  have HL := hide (numA_lt bs s (bs_bd h.sq.wf))
  unfold intA
  obtain ⟨A, eA⟩ : ∃ A, A = numA bs s := ⟨_, rfl⟩
  rw [← eA] at CN HL ⊢
  clear h eA
  obtain ⟨v, s'⟩ := A
  have hv : v < 18446744073709551616 := HL.out
  clear HL
  go_enter Tryz.func67, Tryz.ntmps67
  go_wp2_with fail
  refine CN.out.mono ?_
  rintro e w' ⟨rfl, hr, hg⟩
  by_cases h2 : v % 2 = 1
  · have HZ := hide h2
    have e2 : ((v : Int) % 2 == 1) = true := by simp; omega
    clear h2
    go_wp2_with fail
    go_ret
    refine ⟨ret1 ?_, hr, hg⟩
    show _ = zag v
    unfold zag
    rw [if_pos HZ.out]
    omega
  · have HZ := hide h2
    have e2 : ((v : Int) % 2 == 1) = false := by simp; omega
    clear h2
    go_wp2_with fail
    go_ret
    refine ⟨ret1 ?_, hr, hg⟩
    show _ = zag v
    unfold zag
    rw [if_neg HZ.out]
    omega

theorem byte_any {w : World} {R : Nat} {a : Option Addr} {n cp : Nat} {bs : List Int} {s : St} (h : Rd w R a n cp bs s.pl s.err) :
    Calls Tryz.prog 80 #[.pointer (some ⟨R, 0, none⟩)] w fun e w' => e = .returned (.int .u8 (byteA bs s).v) ∧ Rd w' R a n cp bs (byteA bs s).s.pl (byteA bs s).s.err ∧ w.grownBy w' (some R) := by
  obtain ⟨pl, err⟩ := s
  have c0 := h.c0
  have c1 := h.c1
  have c2 := h.c2
  have f1 := h.f1
  have H := hide h
  have HL : Hid (bs.length = n) := h.sq.length
  have hro := h.room
  have hpl := h.place
  clear h
  by_cases h0 : err = 0
  · subst h0
    by_cases h1 : pl < n
    · have HV := hide (byteA_good bs ⟨pl, 0⟩ rfl (by rw [HL.out]; exact h1))
      obtain ⟨b, off, ea, hc⟩ := H.out.sq.cells (by omega)
      have d := hc pl h1
      obtain ⟨c, ec⟩ : ∃ c, c = bs[pl]?.getD 0 := ⟨_, rfl⟩
      rw [← ec] at d
      rw [ea] at c0
      have hbR : b ≠ R := H.out.apart b off ea
      have EC := hide ec
      clear ec hc ea
      have i1 : (pl : Int) < (n : Int) := by omega
      go_enter Tryz.func80, Tryz.ntmps80
      go_wp2_with fail
      go_quiet (fail)
      go_wp2_with fail
      have H' := hide ((H.out.drewN nq).moved (pl + 1) (by omega))
      have G' := hide (World.grownBy.trans (grown_drewN w nq (some R)) (grown_setCell (w.drewN nq) R 1 (.int .i64 ((pl + 1 : Nat) : Int))))
      rw [show (pl : Int) + 1 = ((pl + 1 : Nat) : Int) by omega] at *
      obtain ⟨w1, e1⟩ : ∃ w1, w1 = (w.drewN nq).setCell ⟨R, 1, none⟩ (.int .i64 ((pl + 1 : Nat) : Int)) := ⟨_, rfl⟩
      rw [← e1] at H' G' ⊢
      clear e1 c0 c1 c2 f1
      have c0 := H'.out.c0
      have c1 := H'.out.c1
      obtain ⟨b', off', ea, hc⟩ := H'.out.sq.cells (by omega)
      have d' := hc pl h1
      rw [← EC.out] at d'
      rw [ea] at c0
      clear ea hc d hbR
      have i2 : ((pl + 1 : Nat) : Int) - 1 = (pl : Int) := by omega
      go_quiet (fail)
      go_wp2_with fail
      go_ret
      rw [HV.out]
      exact ⟨ret1 EC.out, H'.out.drewN _, World.grownBy.trans G'.out (grown_drewN _ _ _)⟩
    · have HV := hide (byteA_short bs ⟨pl, 0⟩ rfl (by rw [HL.out]; exact h1))
      have i1 : (n : Int) ≤ (pl : Int) := by omega
      have h1' : n ≤ pl := by omega
      clear h1
      go_enter Tryz.func80, Tryz.ntmps80
      go_wp2_with fail
      go_quiet (fail)
      go_wp2_with fail
      refine (fail_any 20 (H.out.drewN nq)).mono ?_
      rintro e w' ⟨rfl, hr, hg⟩
      go_wp2_with fail
      go_ret
      rw [HV.out]
      exact ⟨rfl, hr, World.grownBy.trans (grown_drewN w nq _) hg⟩
  · have HV := hide (byteA_fault bs ⟨pl, err⟩ h0)
    have hx : (err == 0) = false := by simpa using h0
    go_enter Tryz.func80, Tryz.ntmps80
    go_wp2_with fail
    go_ret
    rw [HV.out]
    exact ⟨rfl, H.out, World.grownBy.refl _ _⟩
end Go.Proofs.YthklpkmdmkgjiaaGreat

namespace Go.Proofs.YthklpkmdmkgjiaaGreat
open Go.ChangeShapes Go.WideShapes Go.ChangeAt Go.RowKit B8 Cm
set_option linter.unusedVariables false
set_option maxRecDepth 100000

theorem flag_any {w : World} {R : Nat} {a : Option Addr} {n cp : Nat} {bs : List Int} {s : St} (h : Rd w R a n cp bs s.pl s.err) :
    Calls Tryz.prog 65 #[.pointer (some ⟨R, 0, none⟩)] w fun e w' => e = .returned (.bool (flagA bs s).v) ∧ Rd w' R a n cp bs (flagA bs s).s.pl (flagA bs s).s.err ∧ w.grownBy w' (some R) := by
  have c1 := h.c1
  have CB := hide (byte_any h)
  have hpl := h.place
  have hbad := hide (flagA_bad bs s)
  have hgood := hide (flagA_good bs s)
  have herr := hide (byteA_err bs s)
  obtain ⟨A, eA⟩ : ∃ A, A = byteA bs s := ⟨_, rfl⟩
  rw [← eA] at CB hbad hgood herr
  clear h eA
  obtain ⟨c, s'⟩ := A
  obtain ⟨pl, err⟩ := s
  go_enter Tryz.func65, Tryz.ntmps65
  go_wp2_with fail
  refine CB.out.mono ?_
  rintro e w1 ⟨rfl, hr, hg⟩
  have H1 := hide hr
  have G1 := hide hg
  clear hr hg
  by_cases h1 : 1 < c
  · have HV := hide (hbad.out h1)
    have he : s'.err = 0 := Decidable.by_contra fun h => by
      have := herr.out h
      have : c = 0 := this
      omega
    have HE := hide he
    clear he
    have f1 := H1.out.f1
    have d1 := H1.out.c1
    have q1 : decide (1 < c) = true := by simpa using h1
    go_wp2_with fail
    have H2 := hide (H1.out.moved pl hpl)
    rw [HE.out] at H2
    refine (fail_any 21 H2.out).mono ?_
    rintro e w2 ⟨rfl, hr2, hg2⟩
    go_wp2_with fail
    go_ret
    rw [HV.out]
    exact ⟨rfl, hr2, World.grownBy.trans G1.out (World.grownBy.trans (grown_setCell _ _ _ _) hg2)⟩
  · have HV := hide (hgood.out (Int.not_lt.1 h1))
    have q1 : decide (1 < c) = false := by simpa using h1
    go_wp2_with fail
    go_ret
    rw [HV.out]
    refine ⟨?_, H1.out, G1.out⟩
    show _ = Ending.returned (.bool (decide (c = 1)))
    congr 2

theorem count_at {w : World} {R : Nat} {a : Option Addr} {n cp : Nat} {bs : List Int} {s : St} (most m : Int) (hm : (0 < most ∧ most = m) ∨ (most ≤ 0 ∧ m = 0)) (h9 : most < 9223372036854775808) (h : Rd w R a n cp bs s.pl s.err) :
    Calls Tryz.prog 84 #[.pointer (some ⟨R, 0, none⟩), .int .i64 most] w fun e w' => e = .returned (.int .i64 ((countA bs most s).v : Nat)) ∧ Rd w' R a n cp bs (countA bs most s).s.pl (countA bs most s).s.err ∧ w.grownBy w' (some R) := by
  have c1 := h.c1
  have CN := hide (num_any h)
  have hpl := h.place
  have hmax : max 0 most = m := by omega
  have hbad := countA_long bs most s
  have hgood := fun h => countA_good bs most s (Int.not_lt.2 h)
  rw [hmax] at hbad hgood
  have HB := hide hbad
  have HG := hide hgood
  have herr := hide (numA_err bs s)
  have hlt := hide (numA_lt bs s (bs_bd h.sq.wf))
  clear hmax hbad hgood
  obtain ⟨A, eA⟩ : ∃ A, A = numA bs s := ⟨_, rfl⟩
  rw [← eA] at CN HB HG herr hlt
  clear h eA
  obtain ⟨c, s'⟩ := A
  obtain ⟨pl, err⟩ := s
  have hc : c < 18446744073709551616 := hlt.out
  clear hlt
  rcases hm with ⟨hm, rfl⟩ | ⟨hm, rfl⟩
  all_goals
    go_enter Tryz.func84, Tryz.ntmps84
    go_wp2_with fail
    refine CN.out.mono ?_
    rintro e w1 ⟨rfl, hr, hg⟩
    have H1 := hide hr
    have G1 := hide hg
    clear hr hg
  · by_cases h1 : most < (c : Int)
    · have HV := hide (HB.out h1)
      have he : s'.err = 0 := Decidable.by_contra fun h => by
        have := herr.out h
        have : c = 0 := this
        omega
      have HE := hide he
      clear he
      have f1 := H1.out.f1
      have d1 := H1.out.c1
      have q1 : decide (most < (c : Int)) = true := by simpa using h1
      go_wp2_with fail
      have H2 := hide (H1.out.moved pl hpl)
      rw [HE.out] at H2
      refine (fail_any 22 H2.out).mono ?_
      rintro e w2 ⟨rfl, hr2, hg2⟩
      go_wp2_with fail
      go_ret
      rw [HV.out]
      exact ⟨rfl, hr2, World.grownBy.trans G1.out (World.grownBy.trans (grown_setCell _ _ _ _) hg2)⟩
    · have HV := hide (HG.out (Int.not_lt.1 h1))
      have q1 : decide (most < (c : Int)) = false := by simpa using h1
      have c9 : (c : Int) < 9223372036854775808 := by omega
      go_wp2_with fail
      go_ret
      rw [HV.out]
      exact ⟨rfl, H1.out, G1.out⟩
  · by_cases h1 : 0 < c
    · have HV := hide (HB.out (by omega))
      have he : s'.err = 0 := Decidable.by_contra fun h => by
        have := herr.out h
        have : c = 0 := this
        omega
      have HE := hide he
      clear he
      have f1 := H1.out.f1
      have d1 := H1.out.c1
      have q1 : decide (0 < (c : Int)) = true := by simpa using h1
      go_wp2_with fail
      have H2 := hide (H1.out.moved pl hpl)
      rw [HE.out] at H2
      refine (fail_any 22 H2.out).mono ?_
      rintro e w2 ⟨rfl, hr2, hg2⟩
      go_wp2_with fail
      go_ret
      rw [HV.out]
      exact ⟨rfl, hr2, World.grownBy.trans G1.out (World.grownBy.trans (grown_setCell _ _ _ _) hg2)⟩
    · have HV := hide (HG.out (by omega))
      obtain rfl : c = 0 := by omega
      go_wp2_with fail
      go_ret
      rw [HV.out]
      exact ⟨rfl, H1.out, G1.out⟩
theorem count_any {w : World} {R : Nat} {a : Option Addr} {n cp : Nat} {bs : List Int} {s : St} (most : Int) (h9 : most < 9223372036854775808) (h : Rd w R a n cp bs s.pl s.err) :
    Calls Tryz.prog 84 #[.pointer (some ⟨R, 0, none⟩), .int .i64 most] w fun e w' => e = .returned (.int .i64 ((countA bs most s).v : Nat)) ∧ Rd w' R a n cp bs (countA bs most s).s.pl (countA bs most s).s.err ∧ w.grownBy w' (some R) := by
  by_cases hm : 0 < most
  · exact count_at most most (.inl ⟨hm, rfl⟩) h9 h
  · exact count_at most 0 (.inr ⟨by omega, rfl⟩) h9 h

theorem end_any {w : World} {R : Nat} {a : Option Addr} {n cp : Nat} {bs : List Int} {s : St} (h : Rd w R a n cp bs s.pl s.err) :
    Calls Tryz.prog 19 #[.pointer (some ⟨R, 0, none⟩)] w fun e w' => e = .returned (.int .i64 (endA bs s)) ∧ ∃ m, w' = w.drewN m := by
  have c0 := h.c0
  have c1 := h.c1
  have c2 := h.c2
  have HL : Hid (bs.length = n) := h.sq.length
  clear h
  obtain ⟨pl, err⟩ := s
  by_cases h0 : err = 0
  · subst h0
    by_cases h1 : pl < n
    · have HV : Hid (endA bs ⟨pl, 0⟩ = 24) := by show _ = _; unfold endA; rw [HL.out]; simp [h1]
      have i1 : (pl : Int) < (n : Int) := by omega
      go_enter Tryz.func19, Tryz.ntmps19
      go_wp2_with fail
      go_quiet (fail)
      go_wp2_with fail
      go_ret
      rw [HV.out]
      exact ⟨rfl, _, rfl⟩
    · have HV : Hid (endA bs ⟨pl, 0⟩ = 0) := by show _ = _; unfold endA; rw [HL.out]; simp [h1]
      have i1 : ¬ (pl : Int) < (n : Int) := by omega
      go_enter Tryz.func19, Tryz.ntmps19
      go_wp2_with fail
      go_quiet (fail)
      go_wp2_with fail
      go_ret
      rw [HV.out]
      exact ⟨rfl, _, rfl⟩
  · have HV : Hid (endA bs ⟨pl, err⟩ = err) := if_neg h0
    have hx : (err == 0) = false := by simpa using h0
    go_enter Tryz.func19, Tryz.ntmps19
    go_wp2_with fail
    go_quiet (fail)
    go_wp2_with fail
    go_ret
    rw [HV.out]
    exact ⟨rfl, _, rfl⟩
end Go.Proofs.YthklpkmdmkgjiaaGreat

namespace Go.Proofs.YthklpkmdmkgjiaaGreat
open Go.ChangeShapes Go.WideShapes Go.ChangeAt Go.RowKit B8 Cm
set_option linter.unusedVariables false
set_option maxRecDepth 100000

/-- a reader that the call made, at the beginning of its own copy -/
def Fresh (w w' : World) (R n : Nat) (bs : List Int) : Prop := ∃ g off cp, Rd w' R (some ⟨g, off, none⟩) n cp bs 0 0 ∧ w.heap.size ≤ g ∧ g < w'.heap.size
theorem new_any {w : World} {a : Option Addr} {n cp : Nat} {bs : List Int} (h : Sq w a n cp bs) (hr : n ≤ 140737488351232) :
    Calls Tryz.prog 57 #[.slice a n cp] w fun e w' => ∃ R, e = .returned (.pointer (some ⟨R, 0, none⟩)) ∧ Fresh w w' R n bs ∧ Below w.heap.size w w' ∧ w.heap.size ≤ R := by
  have H := hide h
  have HL := hide h.length
  have HW := hide h.wf
  clear h
  have R0 := hide (row_new w w.heap.size (Nat.le_refl _) #[] (by decide))
  have B0 := hide (Below.alloc (Below.refl w.heap.size w) (Nat.le_refl _) (.cells #[] 5))
  have H0 := hide (H.out.below B0.out)
  go_enter Tryz.func57, Tryz.ntmps57
  go_wp2_with (at_builtin; refine wp_append_at _ rfl (.tmp 3) (.tmp 4) rfl w.heap.size w.heap.size 0 0 [] rfl R0.out a n cp bs rfl H0.out (by omega) B0.out.size ?_; intro g cp1 w1 hown1 hgrow1 hat1)
  go_ret
  have b1 : Below w.heap.size w w1 := B0.out.grown hgrow1 B0.out.size (fun k hk => by cases hk; exact Nat.le_refl _)
  simp only [List.nil_append, Nat.zero_add] at hown1
  obtain ⟨a1, cp2, e1, q1⟩ := sq_of_row HL.out HW.out hown1
  have hg1 := hown1.lt g rfl
  obtain ⟨rfl, rfl⟩ : some ⟨g, 0, none⟩ = a1 ∧ cp1 = cp2 := by simpa using e1
  have b2 : Below w1.heap.size w1 (w1.alloc (.cells #[.slice (some ⟨g, 0, none⟩) n cp1, .int .i64 0, .int .i64 0] 138)) := Below.alloc (Below.refl _ _) (Nat.le_refl _) _
  refine ⟨w1.heap.size, rfl, ⟨g, 0, cp1, ⟨by simp, by simp, by simp, by simp, by simp, q1.below b2, ?_, Nat.zero_le _, by omega⟩, hg1.1, by have := hg1.2; simp; omega⟩, below_step b1 b2, b1.size⟩
  intro b off e
  obtain ⟨rfl, rfl⟩ : g = b ∧ 0 = off := by simpa using e
  omega

theorem text_any {w : World} {R : Nat} {a : Option Addr} {n cp : Nat} {bs : List Int} {s : St} (most : Int) (h9 : most < 9223372036854775808) (home : ∃ b off, a = some ⟨b, off, none⟩) (h : Rd w R a n cp bs s.pl s.err) :
    Calls Tryz.prog 75 #[.pointer (some ⟨R, 0, none⟩), .int .i64 most] w fun e w' => ∃ v, e = .returned v ∧ w'.ownsRow w.heap.size 5 1 v (textA bs most s).v.length (vals (textA bs most s).v) ∧ Rd w' R a n cp bs (textA bs most s).s.pl (textA bs most s).s.err ∧ w.grownBy w' (some R) := by
  have c1 := h.c1
  have CC := hide (count_any most h9 h)
  have hpl := h.place
  have HL := hide h.sq.length
  have hcp := h.sq.lecap
  obtain ⟨b, off, rfl⟩ := home
  have T1 := hide (textA_fault bs most s)
  have T2 := hide (textA_short bs most s)
  have T3 := hide (textA_good bs most s)
  obtain ⟨A, eA⟩ : ∃ A, A = countA bs most s := ⟨_, rfl⟩
  rw [← eA] at CC T1 T2 T3
  clear h eA
  obtain ⟨c, p1, x1⟩ := A
  obtain ⟨pl, err⟩ := s
  go_enter Tryz.func75, Tryz.ntmps75
  go_wp2_with fail
  refine CC.out.mono ?_
  rintro e w1 ⟨rfl, hr, hg⟩
  have H1 := hide hr
  have G1 := hide hg
  clear hr hg CC
  have d0 := H1.out.c0
  have d1 := H1.out.c1
  have d2 := H1.out.c2
  have f1 := H1.out.f1
  have hp1 := H1.out.place
  have hn := H1.out.room
  by_cases h0 : x1 = 0
  · subst h0
    by_cases h1 : n - p1 < c
    · have HV := hide (T2.out rfl (by rw [HL.out]; exact h1))
      have i1 : (n : Int) - (p1 : Int) < (c : Int) := by omega
      clear T1 T2 T3
      go_wp2_with fail
      go_quiet (fail)
      go_wp2_with fail
      have H2 := hide ((H1.out.drewN nq).moved pl hpl)
      refine (fail_any 20 H2.out).mono ?_
      rintro e w2 ⟨rfl, hr2, hg2⟩
      go_wp2_with fail
      go_ret
      rw [HV.out]
      exact ⟨_, rfl, World.ownsRow_nil _ _ _ _, hr2, World.grownBy.trans G1.out (World.grownBy.trans (grown_drewN _ _ _) (World.grownBy.trans (grown_setCell _ _ _ _) hg2))⟩
    · have HV := hide (T3.out rfl (by rw [HL.out]; exact h1))
      have i1 : ¬ (n : Int) - (p1 : Int) < (c : Int) := by omega
      clear T1 T2 T3
      go_wp2_with fail
      go_quiet (fail)
      go_wp2_with fail
      have H2 := hide ((H1.out.drewN nq).moved (p1 + c) (by omega))
      have G2 := hide (World.grownBy.trans G1.out (World.grownBy.trans (grown_drewN w1 nq (some R)) (grown_setCell (w1.drewN nq) R 1 (.int .i64 ((p1 + c : Nat) : Int)))))
      rw [show ((p1 : Int) + (c : Int)) = ((p1 + c : Nat) : Int) by omega] at *
      obtain ⟨w2, e2⟩ : ∃ w2, w2 = (w1.drewN nq).setCell ⟨R, 1, none⟩ (.int .i64 ((p1 + c : Nat) : Int)) := ⟨_, rfl⟩
      rw [← e2] at H2 G2 ⊢
      clear e2 d0 d1 d2 f1
      obtain ⟨q, hq⟩ : ∃ q, q = p1 + c := ⟨_, rfl⟩
      rw [← hq] at H2 ⊢
      have HQ := hide hq
      have d0 := H2.out.c0
      have d1 := H2.out.c1
      have i2 : (0 : Int) ≤ (p1 : Int) := by omega
      have i3 : (q : Int) - (c : Int) = (p1 : Int) := by omega
      have i4 : (p1 : Int) ≤ (q : Int) := by omega
      have i5 : (q : Int) ≤ (cp : Int) := by omega
      have i6 : q ≤ cp := by omega
      have i7 : p1 ≤ q := by omega
      have i8 : IntKind.i64.wrap (p1 : Int) = p1 := by rw [IntKind.wrap_i64]; omega
      have i9 : max (q : Int) 0 = q := by omega
      have i10 : (0 : Int) ≤ (q : Int) := by omega
      clear hq
      have q2 := ((H2.out.sq.take q (by omega)).drop p1 i7 (if cp = p1 then some ⟨b, off, none⟩ else some ⟨b, off + p1, none⟩) (fun h => by split at h <;> cases h) (fun h => by rw [if_neg (by omega)]))
      rw [List.drop_take, show q - p1 = c by omega] at q2
      have Q2 := hide (q2.below (Below.alloc (Below.refl _ _) (Nat.le_refl _) (.cells #[] 5)))
      have R2 := hide (row_new w2 w2.heap.size (Nat.le_refl _) #[] (by decide))
      have i11 : q - p1 = c := by omega
      clear q2
      have lR := World.block_lt_of_cell? w2 _ d0
      have NR : Hid (some R ≠ some w2.heap.size) := fun e => by cases e; exact absurd lR (Nat.lt_irrefl _)
      have BA := hide (Below.alloc (Below.refl w2.heap.size w2) (Nat.le_refl _) (.cells #[] 5))
      have K0 := hide ((BA.out.cell (p := ⟨R, 0, none⟩) lR).trans d0)
      have K1 := hide ((BA.out.cell (p := ⟨R, 1, none⟩) lR).trans d1)
      go_region_held3 (fun w' => w'.cell? ⟨R, 0, none⟩ = some (.slice (some ⟨b, off, none⟩) n cp) ∧ w'.cell? ⟨R, 1, none⟩ = some (.int .i64 (q : Int))) (first | go_keep | exact ⟨hgrow3.cell K0.out NR.out, hgrow3.cell K1.out NR.out⟩)
        ((refine step_append_sq _ (by rfl) (.tmp 46) (.tmp 61) (by rfl) w2.heap.size w2.heap.size 0 0 [] (by rfl) R2.out.drew _ c (cp - p1) ((bs.drop p1).take c) (by rfl) (Q2.out.drew 1) (by omega) (by simp) ?_; intro g cp1 w3 hown3 hgrow3 hat3))
      have b3 : Below w2.heap.size w2 w3 := (BA.out.drew).grown hgrow3 (by simp) (fun k hk => by cases hk; exact Nat.le_refl _)
      simp only [List.nil_append, Nat.zero_add] at hown3
      have hlen : ((bs.drop p1).take c).length = c := by have := HL.out; simp; omega
      have r3 : Rd w3 R (some ⟨b, off, none⟩) n cp bs (p1 + c) 0 := by
        rw [← HQ.out]
        exact H2.out.grown (grown_below b3 none) (by simp) (by simp)
      have o3 : w3.ownsRow w.heap.size 5 1 (.slice (some ⟨g, 0, none⟩) c cp1) ((bs.drop p1).take c).length (vals ((bs.drop p1).take c)) := by
        rw [hlen]
        exact row_base hown3 G2.out.size
      have g3 := World.grownBy.trans G2.out (grown_below b3 (some R))
      clear hlen
      go_wp2_with fail
      all_goals
        go_ret
        rw [HV.out]
        first | exact ⟨_, rfl, o3, r3, g3⟩ | (subst_vars; exact ⟨_, rfl, o3, r3, g3⟩)
  · have HV := hide (T1.out h0)
    have hx : (x1 == 0) = false := by simpa using h0
    clear T1 T2 T3
    go_wp2_with fail
    go_ret
    rw [HV.out]
    exact ⟨_, rfl, World.ownsRow_nil _ _ _ _, H1.out, G1.out⟩
end Go.Proofs.YthklpkmdmkgjiaaGreat
