/- The document's ledger: Group, May, below, Right, Net. Condition: the list can be read. The document's ledger: which lists are ledgers, and what was spent. Condition: the list can be read. -/
import Derived.Test.YtjcbhgkfbilifaaFLgCheck
import Derived.Test.YtjcbhgkfbilifaaJV
namespace Go.Proofs.Ytjcbhgkfbilifaa
open Go.ChangeShapes Go.WideShapes Go.ChangeAt Go.RowKit Ao Lg
set_option linter.unusedVariables false

set_option maxRecDepth 100000 in
theorem lrkey_any (k : ByteArray) (w : World) : Calls Try.prog 86 #[.string k] w fun e w' => e = .returned (.bool (keyB k)) ∧ w' = w := by
  unfold keyB
  by_cases h1 : 1 ≤ k.size
  · by_cases h2 : k.size ≤ 16
    · rw [decide_eq_true ⟨h1, h2⟩]
      go_enter Try.func86, Try.ntmps86
      go_wp2_with fail
      go_returns
      exact ⟨by first | rfl | (simp <;> omega), rfl⟩
    · rw [decide_eq_false fun h => h2 h.2]
      go_enter Try.func86, Try.ntmps86
      go_wp2_with fail
      go_returns
      exact ⟨by simp <;> omega, rfl⟩
  · rw [decide_eq_false fun h => h1 h.1]
    go_enter Try.func86, Try.ntmps86
    go_wp2_with fail
    go_returns
    exact ⟨by simp <;> omega, rfl⟩
set_option maxRecDepth 100000 in
theorem rgroup_any (g : Int) (w : World) : Calls Try.prog 76 #[.int .i64 g] w fun e w' => e = .returned (.bool (grpB g)) ∧ w' = w := by
  unfold grpB
  by_cases h : 1 ≤ g
  · go_enter Try.func76, Try.ntmps76
    go_wp2_with fail
    go_ret
    exact ⟨by simp [h], rfl⟩
  · go_enter Try.func76, Try.ntmps76
    go_wp2_with fail
    go_ret
    exact ⟨by simp <;> omega, rfl⟩
set_option maxRecDepth 100000 in
theorem rmay_any (r : Rt) (w : World) : Calls Try.prog 60 #[rval r] w fun e w' => e = .returned (.bool (mayB r)) ∧ Below w.heap.size w w' := by
  have C := fun W => hide (rgroup_any r.g W)
  have K := fun W => hide (lrkey_any r.k W)
  unfold mayB rval
  cases hg : grpB r.g
  · rw [hg] at C
    clear hg K
    go_enter Try.func60, Try.ntmps60
    go_wp2_with (go_at_call 76; refine (C _).out.mono ?_; rintro e w' ⟨rfl, hw⟩; rw [hw]; clear hw)
    go_returns
    exact ⟨rfl, by go_grown⟩
  · rw [hg] at C
    clear hg
    cases hk : keyB r.k
    · rw [hk] at K
      clear hk
      go_enter Try.func60, Try.ntmps60
      go_wp2_with (first | (go_at_call 76; refine (C _).out.mono ?_; rintro e w' ⟨rfl, hw⟩; rw [hw]; clear hw) | (go_at_call 86; refine (K _).out.mono ?_; rintro e w' ⟨rfl, hw⟩; rw [hw]; clear hw))
      go_returns
      exact ⟨rfl, by go_grown⟩
    · rw [hk] at K
      clear hk
      go_enter Try.func60, Try.ntmps60
      go_wp2_with (first | (go_at_call 76; refine (C _).out.mono ?_; rintro e w' ⟨rfl, hw⟩; rw [hw]; clear hw) | (go_at_call 86; refine (K _).out.mono ?_; rintro e w' ⟨rfl, hw⟩; rw [hw]; clear hw))
      go_returns
      exact ⟨by simp, by go_grown⟩
set_option maxRecDepth 100000 in
theorem rbelow_any (a b : Rt) (w : World) : Calls Try.prog 61 #[rval a, rval b] w fun e w' => e = .returned (.bool (decide (ordR a b < 0))) ∧ Below w.heap.size w w' := by
  have qL : Op.bytesLess a.k.toList b.k.toList = decide (cmpB a.k.data.toList b.k.data.toList < 0) := by rw [Lib.toList_data, Lib.toList_data, cmpB_less]
  have hO := @ord_neg a b
  unfold rval
  by_cases h1 : a.g < b.g
  · rw [decide_eq_true (hO.2 (.inl h1))]
    clear hO qL
    go_enter Try.func61, Try.ntmps61
    go_wp2_with fail
    go_returns
    exact ⟨rfl, by go_grown⟩
  · by_cases h2 : a.g = b.g
    · rw [show decide (ordR a b < 0) = decide (cmpB a.k.data.toList b.k.data.toList < 0) from decide_eq_decide.2 (by rw [hO]; exact ⟨fun h => h.elim (fun h => absurd h h1) (fun h => h.2), fun h => .inr ⟨h2, h⟩⟩)]
      clear hO
      generalize decide (cmpB a.k.data.toList b.k.data.toList < 0) = z at qL ⊢
      cases z
      all_goals
        go_enter Try.func61, Try.ntmps61
        go_wp2_with fail
        go_returns
        exact ⟨rfl, by go_grown⟩
    · rw [decide_eq_false (fun h => (hO.1 h).elim h1 (fun h => h2 h.1))]
      clear hO qL
      go_enter Try.func61, Try.ntmps61
      go_wp2_with fail
      go_returns
      exact ⟨rfl, by go_grown⟩
end Go.Proofs.Ytjcbhgkfbilifaa

namespace Go.Proofs.Ytjcbhgkfbilifaa
open Go.ChangeShapes Go.WideShapes Go.ChangeAt Go.RowKit Ao Lg
set_option linter.unusedVariables false

set_option maxRecDepth 100000 in
set_option maxHeartbeats 4000000 in
theorem rledger_any {w : World} {a : Option Addr} {n c : Nat} {l : List Rt} (h : Rs w a n l) :
    Calls Try.prog 16 #[.slice a n c] w fun e w' => e = .returned (.bool (ledB l)) ∧ Below w.heap.size w w' := by
  have H := hide h
  have hr := h.room
  have HL := hide h.len
  clear h
  go_enter Try.func16, Try.ntmps16
  go_wp2_with fail
  go_loopw [3] (fun iv wr => ∃ k : Nat, k ≤ n ∧ iv = .int .i64 k ∧ Hid (Below w.heap.size w wr) ∧ Hid (UpTo l k)) (fun iv _ => n - (intOf iv).toNat)
  case atStart => exact ⟨0, Nat.zero_le _, rfl, Below.refl _ _, fun j x _ h => by omega, fun j x y _ _ h => by omega⟩
  case round =>
    obtain ⟨k, hk, rfl, HB, HU⟩ := hrel
    by_cases hlt : k < n
    · rcases Nat.eq_zero_or_pos k with rfl | hk0
      · obtain ⟨b, off, x, rfl, hx, hb, M⟩ := rs_at (H.out.below HB.out) hlt
        rw [Nat.zero_mul, Nat.add_zero] at M
        obtain ⟨c0, c1, c2, c3⟩ := M
        have HX := hide hx
        have i1 : (0 : Int) < (n : Int) := by omega
        have MY := fun W => hide (rmay_any x W)
        unfold rval at MY
        clear hx
        cases hm : mayB x
        · rw [hm] at MY
          have HF := hide hm
          clear hm
          go_wp2_with fail
          refine wp_region_cells w [(⟨b, off, none⟩, .int .i64 x.g), (⟨b, off + 1, none⟩, .string x.k), (⟨b, off + 2, none⟩, .int .i64 x.ls), (⟨b, off + 3, none⟩, .int .i64 x.nt)] (by kernel_rfl) (by kernel_rfl) HB.out (by simp [AllCells, c0, c1, c2, c3]) ?_
          intro hne qq
          simp only [AllCells, and_true] at qq
          clear c0 c1 c2 c3
          repeat (go_big_quiet_step (first | (go_at_call 60; exact Held.call _ (MY _).out)))
          refine wpQuiet_nil ?_
          rintro _ ⟨y9, rfl⟩
          have BQ : Hid (Below w.heap.size w y9.x) := y9.below
          clear qq hne MY
          go_wp2_with fail
          go_returns
          exact ⟨by rw [not_may HX.out HF.out]; rfl, BQ.out⟩
        · rw [hm] at MY
          have HF := hide hm
          clear hm
          go_wp2_with fail
          refine wp_region_cells w [(⟨b, off, none⟩, .int .i64 x.g), (⟨b, off + 1, none⟩, .string x.k), (⟨b, off + 2, none⟩, .int .i64 x.ls), (⟨b, off + 3, none⟩, .int .i64 x.nt)] (by kernel_rfl) (by kernel_rfl) HB.out (by simp [AllCells, c0, c1, c2, c3]) ?_
          intro hne qq
          simp only [AllCells, and_true] at qq
          clear c0 c1 c2 c3
          repeat (go_big_quiet_step (first | (go_at_call 60; exact Held.call _ (MY _).out)))
          refine wpQuiet_nil ?_
          rintro _ ⟨y9, rfl⟩
          have BQ : Hid (Below w.heap.size w y9.x) := y9.below
          clear qq hne MY
          go_wp2_with fail
          go_roundw
          case rel => exact ⟨1, by omega, by go_num, BQ, upto_zero HX.out HF.out⟩
          case measure => simp [intOf]; omega
      · obtain ⟨q, rfl⟩ : ∃ q, k = q + 1 := ⟨k - 1, by omega⟩
        obtain ⟨b, off, x, rfl, hx, hb, M⟩ := rs_at (H.out.below HB.out) hlt
        obtain ⟨c0, c1, c2, c3⟩ := M
        have HX := hide hx
        have i1 : (q : Int) + 1 < (n : Int) := by omega
        have i2 : ((q : Int) + 1).toNat = q + 1 := by omega
        have i3 : (0 : Int) ≤ (q : Int) + 1 := by omega
        have i4 : (0 : Int) < (q : Int) + 1 := by omega
        have i5 : (q : Int) < (n : Int) := by omega
        have i6 : (0 : Int) ≤ (q : Int) := by omega
        have i7 : IntKind.i64.wrap (q : Int) = (q : Int) := by rw [IntKind.wrap_i64]; omega
        have MY := fun W => hide (rmay_any x W)
        unfold rval at MY
        clear hx
        obtain ⟨b', off', y, e9, hy, hb', M'⟩ := rs_at (H.out.below HB.out) (show q < n by omega)
        cases e9
        have HY := hide hy
        obtain ⟨d0, d1, d2, d3⟩ := M'
        have OD := fun W => hide (rbelow_any y x W)
        unfold rval at OD
        clear hy hb'
        cases hm : mayB x
        · rw [hm] at MY
          have HF := hide hm
          clear hm
          clear OD d0 d1 d2 d3
          go_wp2_with fail
          refine wp_region_cells w [(⟨b, off + (q + 1) * 4, none⟩, .int .i64 x.g), (⟨b, off + (q + 1) * 4 + 1, none⟩, .string x.k), (⟨b, off + (q + 1) * 4 + 2, none⟩, .int .i64 x.ls), (⟨b, off + (q + 1) * 4 + 3, none⟩, .int .i64 x.nt)] (by kernel_rfl) (by kernel_rfl) HB.out (by simp [AllCells, c0, c1, c2, c3]) ?_
          intro hne qq
          simp only [AllCells, and_true] at qq
          clear c0 c1 c2 c3
          repeat (go_big_quiet_step (first | (go_at_call 60; exact Held.call _ (MY _).out)))
          refine wpQuiet_nil ?_
          rintro _ ⟨y9, rfl⟩
          have BQ : Hid (Below w.heap.size w y9.x) := y9.below
          clear qq hne MY
          go_wp2_with fail
          go_returns
          exact ⟨by rw [not_may HX.out HF.out]; rfl, BQ.out⟩
        · rw [hm] at MY
          have HF := hide hm
          clear hm
          by_cases ho : ordR y x < 0
          · rw [decide_eq_true ho] at OD
            have HO := hide ho
            clear ho
            go_wp2_with fail
            refine wp_region_cells w [(⟨b, off + (q + 1) * 4, none⟩, .int .i64 x.g), (⟨b, off + (q + 1) * 4 + 1, none⟩, .string x.k), (⟨b, off + (q + 1) * 4 + 2, none⟩, .int .i64 x.ls), (⟨b, off + (q + 1) * 4 + 3, none⟩, .int .i64 x.nt), (⟨b, off + q * 4, none⟩, .int .i64 y.g), (⟨b, off + q * 4 + 1, none⟩, .string y.k), (⟨b, off + q * 4 + 2, none⟩, .int .i64 y.ls), (⟨b, off + q * 4 + 3, none⟩, .int .i64 y.nt)] (by kernel_rfl) (by kernel_rfl) HB.out (by simp [AllCells, c0, c1, c2, c3, d0, d1, d2, d3]) ?_
            intro hne qq
            simp only [AllCells, and_true] at qq
            clear c0 c1 c2 c3 d0 d1 d2 d3
            repeat (go_big_quiet_step (first | (go_at_call 60; exact Held.call _ (MY _).out) | (go_at_call 61; exact Held.call _ (OD _).out)))
            refine wpQuiet_nil ?_
            rintro _ ⟨y9, rfl⟩
            have BQ : Hid (Below w.heap.size w y9.x) := y9.below
            clear qq hne MY OD
            go_wp2_with fail
            go_roundw
            case rel => exact ⟨q + 1 + 1, by omega, by go_num, BQ, upto_next HU.out HY.out HX.out HF.out HO.out⟩
            case measure => simp [intOf]; omega
          · rw [decide_eq_false ho] at OD
            have HO : Hid (0 ≤ ordR y x) := by show _ ≤ _; omega
            clear ho
            go_wp2_with fail
            refine wp_region_cells w [(⟨b, off + (q + 1) * 4, none⟩, .int .i64 x.g), (⟨b, off + (q + 1) * 4 + 1, none⟩, .string x.k), (⟨b, off + (q + 1) * 4 + 2, none⟩, .int .i64 x.ls), (⟨b, off + (q + 1) * 4 + 3, none⟩, .int .i64 x.nt), (⟨b, off + q * 4, none⟩, .int .i64 y.g), (⟨b, off + q * 4 + 1, none⟩, .string y.k), (⟨b, off + q * 4 + 2, none⟩, .int .i64 y.ls), (⟨b, off + q * 4 + 3, none⟩, .int .i64 y.nt)] (by kernel_rfl) (by kernel_rfl) HB.out (by simp [AllCells, c0, c1, c2, c3, d0, d1, d2, d3]) ?_
            intro hne qq
            simp only [AllCells, and_true] at qq
            clear c0 c1 c2 c3 d0 d1 d2 d3
            repeat (go_big_quiet_step (first | (go_at_call 60; exact Held.call _ (MY _).out) | (go_at_call 61; exact Held.call _ (OD _).out)))
            refine wpQuiet_nil ?_
            rintro _ ⟨y9, rfl⟩
            have BQ : Hid (Below w.heap.size w y9.x) := y9.below
            clear qq hne MY OD
            go_wp2_with fail
            go_returns
            exact ⟨by rw [not_ord HY.out HX.out (by have := HO.out; omega)]; rfl, BQ.out⟩
    · obtain rfl : k = n := by omega
      go_wp2_with fail
      go_returns
      exact ⟨by rw [upto_all (by rw [HL.out]; exact HU.out)]; rfl, HB.out⟩
theorem first_find {p : Rt → Bool} : ∀ {l : List Rt} {k : Nat} {x : Rt}, (∀ (j : Nat) y, l[j]? = some y → j < k → p y = false) → l[k]? = some x → p x = true → l.find? p = some x
  | [], k, x, _, h, _ => by simp at h
  | y :: t, 0, x, _, h, hp => by simp at h; subst h; rw [List.find?_cons, hp]
  | y :: t, k + 1, x, h0, h, hp => by
    rw [List.find?_cons, h0 0 y rfl (by omega)]
    exact first_find (k := k) (fun j z hz hj => h0 (j + 1) z (by simpa using hz) (by omega)) (by simpa using h) hp
theorem none_find {p : Rt → Bool} {l : List Rt} (h : ∀ (j : Nat) y, l[j]? = some y → j < l.length → p y = false) : l.find? p = none := by
  rw [List.find?_eq_none]
  intro y hy
  obtain ⟨j, hj, rfl⟩ := List.mem_iff_getElem.1 hy
  rw [h j _ (List.getElem?_eq_getElem hj) hj]
  simp
theorem key_eq (a b : ByteArray) : (a.toList == b.toList) = decide (a = b) := by
  by_cases h : a = b
  · subst h; simp
  · rw [decide_eq_false h, beq_eq_false_iff_ne]
    exact fun e => h (WideShapes.bytes_inj (by rwa [Lib.toList_data, Lib.toList_data] at e))
set_option maxRecDepth 100000 in
set_option maxHeartbeats 4000000 in
theorem rnet_any {w : World} {a : Option Addr} {n c : Nat} {l : List Rt} {g ls : Int} {k : ByteArray} (h : Rs w a n l) :
    Calls Try.prog 23 #[.slice a n c, .int .i64 g, .string k, .int .i64 ls] w fun e w' => e = .returned (.int .i64 (netV l g k ls)) ∧ Below w.heap.size w w' := by
  have RL := fun W => hide (fun hW : Below w.heap.size w W => rledger_any (c := c) (h.below hW))
  have H := hide h
  have hr := h.room
  have HL := hide h.len
  clear h
  by_cases hl : ledB l = true
  · rw [hl] at RL
    have HV : Hid (netV l g k ls = netL l g k ls) := by show _ = _; unfold netV; rw [if_pos hl]
    clear hl
    go_enter Try.func23, Try.ntmps23
    go_wp2_with fail
    go_loopw [9] (fun iv wr => ∃ q : Nat, q ≤ n ∧ iv = .int .i64 q ∧ Hid (Below w.heap.size w wr) ∧ Hid (∀ (j : Nat) y, l[j]? = some y → j < q → isL g k ls y = false)) (fun iv _ => n - (intOf iv).toNat)
    case atStart => exact ⟨0, Nat.zero_le _, rfl, Below.refl _ _, fun j x _ h => by omega⟩
    case round =>
      obtain ⟨q, hq, rfl, HB, HN⟩ := hrel
      go_wp2_with fail
      refine ((RL _).out HB.out).mono ?_
      rintro e w1 ⟨rfl, hb⟩
      have HB1 : Hid (Below w.heap.size w w1) := HB.out.trans (hb.mono HB.out.size)
      clear hb RL
      by_cases hlt : q < n
      · obtain ⟨b, off, x, rfl, hx, hb, M⟩ := rs_at (H.out.below HB1.out) hlt
        obtain ⟨c0, c1, c2, c3⟩ := M
        have HX := hide hx
        have i1 : (q : Int) < (n : Int) := by omega
        have q9 := key_eq x.k k
        clear hx hb
        have NX : isL g k ls x = false → Hid (∀ (j : Nat) y, l[j]? = some y → j < q + 1 → isL g k ls y = false) := fun e j y hy hj => by
          by_cases e2 : j = q
          · subst e2
            rw [HX.out] at hy
            obtain rfl := Option.some.inj hy
            exact e
          · exact HN.out j y hy (by omega)
        by_cases e1 : x.g = g
        · by_cases e2 : x.k = k
          · rw [decide_eq_true e2] at q9
            by_cases e3 : x.ls = ls
            · have HR : Hid (netL l g k ls = x.nt) := by
                show _ = _
                unfold netL
                rw [first_find HN.out HX.out (by unfold isL; rw [decide_eq_true e1, decide_eq_true e2, decide_eq_true e3]; rfl)]
              clear NX
              go_wp2_with fail
              go_returns
              exact ⟨by rw [HV.out, HR.out]; first | rfl | simp, HB1.out⟩
            · have HN2 := NX (by unfold isL; rw [decide_eq_false e3]; simp)
              clear NX
              go_wp2_with fail
              go_roundw
              case rel => exact ⟨q + 1, by omega, by go_num, HB1, HN2⟩
              case measure => simp [intOf]; omega
          · rw [decide_eq_false e2] at q9
            have HN2 := NX (by unfold isL; rw [decide_eq_false e2]; simp)
            clear NX
            go_wp2_with fail
            go_roundw
            case rel => exact ⟨q + 1, by omega, by go_num, HB1, HN2⟩
            case measure => simp [intOf]; omega
        · have HN2 := NX (by unfold isL; rw [decide_eq_false e1]; simp)
          clear NX q9
          go_wp2_with fail
          go_roundw
          case rel => exact ⟨q + 1, by omega, by go_num, HB1, HN2⟩
          case measure => simp [intOf]; omega
      · obtain rfl : q = n := by omega
        have HR : Hid (netL l g k ls = 0) := by
          show _ = _
          unfold netL
          rw [none_find (by rw [HL.out]; exact HN.out)]
        go_wp2_with fail
        go_returns
        exact ⟨by rw [HV.out, HR.out]; first | rfl | simp, HB1.out⟩
  · have hl2 : ledB l = false := by simpa using hl
    rw [hl2] at RL
    have HV : Hid (netV l g k ls = 0) := by show _ = _; unfold netV; rw [if_neg hl]
    clear hl hl2
    go_enter Try.func23, Try.ntmps23
    go_wp2_with fail
    refine wp_loop_rounds 1 ?_
    rw [rounds_succ]
    go_wp2_with fail
    refine ((RL _).out (Below.refl _ _)).mono ?_
    rintro e w1 ⟨rfl, hb⟩
    have HB1 := hide hb
    clear hb
    go_wp2_with fail
    go_returns
    exact ⟨by rw [HV.out]; first | rfl | simp, HB1.out⟩
end Go.Proofs.Ytjcbhgkfbilifaa
