/- The law NumOrder at the landed code, at a list that is not empty: it returns true. -/
import Derived.Test.YtgmnhpelncbknaaHelpKept
import Derived.Test.YtgmnhpelncbknaaNumSum
import Derived.Test.YtgmnhpelncbknaaHeld
namespace Go.Proofs.Ytgmnhpelncbknaa
namespace NumOrder
open Go.ChangeShapes Go.WideShapes Go.ChangeAt Go.RowKit
set_option linter.unusedVariables false

/-- the numbers from place j on, the last one first -/
def rev (zs : List Int) (j : Nat) : List Value := ((zs.drop j).reverse).map (Value.int .i64)
theorem rev_step (zs : List Int) (j : Nat) (h : j < zs.length) : rev zs j = rev zs (j + 1) ++ [.int .i64 (zs[j]?.getD 0)] := by
  unfold rev
  rw [List.drop_eq_getElem_cons h, List.reverse_cons, List.map_append, List.getElem?_eq_getElem h]
  rfl
theorem rev_end (zs : List Int) (j : Nat) (h : zs.length ≤ j) : rev zs j = [] := by
  unfold rev
  rw [List.drop_of_length_le h]
  rfl
theorem rev_all (zs : List Int) : rev zs 0 = zs.reverse.map (Value.int .i64) := rfl

/-- a row that the call itself made, as a list -/
theorem sl_row {w : World} {B len : Nat} {zs : List Int} {v : Value} (hl : zs.length = len) (h0 : 0 < len) (hi : ints zs) (hr : len * 8 ≤ 140737488351232)
    (h : w.ownsRow B 3 1 v len (zs.map (Value.int .i64))) : ∃ g cp, v = .slice (some ⟨g, 0, none⟩) len cp ∧ Sl w (some ⟨g, 0, none⟩) len cp zs := by
  have h' := h
  obtain ⟨_, ⟨_, h2⟩ | ⟨g, cp, cur, rfl, h3, h4, h5, h6, h7, h8⟩⟩ := h
  · omega
  · refine ⟨g, cp, rfl, hl, h5, fun h => absurd h (by simp), fun _ => ⟨g, 0, rfl, fun j hj => ?_⟩, hi, hr⟩
    rw [Nat.zero_add, h'.cellAt j (by omega)]
    have hj' : j < zs.length := by omega
    simp [hj']

theorem ints_rev (zs : List Int) (h : ints zs) : ints zs.reverse := by
  intro j
  by_cases hj : j < zs.length
  · have := h (zs.length - 1 - j)
    rw [List.getElem?_reverse hj]
    exact this
  · rw [List.getElem?_eq_none (by simpa using hj)]
    simp
theorem ints_take (zs : List Int) (h : ints zs) (k : Nat) : ints (zs.take k) := by
  intro j
  by_cases hj : j < k
  · have := h j
    rw [List.getElem?_take, if_pos hj]
    exact this
  · rw [List.getElem?_take, if_neg hj]
    simp
theorem ints_drop (zs : List Int) (h : ints zs) (k : Nat) : ints (zs.drop k) := by
  intro j
  rw [List.getElem?_drop]
  exact h (k + j)

theorem sl_take {w : World} {b off len cap : Nat} {zs : List Int} (h : Sl w (some ⟨b, off, none⟩) len cap zs) (kk : Nat) (hk : kk ≤ len) : Sl w (some ⟨b, off, none⟩) kk cap (zs.take kk) := by
  refine ⟨by have := h.length; simp; omega, by have := h.lecap; omega, fun h => absurd h (by simp), fun h0 => ?_, ints_take zs h.isInts kk, by have := h.room; omega⟩
  obtain ⟨b', off', e, hc⟩ := h.cells (by omega)
  refine ⟨b', off', e, fun j hj => ?_⟩
  rw [hc j (by omega), List.getElem?_take, if_pos hj]

theorem sl_drop {w : World} {b off len cap : Nat} {zs : List Int} (h : Sl w (some ⟨b, off, none⟩) len cap zs) (kk : Nat) (hk : kk ≤ len) (a : Option Addr) (hn : a = none → cap - kk = 0) (ha : kk < len → a = some ⟨b, off + kk, none⟩) : Sl w a (len - kk) (cap - kk) (zs.drop kk) := by
  refine ⟨by have := h.length; simp; omega, by have := h.lecap; omega, hn, fun h0 => ⟨b, off + kk, ha (by omega), fun j hj => ?_⟩, ints_drop zs h.isInts kk, by have := h.room; omega⟩
  obtain ⟨b', off', e, hc⟩ := h.cells (by omega)
  obtain ⟨rfl, rfl⟩ : b = b' ∧ off = off' := by simpa using e
  rw [Nat.add_assoc, hc (kk + j) (by omega), List.getElem?_drop]

set_option maxHeartbeats 4000000 in
theorem some_ (b off len cap : Nat) (zs : List Int) (k : Int) (w : World) (h : Sl w (some ⟨b, off, none⟩) len cap zs) (h0 : 0 < len) (k0 : -9223372036854775808 ≤ k) (k1 : k ≤ 9223372036854775807)
    (hcell : ∀ j, j < len → w.cell? ⟨b, off + j, none⟩ = some (.int .i64 (zs[j]?.getD 0))) :
    Calls Try.prog 8 #[.slice (some ⟨b, off, none⟩) len cap, .int .i64 k] w fun e w' => e = .returned (.bool true) ∧ Below w.heap.size w w' := by
  obtain ⟨i0, hi, hz0, hz1, hz2⟩ := info_parts info3
  have hr := h.room
  have hlc := h.lecap
  have H := hide h
  have HC := hide hcell
  have hb : b < w.heap.size := World.block_lt_of_cell? w _ (hcell 0 h0)
  clear h hcell
  go_enter Try.func8, Try.ntmps8
  go_wp2_with fail
  go_loopw [5, 6] (fun v i wr => ∃ j : Nat, j ≤ len ∧ i = .int .i64 ((j : Int) - 1) ∧ wr.ownsRow w.heap.size 3 1 v (len - j) (rev zs j) ∧ Below w.heap.size w wr) (fun _ i _ => (intOf i + 1).toNat)
  case atStart => exact ⟨len, Nat.le_refl _, rfl, by rw [rev_end zs len (by have := H.out.length; omega), Nat.sub_self]; exact World.ownsRow_nil _ _ _ _, Below.refl _ _⟩
  case round =>
    obtain ⟨j, hj, rfl, hown, hnx⟩ := hrel
    by_cases hlt : 0 < j
    · obtain ⟨t, rfl⟩ : ∃ t, j = t + 1 := ⟨j - 1, by omega⟩
      have hct : wr.cell? ⟨b, off + t, none⟩ = some (.int .i64 (zs[t]?.getD 0)) := (hnx.cell hb).trans (HC.out t (by omega))
      have hc0 : (0 : Int) ≤ (t : Int) := by omega
      rw [show ((t + 1 : Nat) : Int) - 1 = (t : Int) from by omega]
      go_wp2_with (first
        | (at_builtin; refine wpList_append_own _ rfl _ _ 27 rfl w.heap.size 3 i0 (.int .i64 0) 1 8 Try.underlying27 hi hz0 hz1 hz2 rfl (by decide) _ _ _ rfl (hown.alloc _) ⟨wr.heap.size, 0, none⟩ 1 1 [.int .i64 (zs[t]?.getD 0)] rfl rfl ?c1 ?c2 ?c3 ?c4 ?c5 ?_))
      case c1 =>
        intro j u hj
        match j, hj with
        | 0, hj => simp at hj; subst hj; simp [Addr.add]
      case c2 => intro u hu; simp at hu; subst hu; rfl
      case c3 => unfold maxLen; omega
      case c4 => omega
      case c5 => have := hnx.size; simp; omega
      intro v' w1 hown' hgrow _
      go_wp2_with fail
      go_roundw
      case rel =>
        refine ⟨t, by omega, by go_num, ?_, ?_⟩
        · rw [rev_step zs t (by have := H.out.length; omega), show len - t = len - (t + 1) + 1 from by omega]
          exact hown'
        · exact (hnx.alloc hnx.size _).grown hgrow (by have := hnx.size; simp; omega) (fun k hk => (hown.lt k hk).1)
      case measure => simp [intOf]
    · obtain rfl : j = 0 := by omega
      have hown2 : wr.ownsRow w.heap.size 3 1 u5 len (zs.reverse.map (Value.int .i64)) := hown
      obtain ⟨g, cp, hv, S2⟩ := sl_row (by rw [List.length_reverse]; exact H.out.length) h0 (ints_rev zs H.out.isInts) hr hown2
      rw [hv]
      have c2 := sum_sl S2
      rw [List.sum_reverse] at c2
      have C2 := hide c2
      have C1 := hide (sum_sl (H.out.below hnx))
      have BX := hide hnx
      clear hv S2 hown2 hown c2 hnx
      go_wp2_with fail
      refine C1.out.mono ?_
      rintro e wq ⟨rfl, hwq⟩
      subst wq
      go_wp2_with fail
      refine C2.out.mono ?_
      rintro e wq ⟨rfl, hwq⟩
      subst wq
      go_wp2_with fail
      refine (awake_any _).mono ?_
      rintro e wq ⟨rfl, hwq⟩
      subst wq
      have B3 := hide (below_alloc BX.out (.cells #[.int .i64 1, .int .i64 2] 34))
      clear C1 C2 BX HC
      by_cases ka : k ≤ 0
      · by_cases kz : k = 0
        · subst kz
          obtain ⟨Ta, hTa⟩ : ∃ x, x = (zs.take 0).sum := ⟨_, rfl⟩
          obtain ⟨Tb, hTb⟩ : ∃ x, x = (zs.drop 0).sum := ⟨_, rfl⟩
          have hs : Hid (Ta + Tb = zs.sum) := by
            show _ = _
            rw [hTa, hTb, ← List.sum_append, List.take_append_drop]
          have c3 : Hid (Calls Try.prog 15 #[.slice (some ⟨b, off, none⟩) 0 cap] (wr.alloc (.cells #[.int .i64 1, .int .i64 2] 34)) fun e w' => e = .returned (.tuple #[.int .i64 (tellv Ta), .int .i64 (telle Ta)]) ∧ w' = (wr.alloc (.cells #[.int .i64 1, .int .i64 2] 34))) := by
            rw [hTa]; exact sum_sl (sl_take (H.out.below B3.out) 0 (by omega))
          have c4 : Hid (Calls Try.prog 15 #[.slice (some ⟨b, off, none⟩) len cap] (wr.alloc (.cells #[.int .i64 1, .int .i64 2] 34)) fun e w' => e = .returned (.tuple #[.int .i64 (tellv Tb), .int .i64 (telle Tb)]) ∧ w' = (wr.alloc (.cells #[.int .i64 1, .int .i64 2] 34))) := by
            rw [hTb, List.drop_zero]; exact sum_sl (H.out.below B3.out)
          clear hTa hTb H
          have fa0 := hide (tellv_bd Ta)
          by_cases fa : -9223372036854775808 ≤ Ta ∧ Ta ≤ 9223372036854775807
          · by_cases fb : -9223372036854775808 ≤ Tb ∧ Tb ≤ 9223372036854775807
            · have ea := (tell_in fa).2
              have eb := (tell_in fb).2
              have c5 : Hid (Calls Try.prog 9 #[.int .i64 (tellv Ta), .int .i64 (tellv Tb)] (wr.alloc (.cells #[.int .i64 1, .int .i64 2] 34)) fun e w' => e = .returned (.tuple #[.int .i64 (tellv zs.sum), .int .i64 (telle zs.sum)]) ∧ w' = (wr.alloc (.cells #[.int .i64 1, .int .i64 2] 34))) := by
                have := add_any Ta Tb (wr.alloc (.cells #[.int .i64 1, .int .i64 2] 34)) fa.1 fa.2 fb.1 fb.2
                rw [hs.out] at this
                rw [(tell_in fa).1, (tell_in fb).1]
                exact this
              clear fa fb hs
              go_wp2_with fail
              refine c3.out.mono ?_
              rintro e wq ⟨rfl, hwq⟩
              subst wq
              go_wp2_with fail
              all_goals
                refine c4.out.mono ?_
                rintro e wq ⟨rfl, hwq⟩
                subst wq
                go_wp2_with fail
                refine c5.out.mono ?_
                rintro e wq ⟨rfl, hwq⟩
                subst wq
                go_wp2_with fail
                go_ret
                exact ⟨rfl, B3.out⟩
            · have ea := (tell_in fa).2
              have eb := (tell_out fb).2
              clear fa fb hs
              go_wp2_with fail
              refine c3.out.mono ?_
              rintro e wq ⟨rfl, hwq⟩
              subst wq
              go_wp2_with fail
              all_goals
                refine c4.out.mono ?_
                rintro e wq ⟨rfl, hwq⟩
                subst wq
                go_wp2_with fail
                go_ret
                exact ⟨rfl, B3.out⟩
          · have ea := (tell_out fa).2
            clear fa hs
            go_wp2_with fail
            refine c3.out.mono ?_
            rintro e wq ⟨rfl, hwq⟩
            subst wq
            go_wp2_with fail
            all_goals
              refine c4.out.mono ?_
              rintro e wq ⟨rfl, hwq⟩
              subst wq
              go_wp2_with fail
              go_ret
              exact ⟨rfl, B3.out⟩
        · have kn : k < 0 := by omega
          clear kz
          obtain ⟨Ta, hTa⟩ : ∃ x, x = (zs.take 0).sum := ⟨_, rfl⟩
          obtain ⟨Tb, hTb⟩ : ∃ x, x = (zs.drop 0).sum := ⟨_, rfl⟩
          have hs : Hid (Ta + Tb = zs.sum) := by
            show _ = _
            rw [hTa, hTb, ← List.sum_append, List.take_append_drop]
          have c3 : Hid (Calls Try.prog 15 #[.slice (some ⟨b, off, none⟩) 0 cap] (wr.alloc (.cells #[.int .i64 1, .int .i64 2] 34)) fun e w' => e = .returned (.tuple #[.int .i64 (tellv Ta), .int .i64 (telle Ta)]) ∧ w' = (wr.alloc (.cells #[.int .i64 1, .int .i64 2] 34))) := by
            rw [hTa]; exact sum_sl (sl_take (H.out.below B3.out) 0 (by omega))
          have c4 : Hid (Calls Try.prog 15 #[.slice (some ⟨b, off, none⟩) len cap] (wr.alloc (.cells #[.int .i64 1, .int .i64 2] 34)) fun e w' => e = .returned (.tuple #[.int .i64 (tellv Tb), .int .i64 (telle Tb)]) ∧ w' = (wr.alloc (.cells #[.int .i64 1, .int .i64 2] 34))) := by
            rw [hTb, List.drop_zero]; exact sum_sl (H.out.below B3.out)
          clear hTa hTb H
          have fa0 := hide (tellv_bd Ta)
          by_cases fa : -9223372036854775808 ≤ Ta ∧ Ta ≤ 9223372036854775807
          · by_cases fb : -9223372036854775808 ≤ Tb ∧ Tb ≤ 9223372036854775807
            · have ea := (tell_in fa).2
              have eb := (tell_in fb).2
              have c5 : Hid (Calls Try.prog 9 #[.int .i64 (tellv Ta), .int .i64 (tellv Tb)] (wr.alloc (.cells #[.int .i64 1, .int .i64 2] 34)) fun e w' => e = .returned (.tuple #[.int .i64 (tellv zs.sum), .int .i64 (telle zs.sum)]) ∧ w' = (wr.alloc (.cells #[.int .i64 1, .int .i64 2] 34))) := by
                have := add_any Ta Tb (wr.alloc (.cells #[.int .i64 1, .int .i64 2] 34)) fa.1 fa.2 fb.1 fb.2
                rw [hs.out] at this
                rw [(tell_in fa).1, (tell_in fb).1]
                exact this
              clear fa fb hs
              go_wp2_with fail
              refine c3.out.mono ?_
              rintro e wq ⟨rfl, hwq⟩
              subst wq
              go_wp2_with fail
              all_goals
                refine c4.out.mono ?_
                rintro e wq ⟨rfl, hwq⟩
                subst wq
                go_wp2_with fail
                refine c5.out.mono ?_
                rintro e wq ⟨rfl, hwq⟩
                subst wq
                go_wp2_with fail
                go_ret
                exact ⟨rfl, B3.out⟩
            · have ea := (tell_in fa).2
              have eb := (tell_out fb).2
              clear fa fb hs
              go_wp2_with fail
              refine c3.out.mono ?_
              rintro e wq ⟨rfl, hwq⟩
              subst wq
              go_wp2_with fail
              all_goals
                refine c4.out.mono ?_
                rintro e wq ⟨rfl, hwq⟩
                subst wq
                go_wp2_with fail
                go_ret
                exact ⟨rfl, B3.out⟩
          · have ea := (tell_out fa).2
            clear fa hs
            go_wp2_with fail
            refine c3.out.mono ?_
            rintro e wq ⟨rfl, hwq⟩
            subst wq
            go_wp2_with fail
            all_goals
              refine c4.out.mono ?_
              rintro e wq ⟨rfl, hwq⟩
              subst wq
              go_wp2_with fail
              go_ret
              exact ⟨rfl, B3.out⟩
      · by_cases kb : k < len
        · obtain ⟨kk, rfl⟩ : ∃ kk : Nat, k = kk := ⟨k.toNat, by omega⟩
          have kc : kk < len := by omega
          have kp : 0 < kk := by omega
          have ku : ¬ cap = kk := by omega
          obtain ⟨Ta, hTa⟩ : ∃ x, x = (zs.take kk).sum := ⟨_, rfl⟩
          obtain ⟨Tb, hTb⟩ : ∃ x, x = (zs.drop kk).sum := ⟨_, rfl⟩
          have hs : Hid (Ta + Tb = zs.sum) := by
            show _ = _
            rw [hTa, hTb, ← List.sum_append, List.take_append_drop]
          have c3 : Hid (Calls Try.prog 15 #[.slice (some ⟨b, off, none⟩) kk cap] (wr.alloc (.cells #[.int .i64 1, .int .i64 2] 34)) fun e w' => e = .returned (.tuple #[.int .i64 (tellv Ta), .int .i64 (telle Ta)]) ∧ w' = (wr.alloc (.cells #[.int .i64 1, .int .i64 2] 34))) := by
            rw [hTa]; exact sum_sl (sl_take (H.out.below B3.out) kk (by omega))
          have c4 : Hid (Calls Try.prog 15 #[.slice (some ⟨b, off + kk, none⟩) (len - kk) (cap - kk)] (wr.alloc (.cells #[.int .i64 1, .int .i64 2] 34)) fun e w' => e = .returned (.tuple #[.int .i64 (tellv Tb), .int .i64 (telle Tb)]) ∧ w' = (wr.alloc (.cells #[.int .i64 1, .int .i64 2] 34))) := by
            rw [hTb]; exact sum_sl (sl_drop (H.out.below B3.out) kk (by omega) _ (fun h => absurd h (by simp)) (fun _ => rfl))
          clear hTa hTb H
          have fa0 := hide (tellv_bd Ta)
          by_cases fa : -9223372036854775808 ≤ Ta ∧ Ta ≤ 9223372036854775807
          · by_cases fb : -9223372036854775808 ≤ Tb ∧ Tb ≤ 9223372036854775807
            · have ea := (tell_in fa).2
              have eb := (tell_in fb).2
              have c5 : Hid (Calls Try.prog 9 #[.int .i64 (tellv Ta), .int .i64 (tellv Tb)] (wr.alloc (.cells #[.int .i64 1, .int .i64 2] 34)) fun e w' => e = .returned (.tuple #[.int .i64 (tellv zs.sum), .int .i64 (telle zs.sum)]) ∧ w' = (wr.alloc (.cells #[.int .i64 1, .int .i64 2] 34))) := by
                have := add_any Ta Tb (wr.alloc (.cells #[.int .i64 1, .int .i64 2] 34)) fa.1 fa.2 fb.1 fb.2
                rw [hs.out] at this
                rw [(tell_in fa).1, (tell_in fb).1]
                exact this
              clear fa fb hs
              go_wp2_with fail
              refine c3.out.mono ?_
              rintro e wq ⟨rfl, hwq⟩
              subst wq
              go_wp2_with fail
              all_goals
                refine c4.out.mono ?_
                rintro e wq ⟨rfl, hwq⟩
                subst wq
                go_wp2_with fail
                refine c5.out.mono ?_
                rintro e wq ⟨rfl, hwq⟩
                subst wq
                go_wp2_with fail
                go_ret
                exact ⟨rfl, B3.out⟩
            · have ea := (tell_in fa).2
              have eb := (tell_out fb).2
              clear fa fb hs
              go_wp2_with fail
              refine c3.out.mono ?_
              rintro e wq ⟨rfl, hwq⟩
              subst wq
              go_wp2_with fail
              all_goals
                refine c4.out.mono ?_
                rintro e wq ⟨rfl, hwq⟩
                subst wq
                go_wp2_with fail
                go_ret
                exact ⟨rfl, B3.out⟩
          · have ea := (tell_out fa).2
            clear fa hs
            go_wp2_with fail
            refine c3.out.mono ?_
            rintro e wq ⟨rfl, hwq⟩
            subst wq
            go_wp2_with fail
            all_goals
              refine c4.out.mono ?_
              rintro e wq ⟨rfl, hwq⟩
              subst wq
              go_wp2_with fail
              go_ret
              exact ⟨rfl, B3.out⟩
        · by_cases kl : k = len
          · subst kl
            obtain ⟨Ta, hTa⟩ : ∃ x, x = (zs.take len).sum := ⟨_, rfl⟩
            obtain ⟨Tb, hTb⟩ : ∃ x, x = (zs.drop len).sum := ⟨_, rfl⟩
            have hs : Hid (Ta + Tb = zs.sum) := by
              show _ = _
              rw [hTa, hTb, ← List.sum_append, List.take_append_drop]
            have c3 : Hid (Calls Try.prog 15 #[.slice (some ⟨b, off, none⟩) len cap] (wr.alloc (.cells #[.int .i64 1, .int .i64 2] 34)) fun e w' => e = .returned (.tuple #[.int .i64 (tellv Ta), .int .i64 (telle Ta)]) ∧ w' = (wr.alloc (.cells #[.int .i64 1, .int .i64 2] 34))) := by
              rw [hTa]; exact sum_sl (sl_take (H.out.below B3.out) len (by omega))
            have c4 : Hid (∀ a c, Calls Try.prog 15 #[.slice a 0 c] (wr.alloc (.cells #[.int .i64 1, .int .i64 2] 34)) fun e w' => e = .returned (.tuple #[.int .i64 (tellv Tb), .int .i64 (telle Tb)]) ∧ w' = (wr.alloc (.cells #[.int .i64 1, .int .i64 2] 34))) := by
              rw [hTb, List.drop_of_length_le (by have := H.out.length; omega)]; exact fun a c => sum_none a c _
            clear hTa hTb H
            have fa0 := hide (tellv_bd Ta)
            by_cases fa : -9223372036854775808 ≤ Ta ∧ Ta ≤ 9223372036854775807
            · by_cases fb : -9223372036854775808 ≤ Tb ∧ Tb ≤ 9223372036854775807
              · have ea := (tell_in fa).2
                have eb := (tell_in fb).2
                have c5 : Hid (Calls Try.prog 9 #[.int .i64 (tellv Ta), .int .i64 (tellv Tb)] (wr.alloc (.cells #[.int .i64 1, .int .i64 2] 34)) fun e w' => e = .returned (.tuple #[.int .i64 (tellv zs.sum), .int .i64 (telle zs.sum)]) ∧ w' = (wr.alloc (.cells #[.int .i64 1, .int .i64 2] 34))) := by
                  have := add_any Ta Tb (wr.alloc (.cells #[.int .i64 1, .int .i64 2] 34)) fa.1 fa.2 fb.1 fb.2
                  rw [hs.out] at this
                  rw [(tell_in fa).1, (tell_in fb).1]
                  exact this
                clear fa fb hs
                go_wp2_with fail
                refine c3.out.mono ?_
                rintro e wq ⟨rfl, hwq⟩
                subst wq
                go_wp2_with fail
                all_goals
                  refine (c4.out _ _).mono ?_
                  rintro e wq ⟨rfl, hwq⟩
                  subst wq
                  go_wp2_with fail
                  refine c5.out.mono ?_
                  rintro e wq ⟨rfl, hwq⟩
                  subst wq
                  go_wp2_with fail
                  go_ret
                  exact ⟨rfl, B3.out⟩
              · have ea := (tell_in fa).2
                have eb := (tell_out fb).2
                clear fa fb hs
                go_wp2_with fail
                refine c3.out.mono ?_
                rintro e wq ⟨rfl, hwq⟩
                subst wq
                go_wp2_with fail
                all_goals
                  refine (c4.out _ _).mono ?_
                  rintro e wq ⟨rfl, hwq⟩
                  subst wq
                  go_wp2_with fail
                  go_ret
                  exact ⟨rfl, B3.out⟩
            · have ea := (tell_out fa).2
              clear fa hs
              go_wp2_with fail
              refine c3.out.mono ?_
              rintro e wq ⟨rfl, hwq⟩
              subst wq
              go_wp2_with fail
              all_goals
                refine (c4.out _ _).mono ?_
                rintro e wq ⟨rfl, hwq⟩
                subst wq
                go_wp2_with fail
                go_ret
                exact ⟨rfl, B3.out⟩
          · have kg : (len : Int) < k := by omega
            clear kl
            obtain ⟨Ta, hTa⟩ : ∃ x, x = (zs.take len).sum := ⟨_, rfl⟩
            obtain ⟨Tb, hTb⟩ : ∃ x, x = (zs.drop len).sum := ⟨_, rfl⟩
            have hs : Hid (Ta + Tb = zs.sum) := by
              show _ = _
              rw [hTa, hTb, ← List.sum_append, List.take_append_drop]
            have c3 : Hid (Calls Try.prog 15 #[.slice (some ⟨b, off, none⟩) len cap] (wr.alloc (.cells #[.int .i64 1, .int .i64 2] 34)) fun e w' => e = .returned (.tuple #[.int .i64 (tellv Ta), .int .i64 (telle Ta)]) ∧ w' = (wr.alloc (.cells #[.int .i64 1, .int .i64 2] 34))) := by
              rw [hTa]; exact sum_sl (sl_take (H.out.below B3.out) len (by omega))
            have c4 : Hid (∀ a c, Calls Try.prog 15 #[.slice a 0 c] (wr.alloc (.cells #[.int .i64 1, .int .i64 2] 34)) fun e w' => e = .returned (.tuple #[.int .i64 (tellv Tb), .int .i64 (telle Tb)]) ∧ w' = (wr.alloc (.cells #[.int .i64 1, .int .i64 2] 34))) := by
              rw [hTb, List.drop_of_length_le (by have := H.out.length; omega)]; exact fun a c => sum_none a c _
            clear hTa hTb H
            have fa0 := hide (tellv_bd Ta)
            by_cases fa : -9223372036854775808 ≤ Ta ∧ Ta ≤ 9223372036854775807
            · by_cases fb : -9223372036854775808 ≤ Tb ∧ Tb ≤ 9223372036854775807
              · have ea := (tell_in fa).2
                have eb := (tell_in fb).2
                have c5 : Hid (Calls Try.prog 9 #[.int .i64 (tellv Ta), .int .i64 (tellv Tb)] (wr.alloc (.cells #[.int .i64 1, .int .i64 2] 34)) fun e w' => e = .returned (.tuple #[.int .i64 (tellv zs.sum), .int .i64 (telle zs.sum)]) ∧ w' = (wr.alloc (.cells #[.int .i64 1, .int .i64 2] 34))) := by
                  have := add_any Ta Tb (wr.alloc (.cells #[.int .i64 1, .int .i64 2] 34)) fa.1 fa.2 fb.1 fb.2
                  rw [hs.out] at this
                  rw [(tell_in fa).1, (tell_in fb).1]
                  exact this
                clear fa fb hs
                go_wp2_with fail
                refine c3.out.mono ?_
                rintro e wq ⟨rfl, hwq⟩
                subst wq
                go_wp2_with fail
                all_goals
                  refine (c4.out _ _).mono ?_
                  rintro e wq ⟨rfl, hwq⟩
                  subst wq
                  go_wp2_with fail
                  refine c5.out.mono ?_
                  rintro e wq ⟨rfl, hwq⟩
                  subst wq
                  go_wp2_with fail
                  go_ret
                  exact ⟨rfl, B3.out⟩
              · have ea := (tell_in fa).2
                have eb := (tell_out fb).2
                clear fa fb hs
                go_wp2_with fail
                refine c3.out.mono ?_
                rintro e wq ⟨rfl, hwq⟩
                subst wq
                go_wp2_with fail
                all_goals
                  refine (c4.out _ _).mono ?_
                  rintro e wq ⟨rfl, hwq⟩
                  subst wq
                  go_wp2_with fail
                  go_ret
                  exact ⟨rfl, B3.out⟩
            · have ea := (tell_out fa).2
              clear fa hs
              go_wp2_with fail
              refine c3.out.mono ?_
              rintro e wq ⟨rfl, hwq⟩
              subst wq
              go_wp2_with fail
              all_goals
                refine (c4.out _ _).mono ?_
                rintro e wq ⟨rfl, hwq⟩
                subst wq
                go_wp2_with fail
                go_ret
                exact ⟨rfl, B3.out⟩
end NumOrder
end Go.Proofs.Ytgmnhpelncbknaa
