/- What Join answers: the landed code. Condition: the lists can be read. -/
import Derived.Test.YtbeikdppcfpplaaSesCalls
import Derived.Test.YtbeikdppcfpplaaHeld
namespace Go.Proofs.Ytbeikdppcfpplaa
open Go.ChangeShapes Go.WideShapes Go.ChangeAt Go.RowKit Sn
set_option linter.unusedVariables false

set_option maxRecDepth 100000 in
set_option maxHeartbeats 1000000 in
theorem join_no {w : World} {a a' : Option Addr} {n cp n' cp' : Nat} {l l' : List Mk} (h : Ms w a n l) (h' : Ms w a' n' l') (hn : (rightB 0 l && rightB 0 l') = false) :
    Calls Try.prog 23 #[.slice a n cp, .slice a' n' cp'] w fun e w' => e = .returned (.tuple #[.slice none 0 0, .int .i64 21]) ∧ Below w.heap.size w w' := by
  have CA := fun W => hide (fun hW : Below w.heap.size w W => check_any (c := cp) (h.below hW))
  have CB := fun W => hide (fun hW : Below w.heap.size w W => check_any (c := cp') (h'.below hW))
  clear h h'
  cases hq : rightB 0 l with
  | false =>
    rw [check_no hq] at CA
    clear hn hq CB
    go_enter Try.func23, Try.ntmps23
    go_wp2_with fail
    refine ((CA _).out (Below.refl _ _)).mono ?_
    rintro e w1 ⟨rfl, hb1⟩
    have HB1 := hide hb1
    clear hb1 CA
    go_wp2_with fail
    go_returns
    exact ⟨rfl, HB1.out⟩
  | true =>
    rw [hq, Bool.true_and] at hn
    rw [check_ok hq] at CA
    rw [check_no hn] at CB
    clear hn hq
    go_enter Try.func23, Try.ntmps23
    go_wp2_with fail
    refine ((CA _).out (Below.refl _ _)).mono ?_
    rintro e w1 ⟨rfl, hb1⟩
    have HB1 := hide hb1
    clear hb1 CA
    go_wp2_with fail
    refine ((CB _).out HB1.out).mono ?_
    rintro e w2 ⟨rfl, hb2⟩
    have HB2 : Hid (Below w.heap.size w w2) := HB1.out.trans (hb2.mono HB1.out.size)
    clear hb2 CB
    go_wp2_with fail
    go_returns
    exact ⟨rfl, HB2.out⟩
set_option maxRecDepth 100000 in
set_option maxHeartbeats 2000000 in
theorem join_yes {w : World} {a a' : Option Addr} {n cp n' cp' : Nat} {l l' : List Mk} (h : Ms w a n l) (h' : Ms w a' n' l') (hr : Right l) (hr' : Right l') :
    Calls Try.prog 23 #[.slice a n cp, .slice a' n' cp'] w fun e w' => ∃ a2 n2 c2, e = .returned (.tuple #[.slice a2 n2 c2, .int .i64 0]) ∧ Ms w' a2 n2 (joinK l l' n') ∧ Below w.heap.size w w' := by
  have CA := fun W => hide (fun hW : Below w.heap.size w W => check_any (c := cp) (h.below hW))
  have CB := fun W => hide (fun hW : Below w.heap.size w W => check_any (c := cp') (h'.below hW))
  rw [check_ok hr] at CA
  rw [check_ok hr'] at CB
  have CL := fun W => hide (fun hW : Below w.heap.size w W => FnM.clone_any (cv := cp) (h.below hW))
  have hroom := h.room
  have hroom' := h'.room
  have HL' : Hid (l'.length = n') := h'.len
  have HR := hide hr
  have HR' := hide hr'
  have H' := hide h'
  clear h h' hr hr'
  go_enter Try.func23, Try.ntmps23
  go_wp2_with fail
  refine ((CA _).out (Below.refl _ _)).mono ?_
  rintro e w1 ⟨rfl, hb1⟩
  have HB1 := hide hb1
  clear hb1 CA
  go_wp2_with fail
  refine ((CB _).out HB1.out).mono ?_
  rintro e w2 ⟨rfl, hb2⟩
  have HB2 : Hid (Below w.heap.size w w2) := HB1.out.trans (hb2.mono HB1.out.size)
  clear hb2 CB HB1
  go_wp2_with fail
  refine ((CL _).out HB2.out).mono ?_
  rintro e w3 ⟨a3, c3, rfl, hb3, hm3⟩
  have HM3 : Hid (Ms w3 a3 n l) := ms_row hm3 hroom
  have HB3 : Hid (Below w.heap.size w w3) := HB2.out.trans (hb3.mono HB2.out.size)
  clear hm3 hb3 CL HB2
  go_wp2_with fail
  go_loopw [6, 8, 9, 10, 23] (fun s6 _ _ _ s23 wr => ∃ (k : Nat) (a1 : Option Addr) (n1 c1 : Nat), k ≤ n' ∧ s6 = .slice a1 n1 c1 ∧ s23 = .int .i64 k ∧ Hid (Below w.heap.size w wr) ∧ Hid (Ms wr a1 n1 (joinK l l' k))) (fun _ _ _ _ iv _ => n' - (intOf iv).toNat)
  case atStart => exact ⟨0, a3, n, c3, Nat.zero_le _, rfl, rfl, HB3, by rw [joinK_zero HR.out]; exact HM3⟩
  case round =>
    clear HM3 HB3
    obtain ⟨k, a1, n1, c1, hk, rfl, rfl, HB, HM⟩ := hrel
    by_cases hlt : k < n'
    · obtain ⟨bb, off, m, rfl, hx, hb, M⟩ := ms_at (H'.out.below HB.out) hlt
      obtain ⟨c0, c1', c2, c3', c4, c5, c6⟩ := M
      have i1 : (k : Int) < (n' : Int) := by omega
      have i2 : (0 : Int) ≤ (k : Int) := by omega
      have HN := hide (joinK_next HR.out HR'.out hx)
      have HRK : Hid (Right (joinK l l' k)) := joinK_right HR.out HR'.out k
      have HMY : Hid (mayB m = true) := (right_mem HR'.out m (List.mem_of_getElem? hx)).2
      clear hx hb
      obtain ⟨L, eL⟩ : ∃ L, L = joinK l l' k := ⟨_, rfl⟩
      rw [← eL] at HM HN HRK
      clear eL
      have hn1 : n1 ≤ 8 := by rw [← HM.out.len]; exact right_length HRK.out
      have PL := fun W => hide (fun hW : Below wr.heap.size wr W => place_any (cp := c1) (c := m.c) (HM.out.below hW) HRK.out)
      have WI := fun W => hide (fun hW : Below wr.heap.size wr W => with_any (cp := c1) (HM.out.below hW) HRK.out HMY.out)
      unfold mval at WI
      obtain ⟨p, ep⟩ : ∃ p, p = posL m.c L := ⟨_, rfl⟩
      have HA : Hid (lkM L m.c = match L[p]? with | some x => if x.c = m.c then some x else none | none => none) := by show _ = _; rw [ep]; exact posL_at HRK.out
      rw [← ep] at PL
      clear ep
      have BX : Hid (Below wr.heap.size wr (wr.alloc (.cells #[.int .i64 m.c, .int .i64 m.s, .bool m.o, .int .i64 m.a.e, .int .i64 m.a.v, .int .i64 m.a.lo, .int .i64 m.a.hi] 29))) := (Below.refl _ _).alloc (Nat.le_refl _) _
      cases hq : lkM L m.c with
      | none =>
        rw [hq] at PL HN
        simp only [if_true] at HN
        clear hq HA
        go_wp2_with fail
        refine ((PL _).out BX.out).mono ?_
        rintro e w4 ⟨rfl, hb4⟩
        have HX4 : Hid (w4.heap[wr.heap.size]? = some (.cells #[.int .i64 m.c, .int .i64 m.s, .bool m.o, .int .i64 m.a.e, .int .i64 m.a.v, .int .i64 m.a.lo, .int .i64 m.a.hi] 29 (0, 0))) := (hb4.block _ (by simp)).trans (heap_alloc_new wr _)
        have HB4 : Hid (Below wr.heap.size wr w4) := BX.out.trans (hb4.mono BX.out.size)
        clear hb4 PL c0 c1' c2 c3' c4 c5 c6
        go_wp2_with fail
        refine wp_region_cells w4 [] (by kernel_rfl) (by kernel_rfl) (Below.refl _ _) trivial ?_
        intro hne qq
        repeat (go_big_quiet_step (fail))
        refine wpQuiet_nil ?_
        rintro _ ⟨y5, rfl⟩
        have HB5 : Hid (Below wr.heap.size wr y5.x) := HB4.out.trans (y5.below.mono HB4.out.size)
        have HX5 : Hid (y5.x.heap[wr.heap.size]? = some (.cells #[.int .i64 m.c, .int .i64 m.s, .bool m.o, .int .i64 m.a.e, .int .i64 m.a.v, .int .i64 m.a.lo, .int .i64 m.a.hi] 29 (0, 0))) := (y5.below.block _ (Array.getElem?_eq_some_iff.1 HX4.out).1).trans HX4.out
        obtain ⟨x0, x1, x2, x3, x4, x5, x6⟩ := mk_row m HX5.out
        clear qq hne
        go_wp2_with fail
        refine ((WI _).out HB5.out).mono ?_
        rintro e w6 ⟨a6, n6, c6, rfl, hm6, hb6⟩
        have HM6 : Hid (Ms w6 a6 n6 (joinK l l' (k + 1))) := by show Ms _ _ _ _; rw [HN.out]; exact hm6
        have HB6 : Hid (Below w.heap.size w w6) := HB.out.trans ((HB5.out.trans (hb6.mono HB5.out.size)).mono HB.out.size)
        clear hm6 hb6
        go_wp2_with fail
        go_roundw
        case rel => exact ⟨k + 1, _, _, _, by omega, rfl, by go_num, HB6, HM6⟩
        case measure => simp [intOf]; omega
      | some y =>
        rw [hq] at PL HN HA
        simp only at HN
        have HP : Hid (L[p]? = some y) := by
          have := HA.out
          show _ = _
          cases e : L[p]? with
          | none => rw [e] at this; cases this
          | some x =>
            rw [e] at this
            simp only at this
            by_cases e2 : x.c = m.c
            · rw [if_pos e2] at this
              exact this.symm
            · rw [if_neg e2] at this
              cases this
        have hpn : p < n1 := by rw [← HM.out.len]; exact (List.getElem?_eq_some_iff.1 HP.out).1
        have HS : ∀ W, Hid (Below wr.heap.size wr W → ∃ b' off', a1 = some ⟨b', off', none⟩ ∧ MkAt W b' (off' + p * 7) y) := fun W hW => by
          obtain ⟨b', off', z, e, hz, _, M⟩ := ms_at (HM.out.below hW) hpn
          rw [HP.out] at hz
          exact ⟨b', off', e, Option.some.inj hz ▸ M⟩
        have AH := fun W => hide (ahead_any m y W)
        unfold mval at AH
        have i3 : (p : Int) < (n1 : Int) := by omega
        clear hq HA
        go_wp2_with fail
        refine ((PL _).out BX.out).mono ?_
        rintro e w4 ⟨rfl, hb4⟩
        have HX4 : Hid (w4.heap[wr.heap.size]? = some (.cells #[.int .i64 m.c, .int .i64 m.s, .bool m.o, .int .i64 m.a.e, .int .i64 m.a.v, .int .i64 m.a.lo, .int .i64 m.a.hi] 29 (0, 0))) := (hb4.block _ (by simp)).trans (heap_alloc_new wr _)
        have HB4 : Hid (Below wr.heap.size wr w4) := BX.out.trans (hb4.mono BX.out.size)
        obtain ⟨b', off', rfl, M'⟩ := (HS w4).out HB4.out
        clear hb4 PL c0 c1' c2 c3' c4 c5 c6 HS
        obtain ⟨x0, x1, x2, x3, x4, x5, x6⟩ := mk_row m HX4.out
        obtain ⟨y0, y1, y2, y3, y4, y5', y6⟩ := M'
        cases hah : aheadB m y with
        | false =>
          rw [hah] at AH
          have HN2 : Hid (joinK l l' (k + 1) = L) := by show _ = _; rw [HN.out]; simp [hah]
          clear hah WI HN
          go_wp2_with fail
          refine wp_region_cells w4 [(⟨wr.heap.size, 0, none⟩, .int .i64 m.c), (⟨wr.heap.size, 1, none⟩, .int .i64 m.s), (⟨wr.heap.size, 2, none⟩, .bool m.o), (⟨wr.heap.size, 3, none⟩, .int .i64 m.a.e), (⟨wr.heap.size, 4, none⟩, .int .i64 m.a.v), (⟨wr.heap.size, 5, none⟩, .int .i64 m.a.lo), (⟨wr.heap.size, 6, none⟩, .int .i64 m.a.hi), (⟨b', off' + p * 7, none⟩, .int .i64 y.c), (⟨b', off' + p * 7 + 1, none⟩, .int .i64 y.s), (⟨b', off' + p * 7 + 2, none⟩, .bool y.o), (⟨b', off' + p * 7 + 3, none⟩, .int .i64 y.a.e), (⟨b', off' + p * 7 + 4, none⟩, .int .i64 y.a.v), (⟨b', off' + p * 7 + 5, none⟩, .int .i64 y.a.lo), (⟨b', off' + p * 7 + 6, none⟩, .int .i64 y.a.hi)] (by kernel_rfl) (by kernel_rfl) (Below.refl _ _) (by simp [AllCells, x0, x1, x2, x3, x4, x5, x6, y0, y1, y2, y3, y4, y5', y6]) ?_
          intro hne qq
          simp only [AllCells, and_true] at qq
          clear x0 x1 x2 x3 x4 x5 x6 y0 y1 y2 y3 y4 y5' y6
          repeat (go_big_quiet_step (first | (go_at_call 37; exact Held.call _ (AH _).out)))
          refine wpQuiet_nil ?_
          rintro _ ⟨y5, rfl⟩
          have HB5 : Hid (Below w.heap.size w y5.x) := HB.out.trans ((HB4.out.trans (y5.below.mono HB4.out.size)).mono HB.out.size)
          have HM6 : Hid (Ms y5.x (some ⟨b', off', none⟩) n1 (joinK l l' (k + 1))) := by show Ms _ _ _ _; rw [HN2.out]; exact HM.out.below (HB4.out.trans (y5.below.mono HB4.out.size))
          clear qq hne
          go_wp2_with fail
          go_roundw
          case rel => exact ⟨k + 1, _, _, _, by omega, rfl, by go_num, HB5, HM6⟩
          case measure => simp [intOf]; omega
        | true =>
          rw [hah] at AH
          have HN2 : Hid (joinK l l' (k + 1) = withL L m) := by show _ = _; rw [HN.out]; simp [hah]
          clear hah HN
          have HN := HN2
          clear HN2
          go_wp2_with fail
          refine wp_region_cells w4 [(⟨wr.heap.size, 0, none⟩, .int .i64 m.c), (⟨wr.heap.size, 1, none⟩, .int .i64 m.s), (⟨wr.heap.size, 2, none⟩, .bool m.o), (⟨wr.heap.size, 3, none⟩, .int .i64 m.a.e), (⟨wr.heap.size, 4, none⟩, .int .i64 m.a.v), (⟨wr.heap.size, 5, none⟩, .int .i64 m.a.lo), (⟨wr.heap.size, 6, none⟩, .int .i64 m.a.hi), (⟨b', off' + p * 7, none⟩, .int .i64 y.c), (⟨b', off' + p * 7 + 1, none⟩, .int .i64 y.s), (⟨b', off' + p * 7 + 2, none⟩, .bool y.o), (⟨b', off' + p * 7 + 3, none⟩, .int .i64 y.a.e), (⟨b', off' + p * 7 + 4, none⟩, .int .i64 y.a.v), (⟨b', off' + p * 7 + 5, none⟩, .int .i64 y.a.lo), (⟨b', off' + p * 7 + 6, none⟩, .int .i64 y.a.hi)] (by kernel_rfl) (by kernel_rfl) (Below.refl _ _) (by simp [AllCells, x0, x1, x2, x3, x4, x5, x6, y0, y1, y2, y3, y4, y5', y6]) ?_
          intro hne qq
          simp only [AllCells, and_true] at qq
          clear x0 x1 x2 x3 x4 x5 x6 y0 y1 y2 y3 y4 y5' y6
          repeat (go_big_quiet_step (first | (go_at_call 37; exact Held.call _ (AH _).out)))
          refine wpQuiet_nil ?_
          rintro _ ⟨y5, rfl⟩
          have HB5 : Hid (Below wr.heap.size wr y5.x) := HB4.out.trans (y5.below.mono HB4.out.size)
          have HX5 : Hid (y5.x.heap[wr.heap.size]? = some (.cells #[.int .i64 m.c, .int .i64 m.s, .bool m.o, .int .i64 m.a.e, .int .i64 m.a.v, .int .i64 m.a.lo, .int .i64 m.a.hi] 29 (0, 0))) := (y5.below.block _ (Array.getElem?_eq_some_iff.1 HX4.out).1).trans HX4.out
          obtain ⟨x0, x1, x2, x3, x4, x5, x6⟩ := mk_row m HX5.out
          clear qq hne
          go_wp2_with fail
          refine ((WI _).out HB5.out).mono ?_
          rintro e w6 ⟨a6, n6, c6, rfl, hm6, hb6⟩
          have HM6 : Hid (Ms w6 a6 n6 (joinK l l' (k + 1))) := by show Ms _ _ _ _; rw [HN.out]; exact hm6
          have HB6 : Hid (Below w.heap.size w w6) := HB.out.trans ((HB5.out.trans (hb6.mono HB5.out.size)).mono HB.out.size)
          clear hm6 hb6
          go_wp2_with fail
          go_roundw
          case rel => exact ⟨k + 1, _, _, _, by omega, rfl, by go_num, HB6, HM6⟩
          case measure => simp [intOf]; omega
    · obtain rfl : k = n' := by omega
      go_wp2_with fail
      go_returns
      exact ⟨_, _, _, rfl, HM.out, HB.out⟩
theorem join_any {w : World} {a a' : Option Addr} {n cp n' cp' : Nat} {l l' : List Mk} (h : Ms w a n l) (h' : Ms w a' n' l') :
    Calls Try.prog 23 #[.slice a n cp, .slice a' n' cp'] w fun e w' => ∃ a2 n2 c2, e = .returned (.tuple #[.slice a2 n2 c2, .int .i64 (joinE l l')]) ∧ Ms w' a2 n2 (joinL l l') ∧ Below w.heap.size w w' := by
  cases hq : (rightB 0 l && rightB 0 l') with
  | false =>
    have e1 : joinE l l' = 21 := by unfold joinE; rw [hq]; rfl
    have e2 : joinL l l' = [] := by unfold joinL; rw [e1]; rfl
    rw [e1, e2]
    refine (join_no h h' hq).mono ?_
    rintro e w1 ⟨rfl, hb⟩
    exact ⟨_, _, _, rfl, Rl.nil _, hb⟩
  | true =>
    have e1 : joinE l l' = 0 := by unfold joinE; rw [hq]; rfl
    simp only [Bool.and_eq_true] at hq
    rw [e1, ← joinK_all hq.1 hq.2, h'.len]
    exact join_yes h h' hq.1 hq.2
end Go.Proofs.Ytbeikdppcfpplaa
