/- Which lists are tables: the landed Check and the document's. No condition but that the list can be read. -/
import Derived.Test.YtbeikdppcfpplaaSesSmall
namespace Go.Proofs.Ytbeikdppcfpplaa
open Go.ChangeShapes Go.WideShapes Go.ChangeAt Go.RowKit Sn
set_option linter.unusedVariables false

theorem right_drop {l : List Mk} {k : Nat} {x : Mk} {b : Int} (hk : l[k]? = some x) : rightB b (l.drop k) = (decide (b < x.c) && mayB x && rightB x.c (l.drop (k + 1))) := by
  have hlt := (List.getElem?_eq_some_iff.1 hk).1
  rw [List.drop_eq_getElem_cons hlt]
  rw [(List.getElem?_eq_some_iff.1 hk).2]
  rfl
set_option maxRecDepth 100000 in
theorem check_any {w : World} {a : Option Addr} {n c : Nat} {l : List Mk} (h : Ms w a n l) :
    Calls Try.prog 20 #[.slice a n c] w fun e w' => e = .returned (.int .i64 (checkE l)) ∧ Below w.heap.size w w' := by
  have H := hide h
  have hr := h.room
  have hl := h.len
  clear h
  go_enter Try.func20, Try.ntmps20
  go_wp2_with fail
  go_loopw [3, 5, 8] (fun bv _ iv wr => ∃ (k : Nat) (b : Int), k ≤ n ∧ bv = .int .i64 b ∧ iv = .int .i64 k ∧ Hid (Below w.heap.size w wr) ∧ Hid (rightB 0 l = rightB b (l.drop k))) (fun _ _ iv _ => n - (intOf iv).toNat)
  case atStart => exact ⟨0, 0, Nat.zero_le _, rfl, rfl, Below.refl _ _, rfl⟩
  case round =>
    obtain ⟨k, b, hk, rfl, rfl, HB, HR⟩ := hrel
    by_cases hlt : k < n
    · obtain ⟨bb, off, x, rfl, hx, hb, M⟩ := ms_at (H.out.below HB.out) hlt
      have HX := hide (right_drop (b := b) hx)
      obtain ⟨c0, c1, c2, c3, c4, c5, c6⟩ := M
      have i1 : (k : Int) < (n : Int) := by omega
      have i2 : (0 : Int) ≤ (k : Int) := by omega
      have CM := fun W => hide (may_any x W)
      unfold mval at CM
      clear hx hb hl
      by_cases hbx : b < x.c
      · have g1 : ¬ x.c ≤ b := by omega
        generalize hmq : mayB x = q at CM HX
        have HQ := hide hmq
        clear hmq
        cases q
        · go_wp2_with fail
          refine (CM _).out.mono ?_
          rintro e w1 ⟨rfl, hb1⟩
          have HB1 := hide hb1
          clear hb1
          go_wp2_with fail
          go_returns
          refine ⟨?_, ?_⟩
          · rw [checkE, HR.out, HX.out]; simp
          · exact HB.out.trans ((Below.alloc (Below.refl _ _) (Nat.le_refl _) _ |>.trans (HB1.out.mono (by simp))).mono HB.out.size)
        · go_wp2_with fail
          refine (CM _).out.mono ?_
          rintro e w1 ⟨rfl, hb1⟩
          have d0 : w1.cell? ⟨wr.heap.size, 0, none⟩ = some (.int .i64 x.c) := by rw [hb1.cell (by simp)]; simp
          have HB1 := hide hb1
          clear hb1
          go_wp2_with fail
          go_roundw
          case rel =>
            refine ⟨k + 1, x.c, by omega, rfl, by go_num, ?_, ?_⟩
            · exact HB.out.trans ((Below.alloc (Below.refl _ _) (Nat.le_refl _) _ |>.trans (HB1.out.mono (by simp))).mono HB.out.size)
            · show _ = _
              rw [HR.out, HX.out]
              simp [hbx]
          case measure => simp [intOf]; omega
      · have g1 : x.c ≤ b := by omega
        clear CM
        go_wp2_with fail
        go_returns
        refine ⟨?_, ?_⟩
        · rw [checkE, HR.out, HX.out, decide_eq_false (show ¬ b < x.c by omega)]
          rfl
        · exact HB.out.alloc HB.out.size _
    · obtain rfl : k = n := by omega
      go_wp2_with fail
      go_returns
      refine ⟨?_, HB.out⟩
      rw [checkE, HR.out, List.drop_of_length_le (by omega)]
      rfl
set_option maxRecDepth 100000 in
set_option maxHeartbeats 1000000 in
theorem rright_any {w : World} {a : Option Addr} {n c : Nat} {l : List Mk} (h : Ms w a n l) :
    Calls Try.prog 10 #[.slice a n c] w fun e w' => e = .returned (.bool (rightB 0 l)) ∧ Below w.heap.size w w' := by
  have H := hide h
  have hr := h.room
  have hl := h.len
  clear h
  go_enter Try.func10, Try.ntmps10
  go_wp2_with fail
  go_loopw [3, 4, 5] (fun bv iv _ wr => ∃ (k : Nat) (b : Int), k ≤ n ∧ bv = .int .i64 b ∧ iv = .int .i64 k ∧ Hid (0 ≤ b) ∧ Hid (Below w.heap.size w wr) ∧ Hid (rightB 0 l = rightB b (l.drop k))) (fun _ iv _ _ => n - (intOf iv).toNat)
  case atStart => exact ⟨0, 0, Nat.zero_le _, rfl, rfl, Int.le_refl _, Below.refl _ _, rfl⟩
  case round =>
    obtain ⟨k, b, hk, rfl, rfl, HP, HB, HR⟩ := hrel
    by_cases hlt : k < n
    · obtain ⟨bb, off, x, rfl, hx, hb, M⟩ := ms_at (H.out.below HB.out) hlt
      have HX := hide (right_drop (b := b) hx)
      obtain ⟨c0, c1, c2, c3, c4, c5, c6⟩ := M
      have i1 : (k : Int) < (n : Int) := by omega
      have i2 : (0 : Int) ≤ (k : Int) := by omega
      clear hx hb hl
      have HW : Hid (Below w.heap.size w (wr.alloc (.cells #[.int .i64 x.c, .int .i64 x.s, .bool x.o, .int .i64 x.a.e, .int .i64 x.a.v, .int .i64 x.a.lo, .int .i64 x.a.hi] 29))) := HB.out.alloc HB.out.size _
      obtain ⟨xc, xs, xo, ⟨xe, xv, xl, xh⟩⟩ := x
      simp only at HX HW c0 c1 c2 c3 c4 c5 c6
      cases hq : (decide (b < xc) && mayB ⟨xc, xs, xo, ⟨xe, xv, xl, xh⟩⟩)
      · have HQ := hide hq
        rw [hq] at HX
        clear hq
        cases xo
        all_goals
          go_wp2_with fail
          all_goals
            first
              | (go_returns
                 refine ⟨?_, HB.out.alloc HB.out.size _⟩
                 rw [HR.out, HX.out]
                 rfl)
              | (exfalso
                 have h1 := HQ.out
                 have h2 := HP.out
                 rename_i z1 z2 z3 z4 z5
                 simp [mayB, cliB, an0] at h1
                 omega)
              | (exfalso
                 have h1 := HQ.out
                 have h2 := HP.out
                 rename_i z1 z2 z3 z4
                 simp [mayB, cliB, an0] at h1
                 omega)
      · rw [hq] at HX
        simp only [Bool.and_eq_true, decide_eq_true_eq] at hq
        obtain ⟨f1, f2⟩ := hq
        have f3 := mayB_cli f2
        have f4 := mayB_seq f2
        have f5 := mayB_open f2
        simp only at f3 f4 f5
        have g1 : ¬ xc ≤ b := by omega
        have g2 : ¬ 8 < xc := by omega
        have g3 : ¬ xs < 0 := by omega
        have g4 : ¬ 4611686018427387904 < xs := by omega
        have HPc : Hid (0 ≤ xc) := show 0 ≤ xc by omega
        have HX2 : Hid (rightB 0 l = rightB xc (l.drop (k + 1))) := by show _ = _; rw [HR.out, HX.out]; rfl
        clear f1 f2 f3 f4
        cases xo
        · clear f5
          go_wp2_with fail
          go_roundw
          case rel => exact ⟨k + 1, xc, by omega, rfl, by go_num, HPc, HW, HX2⟩
          case measure => simp [intOf]; omega
        · obtain ⟨f6, f7⟩ := f5 rfl
          have g5 : ¬ xs < 1 := by omega
          simp only [an0, An.mk.injEq] at f7
          obtain ⟨rfl, rfl, rfl, rfl⟩ := f7
          clear f5 f6
          go_wp2_with fail
          go_roundw
          case rel => exact ⟨k + 1, xc, by omega, rfl, by go_num, HPc, HW, HX2⟩
          case measure => simp [intOf]; omega
    · obtain rfl : k = n := by omega
      go_wp2_with fail
      go_returns
      refine ⟨?_, HB.out⟩
      rw [HR.out, List.drop_of_length_le (by omega)]
      rfl
end Go.Proofs.Ytbeikdppcfpplaa
