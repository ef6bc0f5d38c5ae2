/- Which lists are tables: the landed Check and the document's. No condition but that the list can be read. -/
import Derived.Test.YtbeikdppcfpplabSesSmall
namespace Go.Proofs.Ytbeikdppcfpplab
open Go.ChangeShapes Go.WideShapes Go.ChangeAt Go.RowKit Sn
set_option linter.unusedVariables false

theorem right_drop {l : List Mk} {k : Nat} {x : Mk} {b : Int} (hk : l[k]? = some x) : rightB b (l.drop k) = (decide (b < x.c) && mayB x && rightB x.c (l.drop (k + 1))) := by
  have hlt := (List.getElem?_eq_some_iff.1 hk).1
  rw [List.drop_eq_getElem_cons hlt]
  rw [(List.getElem?_eq_some_iff.1 hk).2]
  rfl
set_option maxRecDepth 100000 in
theorem check_any {w : World} {a : Option Addr} {n c : Nat} {l : List Mk} (h : Ms w a n l) :
    Calls Try.prog 5 #[.slice a n c] w fun e w' => e = .returned (.int .i64 (checkE l)) ∧ Below w.heap.size w w' := by
  have H := hide h
  have hr := h.room
  have hl := h.len
  clear h
  go_enter Try.func5, Try.ntmps5
  go_wp2_with fail
  go_loopw [3, 5, 8] (fun bv _ iv wr => ∃ (k : Nat) (b : Int), k ≤ n ∧ bv = .int .i64 b ∧ iv = .int .i64 k ∧ Hid (Below w.heap.size w wr) ∧ Hid (rightB 0 l = rightB b (l.drop k))) (fun _ _ iv _ => n - (intOf iv).toNat)
  case atStart => exact ⟨0, 0, Nat.zero_le _, rfl, rfl, Below.refl _ _, rfl⟩
  case round =>
    obtain ⟨k, b, hk, rfl, rfl, HB, HR⟩ := hrel
    by_cases hlt : k < n
    · obtain ⟨bb, off, x, rfl, hx, hb, M⟩ := ms_at (H.out.below HB.out) hlt
      have HX := hide (right_drop (b := b) hx)
      obtain ⟨c0, c1, c2, c3, c4, c5, c6⟩ := M
      have i1 : (k : Int) < (n : Int) := by omega
      have i2 : (0 : Int) ≤ (k : Int) := by omega
      have CM := fun W => hide (may_any x W)
      unfold mval at CM
      clear hx hb hl
      by_cases hbx : b < x.c
      · have g1 : ¬ x.c ≤ b := by omega
        generalize hmq : mayB x = q at CM HX
        have HQ := hide hmq
        clear hmq
        cases q
        · go_wp2_with fail
          refine (CM _).out.mono ?_
          rintro e w1 ⟨rfl, hb1⟩
          have HB1 := hide hb1
          clear hb1
          go_wp2_with fail
          go_returns
          refine ⟨?_, ?_⟩
          · rw [checkE, HR.out, HX.out]; simp
          · exact HB.out.trans ((Below.alloc (Below.refl _ _) (Nat.le_refl _) _ |>.trans (HB1.out.mono (by simp))).mono HB.out.size)
        · go_wp2_with fail
          refine (CM _).out.mono ?_
          rintro e w1 ⟨rfl, hb1⟩
          have d0 : w1.cell? ⟨wr.heap.size, 0, none⟩ = some (.int .i64 x.c) := by rw [hb1.cell (by simp)]; simp
          have HB1 := hide hb1
          clear hb1
          go_wp2_with fail
          go_roundw
          case rel =>
            refine ⟨k + 1, x.c, by omega, rfl, by go_num, ?_, ?_⟩
            · exact HB.out.trans ((Below.alloc (Below.refl _ _) (Nat.le_refl _) _ |>.trans (HB1.out.mono (by simp))).mono HB.out.size)
            · show _ = _
              rw [HR.out, HX.out]
              simp [hbx]
          case measure => simp [intOf]; omega
      · have g1 : x.c ≤ b := by omega
        clear CM
        go_wp2_with fail
        go_returns
        refine ⟨?_, ?_⟩
        · rw [checkE, HR.out, HX.out, decide_eq_false (show ¬ b < x.c by omega)]
          rfl
        · exact HB.out.alloc HB.out.size _
    · obtain rfl : k = n := by omega
      go_wp2_with fail
      go_returns
      refine ⟨?_, HB.out⟩
      rw [checkE, HR.out, List.drop_of_length_le (by omega)]
      rfl
end Go.Proofs.Ytbeikdppcfpplab
