/- The law folder's ran: a log of numbers on which calls were carried out. No condition. -/
import Derived.Test.YtcbijiielikfmaaSlotsOpl
import Derived.Test.YtcbijiielikfmaaSlotsNextI
import Derived.Deep.RegionHeld3
namespace Go.Proofs.Ytcbijiielikfmaa
open Go.ChangeShapes Go.WideShapes Go.ChangeAt Go.RowKit Sx Li
set_option linter.unusedVariables false

set_option maxRecDepth 100000 in
set_option maxHeartbeats 1000000 in
theorem ran_any {w : World} {a : Option Addr} {len cap : Nat} {os : Nat → Opd} (f m : Int) (h : Ops w a len os) :
    Calls Try.prog 19 #[.int .i64 f, .int .i64 m, .slice a len cap] w fun e w' => ∃ D s, e = .returned (.pointer (some ⟨D, 0, none⟩)) ∧ Below w.heap.size w w' ∧ LgN w' w.heap.size D s ∧ s.most = (newS Al f m).most := by
  have H := hide h
  have RM := h.room
  have NY := hide (new_next w f m)
  clear h
  go_enter Try.func19, Try.ntmps19
  go_wp2_with fail
  refine NY.out.mono ?_
  rintro e w1 ⟨rfl, hb, hd⟩
  have B1 := hide hb
  have D1 : Hid (LgN w1 w.heap.size w.heap.size (newS Al f m)) := hd
  generalize eD : w.heap.size = D at D1 ⊢
  have ED := hide eD
  clear hb hd NY eD
  go_wp2_with fail
  go_loopw [8] (fun i wr => ∃ (k : Nat) (s : Ss Al), k ≤ len ∧ i = .int .i64 k ∧ Hid (Below w.heap.size w wr) ∧ Hid (LgN wr w.heap.size D s ∧ s.most = (newS Al f m).most)) (fun i _ => len - (intOf i).toNat)
  case atStart => exact ⟨0, _, by omega, rfl, B1, by rw [ED.out]; exact ⟨D1.out, rfl⟩⟩
  case round =>
    clear D1 B1
    obtain ⟨k, s, hk, rfl, HB, HD⟩ := hrel
    have NW : Hid (w.heap.size ≤ wr.heap.size) := HB.out.size
    by_cases hlt : k < len
    · obtain ⟨ob, off, rfl, oblt, hoc⟩ := H.out.cells (by omega)
      have SZ := hide (H.out.each k hlt)
      have hr := rangeAt_same (hoc k hlt) (HB.out.block ob oblt)
      generalize os k = o at *
      obtain ⟨kind, i, v⟩ := o
      obtain ⟨o0, o1, o2⟩ := opc_cells hr
      have OB : Hid (ob < w.heap.size) := oblt
      clear hr hoc oblt
      have i1 : (k : Int) < (len : Int) := by omega
      have i2 : (0 : Int) ≤ (k : Int) := by omega
      by_cases k1 : kind = 1
      · subst k1
        have CS := hide (get_next HD.out.1 i)
        go_wp2_with fail
        refine CS.out.mono ?_
        rintro e w4 ⟨rfl, q, rfl⟩
        go_wp2_with fail
        go_roundw
        case rel => exact ⟨k + 1, s, by omega, by go_num, HB.out.trans (blw_drewN _ _ _), HD.out.1.drewN q, HD.out.2⟩
        case measure => simp [intOf]; omega
      · have z1 : (kind == 1) = false := by simpa using k1
        by_cases k2 : kind = 2
        · subst k2
          have CT := hide (cut_next HD.out.1 NW.out i)
          go_wp2_with fail
          refine CT.out.mono ?_
          rintro e w4 ⟨rfl, h4, b4⟩
          have H4 := hide (And.intro h4 b4)
          have MM : Hid ((cutS s i).most = s.most) := by show _ = _; unfold cutS; split <;> rfl
          clear h4 b4
          go_wp2_with fail
          go_roundw
          case rel => exact ⟨k + 1, cutS s i, by omega, by go_num, HB.out.trans H4.out.2, H4.out.1, MM.out.trans HD.out.2⟩
          case measure => simp [intOf]; omega
        · have z2 : (kind == 2) = false := by simpa using k2
          have CS := hide (put_next (HD.out.1.drewN 1) (show w.heap.size ≤ (wr.drewN 1).heap.size from NW.out) i SZ.out.2.2 (v.size : Int))
          simp only [va] at CS
          have MM : Hid ((putS s i (v.size : Int)).most = s.most) := by show _ = _; unfold putS; split <;> rfl
          go_wp2_with fail
          go_region_held3 (fun u => u.cell? ⟨ob, off + k * 3 + 1, none⟩ = some (.int .i64 i) ∧ u.cell? ⟨ob, off + k * 3 + 2, none⟩ = some (.string v)) (first | go_keep | exact ⟨o1, o2⟩ | exact ⟨q1, q2⟩) ((first | (go_at_call 26; refine CS.out.mono ?_; rintro e w4 ⟨rfl, h4, b4⟩; have MV := hide (And.intro h4 b4); have q1 : w4.cell? ⟨ob, off + k * 3 + 1, none⟩ = some (.int .i64 i) := (MV.out.2.cell (p := ⟨ob, off + k * 3 + 1, none⟩) OB.out).trans o1; have q2 : w4.cell? ⟨ob, off + k * 3 + 2, none⟩ = some (.string v) := (MV.out.2.cell (p := ⟨ob, off + k * 3 + 2, none⟩) OB.out).trans o2; clear h4 b4)))
          go_wp2_with fail
          go_roundw
          case rel => exact ⟨k + 1, putS s i (v.size : Int), by omega, by go_num, HB.out.trans ((blw_drewN _ _ 1).trans MV.out.2), MV.out.1, MM.out.trans HD.out.2⟩
          case measure => simp [intOf]; omega
    · obtain rfl : k = len := by omega
      clear hlt hk
      go_wp2_with fail
      go_ret
      exact ⟨D, s, rfl, HB.out, HD.out.1, HD.out.2⟩
end Go.Proofs.Ytcbijiielikfmaa
