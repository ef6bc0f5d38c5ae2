/- SlotsWindow holds: which places are taken, what is put is there, Cut moves on alone; for every input. No condition. -/
import Derived.Test.YtcbijiielikfmaaSlotsRan
import Derived.Test.YtcbijiielikfmaaSlotsAwake
import Derived.Test.YtcbijiielikfmaaSlotsWinMath
namespace Go.Proofs.Ytcbijiielikfmaa
open Go.ChangeShapes Go.WideShapes Go.ChangeAt Go.RowKit Sx Li
set_option linter.unusedVariables false
namespace SlotsWindow
theorem new_most (f m : Int) : ((newS Al f m).most : Int) = cl 1 1024 m := by have := cl_le 1 1024 m (by omega); simp only [newS]; omega
theorem room_cases (m : Int) : (m < 1 ∧ cl 1 1024 m = 1) ∨ (¬ m < 1 ∧ 1024 < m ∧ cl 1 1024 m = 1024) ∨ (¬ m < 1 ∧ ¬ 1024 < m ∧ cl 1 1024 m = m) := by
  by_cases f1 : m < 1
  · exact .inl ⟨f1, by simp [cl, f1]⟩
  · by_cases f2 : 1024 < m
    · exact .inr (.inl ⟨f1, f2, by simp [cl, f1, f2]⟩)
    · exact .inr (.inr ⟨f1, f2, by simp [cl, f1, f2]⟩)
set_option maxRecDepth 100000 in
set_option maxHeartbeats 4000000 in
theorem walk {w : World} {a : Option Addr} {len cap : Nat} {os : Nat → Opd} (f m : Int) (h : Ops w a len os) (i : Int) (ib1 : -9223372036854775808 ≤ i) (ib2 : i ≤ 9223372036854775807) (cut : Int) (cb1 : -9223372036854775808 ≤ cut) (cb2 : cut ≤ 9223372036854775807) :
    Calls Try.prog 5 #[.int .i64 f, .int .i64 m, .slice a len cap, .int .i64 i, .int .i64 cut] w fun e w' => e = .returned (.bool true) ∧ Below w.heap.size w w' := by
  have CR := hide (ran_any (cap := cap) f m h)
  clear h
  go_enter Try.func5, Try.ntmps5
  go_wp2_with fail
  refine CR.out.mono ?_
  rintro e w1 ⟨D, s, rfl, b1, h1, hm⟩
  have B1 := hide b1
  have H1 := hide h1
  have EM : Hid ((s.most : Int) = cl 1 1024 m) := by show _ = _; rw [hm]; exact new_most f m
  clear b1 h1 hm CR
  go_wp2_with fail
  refine (awake_any w1).mono ?_
  rintro e w2 ⟨rfl, b2⟩
  have B2 := hide (below_step B1.out b2)
  have H2 := hide (H1.out.below b2)
  have OK := hide H2.out.ok
  clear b2 B1 H1
  have CF := hide (first_next H2.out)
  have CL := hide (len_next H2.out)
  go_wp2_with fail
  refine CF.out.mono ?_
  rintro e w3 ⟨rfl, rfl⟩
  go_wp2_with fail
  refine CL.out.mono ?_
  rintro e w3 ⟨rfl, rfl⟩
  go_upto_region 5 with fail
  go_cut [14] from 38 (fun rv w4 => rv = .int .i64 (s.most : Int) ∧ w4 = w3)
  case first =>
    rcases room_cases m with ⟨m1, c1⟩ | ⟨m1, m2, c1⟩ | ⟨m1, m2, c1⟩
    · have E1 : Hid ((s.most : Int) = 1) := EM.out.trans c1
      clear c1
      go_wp2_with fail
      go_meet
      case rel => exact ⟨by rw [E1.out], rfl⟩
    · have E1 : Hid ((s.most : Int) = 1024) := EM.out.trans c1
      clear c1
      go_wp2_with fail
      go_meet
      case rel => exact ⟨by rw [E1.out], rfl⟩
    · have E1 : Hid ((s.most : Int) = m) := EM.out.trans c1
      clear c1
      by_cases m3 : 1 < m
      · go_wp2_with fail
        go_meet
        case rel => exact ⟨by rw [E1.out], rfl⟩
      · obtain rfl : m = 1 := by omega
        go_wp2_with fail
        go_meet
        case rel => exact ⟨by rw [E1.out], rfl⟩
  case rest =>
    obtain ⟨rfl, rfl⟩ := hcut
    have NW2 : Hid (w.heap.size ≤ wc.heap.size) := B2.out.size
    have CG := hide (get_next H2.out i)
    clear CF CL EM
    go_wp2_with fail
    refine CG.out.mono ?_
    rintro e w4 ⟨rfl, q, rfl⟩
    have CP := hide (put_next (H2.out.drewN q) (show w.heap.size ≤ (wc.drewN q).heap.size from NW2.out) i ib2 77)
    simp only [va] at CP
    go_wp2_with fail
    refine CP.out.mono ?_
    rintro e w5 ⟨rfl, h5, b5⟩
    have B5 := hide ((B2.out.trans (blw_drewN wc _ q)).trans b5)
    have H5 := hide h5
    have CG5 := hide (get_next h5 i)
    clear h5 b5 CG CP
    by_cases g1 : i < s.first
    · have e1 : putE s i = 80 := by unfold putE; rw [if_pos g1]
      have e2 : putS s i 77 = s := put_out (.inl g1)
      have e3 : getV (putS s i 77) i = none := get_low (by rw [put_first]; exact g1)
      rw [e3] at CG5
      simp only [ansV, Option.isSome_none, zv] at CG5
      have H5' := hide H5.out
      rw [e2] at H5'
      rw [e1]
      clear e1 e2 e3 H5
      go_wp2_with fail
      refine CG5.out.mono ?_
      rintro e w6 ⟨rfl, q6, rfl⟩
      have H7 := hide (H5'.out.drewN q6)
      have B7 := hide (B5.out.trans (blw_drewN w5 _ q6))
      have NW7 : Hid (w.heap.size ≤ (w5.drewN q6).heap.size) := B7.out.size
      have N7 : Hid (((cnt s.ps : Nat) : Int) = (cnt s.ps : Int)) := hide rfl
      have CL6 := hide (len_next H7.out)
      go_wp2_with (go_at_call 21; refine CL6.out.mono ?_; rintro e w' ⟨rfl, rfl⟩)
      have CC := hide (cut_next H7.out NW7.out cut)
      have OK7 := hide H7.out.ok
      refine CC.out.mono ?_
      rintro e w8 ⟨rfl, h8, b8⟩
      have B8 := hide (B7.out.trans b8)
      have H8 := hide h8
      have CN := hide (cut_cnt s cut)
      have CF8 := hide (first_next h8)
      have CL8 := hide (len_next h8)
      clear h8 b8 CC
      by_cases g3 : stays s cut
      · have e1 : cutN s cut = 0 := by unfold cutN; rw [if_pos g3]
        have e2 : cutS s cut = s := by unfold cutS; rw [if_pos g3]
        rw [e2] at CF8
        skip
        rw [e2] at CL8
        rw [e1]
        unfold stays at g3
        skip
        clear CN e1 e2
        by_cases g4 : cut ≤ s.first
        · clear g3
          go_wp2_with (first | (go_at_call 23; refine CF8.out.mono ?_; rintro e w' ⟨rfl, rfl⟩) | (go_at_call 21; refine CL8.out.mono ?_; rintro e w' ⟨rfl, rfl⟩))
          go_ret
          exact ⟨by simp, B8.out⟩
        · have g5 : 1099511627776 < cut := by omega
          clear g3
          go_wp2_with (first | (go_at_call 23; refine CF8.out.mono ?_; rintro e w' ⟨rfl, rfl⟩) | (go_at_call 21; refine CL8.out.mono ?_; rintro e w' ⟨rfl, rfl⟩))
          go_ret
          exact ⟨by simp, B8.out⟩
      · have e1 : (cutS s cut).first = cut := cut_first g3
        have OK8 := hide H8.out.ok
        have f1 := OK.out.f1
        unfold stays at g3
        skip
        have g4 : ¬ (cut ≤ s.first) := by omega
        have g5 : ¬ (1099511627776 < cut) := by omega
        have g6 : IntKind.i64.wrap (cut - 1) = cut - 1 := by rw [IntKind.wrap_i64]; omega
        have g7 : getV (cutS s cut) (cut - 1) = none := get_low (by rw [e1]; omega)
        have g8 : putE (cutS s cut) (cut - 1) = 80 := by unfold putE; rw [if_pos (by rw [e1]; omega)]
        have CG8 := hide (get_next H8.out (cut - 1))
        rw [g7] at CG8
        simp only [ansV, Option.isSome_none, zv] at CG8
        have NV : Hid (nextV (putS (cutS s cut) (cut - 1) 1) = cut + (nxt (putS (cutS s cut) (cut - 1) 1).ps : Int)) := by show _ = _; unfold nextV; rw [put_first, e1]
        have l8 := cnt_le s.ps
        have l9 : s.ps.length ≤ 1024 := by have := OK7.out.len; have := OK7.out.m2; omega
        have cW : IntKind.i64.wrap ((cnt s.ps : Int) - (cutN s cut : Int)) = (cnt (cutS s cut).ps : Int) := by have := CN.out; have := N7.out; rw [IntKind.wrap_i64]; omega
        have z0 : (0 : Int) ≤ (cutN s cut : Int) := by omega
        have NW8 : Hid (w.heap.size ≤ w8.heap.size) := B8.out.size
        have CP8 : Hid (∀ q, Calls Try.prog 26 #[.pointer (some ⟨D, 0, none⟩), .int .i64 (cut - 1), .int .i64 1] (w8.drewN q) fun e w' => e = .returned (.int .i64 80) ∧ LgN w' w.heap.size D (putS (cutS s cut) (cut - 1) 1) ∧ Below w.heap.size (w8.drewN q) w') := fun q => by
          have := put_next (H8.out.drewN q) (show w.heap.size ≤ (w8.drewN q).heap.size from NW8.out) (cut - 1) (by omega) 1
          rw [g8] at this
          exact this
        have CF9 : Hid (∀ q, Calls Try.prog 23 #[.pointer (some ⟨D, 0, none⟩)] (w8.drewN q) fun e w' => e = .returned (.int .i64 cut) ∧ w' = w8.drewN q) := fun q => by
          have := first_next (H8.out.drewN q)
          rw [e1] at this
          exact this
        have CL9 : Hid (∀ q, Calls Try.prog 21 #[.pointer (some ⟨D, 0, none⟩)] (w8.drewN q) fun e w' => e = .returned (.int .i64 (cnt (cutS s cut).ps)) ∧ w' = w8.drewN q) := fun q => len_next (H8.out.drewN q)
        clear CN g3 e1 g7 g8 l8 l9 CF8 CL8 f1
        generalize cnt (cutS s cut).ps = n9 at *
        generalize cutN s cut = n8 at *
        generalize nxt (putS (cutS s cut) (cut - 1) 1).ps = n10 at *
        generalize putS (cutS s cut) (cut - 1) 1 = s9 at *
        go_wp2_with fail
        refine CG8.out.mono ?_
        rintro e w9 ⟨rfl, q9, rfl⟩
        go_wp2_with (first | (go_at_call 23; refine (CF9.out _).mono ?_; rintro e w' ⟨rfl, rfl⟩) | (go_at_call 21; refine (CL9.out _).mono ?_; rintro e w' ⟨rfl, rfl⟩))
        refine (CP8.out _).mono ?_
        rintro e w10 ⟨rfl, h10, b10⟩
        have B10 := hide ((B8.out.trans (blw_drewN w8 _ q9)).trans b10)
        have CX := hide (next_next h10)
        rw [NV.out] at CX
        have z1 : cut ≤ cut + (n10 : Int) := by omega
        clear h10 b10
        go_wp2_with fail
        refine CX.out.mono ?_
        rintro e w11 ⟨rfl, q11, rfl⟩
        go_wp2_with fail
        go_ret
        exact ⟨rfl, B10.out.trans (blw_drewN w10 _ q11)⟩
    · have iw : IntKind.i64.wrap (i - s.first) = i - s.first := by have := OK.out.f1; have := OK.out.f2; rw [IntKind.wrap_i64]; omega
      by_cases g2 : (s.most : Int) ≤ i - s.first
      · have e1 : putE s i = 81 := by unfold putE; rw [if_neg g1, if_pos g2]
        have e2 : putS s i 77 = s := put_out (.inr g2)
        have e3 : getV (putS s i 77) i = none := by rw [e2]; exact get_far OK.out g2
        rw [e3] at CG5
        simp only [ansV, Option.isSome_none, zv] at CG5
        have H5' := hide H5.out
        rw [e2] at H5'
        rw [e1]
        clear e1 e2 e3 H5
        go_wp2_with fail
        refine CG5.out.mono ?_
        rintro e w6 ⟨rfl, q6, rfl⟩
        have H7 := hide (H5'.out.drewN q6)
        have B7 := hide (B5.out.trans (blw_drewN w5 _ q6))
        have NW7 : Hid (w.heap.size ≤ (w5.drewN q6).heap.size) := B7.out.size
        have N7 : Hid (((cnt s.ps : Nat) : Int) = (cnt s.ps : Int)) := hide rfl
        have CL6 := hide (len_next H7.out)
        go_wp2_with (go_at_call 21; refine CL6.out.mono ?_; rintro e w' ⟨rfl, rfl⟩)
        have CC := hide (cut_next H7.out NW7.out cut)
        have OK7 := hide H7.out.ok
        refine CC.out.mono ?_
        rintro e w8 ⟨rfl, h8, b8⟩
        have B8 := hide (B7.out.trans b8)
        have H8 := hide h8
        have CN := hide (cut_cnt s cut)
        have CF8 := hide (first_next h8)
        have CL8 := hide (len_next h8)
        clear h8 b8 CC
        by_cases g3 : stays s cut
        · have e1 : cutN s cut = 0 := by unfold cutN; rw [if_pos g3]
          have e2 : cutS s cut = s := by unfold cutS; rw [if_pos g3]
          rw [e2] at CF8
          skip
          rw [e2] at CL8
          rw [e1]
          unfold stays at g3
          skip
          clear CN e1 e2
          by_cases g4 : cut ≤ s.first
          · clear g3
            go_wp2_with (first | (go_at_call 23; refine CF8.out.mono ?_; rintro e w' ⟨rfl, rfl⟩) | (go_at_call 21; refine CL8.out.mono ?_; rintro e w' ⟨rfl, rfl⟩))
            go_ret
            exact ⟨by simp, B8.out⟩
          · have g5 : 1099511627776 < cut := by omega
            clear g3
            go_wp2_with (first | (go_at_call 23; refine CF8.out.mono ?_; rintro e w' ⟨rfl, rfl⟩) | (go_at_call 21; refine CL8.out.mono ?_; rintro e w' ⟨rfl, rfl⟩))
            go_ret
            exact ⟨by simp, B8.out⟩
        · have e1 : (cutS s cut).first = cut := cut_first g3
          have OK8 := hide H8.out.ok
          have f1 := OK.out.f1
          unfold stays at g3
          skip
          have g4 : ¬ (cut ≤ s.first) := by omega
          have g5 : ¬ (1099511627776 < cut) := by omega
          have g6 : IntKind.i64.wrap (cut - 1) = cut - 1 := by rw [IntKind.wrap_i64]; omega
          have g7 : getV (cutS s cut) (cut - 1) = none := get_low (by rw [e1]; omega)
          have g8 : putE (cutS s cut) (cut - 1) = 80 := by unfold putE; rw [if_pos (by rw [e1]; omega)]
          have CG8 := hide (get_next H8.out (cut - 1))
          rw [g7] at CG8
          simp only [ansV, Option.isSome_none, zv] at CG8
          have NV : Hid (nextV (putS (cutS s cut) (cut - 1) 1) = cut + (nxt (putS (cutS s cut) (cut - 1) 1).ps : Int)) := by show _ = _; unfold nextV; rw [put_first, e1]
          have l8 := cnt_le s.ps
          have l9 : s.ps.length ≤ 1024 := by have := OK7.out.len; have := OK7.out.m2; omega
          have cW : IntKind.i64.wrap ((cnt s.ps : Int) - (cutN s cut : Int)) = (cnt (cutS s cut).ps : Int) := by have := CN.out; have := N7.out; rw [IntKind.wrap_i64]; omega
          have z0 : (0 : Int) ≤ (cutN s cut : Int) := by omega
          have NW8 : Hid (w.heap.size ≤ w8.heap.size) := B8.out.size
          have CP8 : Hid (∀ q, Calls Try.prog 26 #[.pointer (some ⟨D, 0, none⟩), .int .i64 (cut - 1), .int .i64 1] (w8.drewN q) fun e w' => e = .returned (.int .i64 80) ∧ LgN w' w.heap.size D (putS (cutS s cut) (cut - 1) 1) ∧ Below w.heap.size (w8.drewN q) w') := fun q => by
            have := put_next (H8.out.drewN q) (show w.heap.size ≤ (w8.drewN q).heap.size from NW8.out) (cut - 1) (by omega) 1
            rw [g8] at this
            exact this
          have CF9 : Hid (∀ q, Calls Try.prog 23 #[.pointer (some ⟨D, 0, none⟩)] (w8.drewN q) fun e w' => e = .returned (.int .i64 cut) ∧ w' = w8.drewN q) := fun q => by
            have := first_next (H8.out.drewN q)
            rw [e1] at this
            exact this
          have CL9 : Hid (∀ q, Calls Try.prog 21 #[.pointer (some ⟨D, 0, none⟩)] (w8.drewN q) fun e w' => e = .returned (.int .i64 (cnt (cutS s cut).ps)) ∧ w' = w8.drewN q) := fun q => len_next (H8.out.drewN q)
          clear CN g3 e1 g7 g8 l8 l9 CF8 CL8 f1
          generalize cnt (cutS s cut).ps = n9 at *
          generalize cutN s cut = n8 at *
          generalize nxt (putS (cutS s cut) (cut - 1) 1).ps = n10 at *
          generalize putS (cutS s cut) (cut - 1) 1 = s9 at *
          go_wp2_with fail
          refine CG8.out.mono ?_
          rintro e w9 ⟨rfl, q9, rfl⟩
          go_wp2_with (first | (go_at_call 23; refine (CF9.out _).mono ?_; rintro e w' ⟨rfl, rfl⟩) | (go_at_call 21; refine (CL9.out _).mono ?_; rintro e w' ⟨rfl, rfl⟩))
          refine (CP8.out _).mono ?_
          rintro e w10 ⟨rfl, h10, b10⟩
          have B10 := hide ((B8.out.trans (blw_drewN w8 _ q9)).trans b10)
          have CX := hide (next_next h10)
          rw [NV.out] at CX
          have z1 : cut ≤ cut + (n10 : Int) := by omega
          clear h10 b10
          go_wp2_with fail
          refine CX.out.mono ?_
          rintro e w11 ⟨rfl, q11, rfl⟩
          go_wp2_with fail
          go_ret
          exact ⟨rfl, B10.out.trans (blw_drewN w10 _ q11)⟩
      · have e1 : putE s i = 0 := by unfold putE; rw [if_neg g1, if_neg g2]
        have e3 : getV (putS s i 77) i = some 77 := get_put OK.out g1 g2
        have e4 := cnt_put (x := 77) g1 g2
        rw [e3] at CG5
        simp only [ansV, Option.isSome_some, va] at CG5
        have FP := hide (put_first s i 77)
        have l7 := cnt_le s.ps
        have l6 : s.ps.length ≤ 1024 := by have := OK.out.len; have := OK.out.m2; omega
        have n1 : IntKind.i64.wrap ((cnt s.ps : Int) + 1) = (cnt s.ps : Int) + 1 := by rw [IntKind.wrap_i64]; omega
        rw [e1]
        obtain ⟨s7, es7⟩ : ∃ s7, s7 = putS s i 77 := ⟨_, rfl⟩
        rw [← es7] at H5 FP e4
        clear e1 e3 es7
        cases hg : (getV s i).isSome with
        | true =>
          rw [hg] at e4
          have N7 : Hid (((cnt s7.ps : Nat) : Int) = (cnt s.ps : Int)) := by show _ = _; simp at e4; omega
          clear e4 hg
          generalize (ansV (getV s i)) = gv at *
          go_wp2_with fail
          refine CG5.out.mono ?_
          rintro e w6 ⟨rfl, q6, rfl⟩
          have H7 := hide (H5.out.drewN q6)
          have B7 := hide (B5.out.trans (blw_drewN w5 _ q6))
          have NW7 : Hid (w.heap.size ≤ (w5.drewN q6).heap.size) := B7.out.size
          have CL6 := hide (len_next H7.out)
          rw [N7.out] at CL6
          have k1 : ((cnt s.ps : Int) = (cnt s.ps : Int) + 1) = False := eq_false (by omega)
          go_wp2_with (go_at_call 21; refine CL6.out.mono ?_; rintro e w' ⟨rfl, rfl⟩)
          have CC := hide (cut_next H7.out NW7.out cut)
          have OK7 := hide H7.out.ok
          refine CC.out.mono ?_
          rintro e w8 ⟨rfl, h8, b8⟩
          have B8 := hide (B7.out.trans b8)
          have H8 := hide h8
          have CN := hide (cut_cnt s7 cut)
          have CF8 := hide (first_next h8)
          have CL8 := hide (len_next h8)
          clear h8 b8 CC
          by_cases g3 : stays s7 cut
          · have e1 : cutN s7 cut = 0 := by unfold cutN; rw [if_pos g3]
            have e2 : cutS s7 cut = s7 := by unfold cutS; rw [if_pos g3]
            rw [e2] at CF8
            rw [FP.out] at CF8
            rw [e2, show ((cnt s7.ps : Nat) : Int) = (cnt s.ps : Int) from N7.out] at CL8
            rw [e1]
            unfold stays at g3
            rw [FP.out] at g3
            clear CN e1 e2
            by_cases g4 : cut ≤ s.first
            · clear g3
              go_wp2_with (first | (go_at_call 23; refine CF8.out.mono ?_; rintro e w' ⟨rfl, rfl⟩) | (go_at_call 21; refine CL8.out.mono ?_; rintro e w' ⟨rfl, rfl⟩))
              go_ret
              exact ⟨by simp, B8.out⟩
            · have g5 : 1099511627776 < cut := by omega
              clear g3
              go_wp2_with (first | (go_at_call 23; refine CF8.out.mono ?_; rintro e w' ⟨rfl, rfl⟩) | (go_at_call 21; refine CL8.out.mono ?_; rintro e w' ⟨rfl, rfl⟩))
              go_ret
              exact ⟨by simp, B8.out⟩
          · have e1 : (cutS s7 cut).first = cut := cut_first g3
            have OK8 := hide H8.out.ok
            have f1 := OK.out.f1
            unfold stays at g3
            rw [FP.out] at g3
            have g4 : ¬ (cut ≤ s.first) := by omega
            have g5 : ¬ (1099511627776 < cut) := by omega
            have g6 : IntKind.i64.wrap (cut - 1) = cut - 1 := by rw [IntKind.wrap_i64]; omega
            have g7 : getV (cutS s7 cut) (cut - 1) = none := get_low (by rw [e1]; omega)
            have g8 : putE (cutS s7 cut) (cut - 1) = 80 := by unfold putE; rw [if_pos (by rw [e1]; omega)]
            have CG8 := hide (get_next H8.out (cut - 1))
            rw [g7] at CG8
            simp only [ansV, Option.isSome_none, zv] at CG8
            have NV : Hid (nextV (putS (cutS s7 cut) (cut - 1) 1) = cut + (nxt (putS (cutS s7 cut) (cut - 1) 1).ps : Int)) := by show _ = _; unfold nextV; rw [put_first, e1]
            have l8 := cnt_le s7.ps
            have l9 : s7.ps.length ≤ 1024 := by have := OK7.out.len; have := OK7.out.m2; omega
            have cW : IntKind.i64.wrap ((cnt s.ps : Int) - (cutN s7 cut : Int)) = (cnt (cutS s7 cut).ps : Int) := by have := CN.out; have := N7.out; rw [IntKind.wrap_i64]; omega
            have z0 : (0 : Int) ≤ (cutN s7 cut : Int) := by omega
            have NW8 : Hid (w.heap.size ≤ w8.heap.size) := B8.out.size
            have CP8 : Hid (∀ q, Calls Try.prog 26 #[.pointer (some ⟨D, 0, none⟩), .int .i64 (cut - 1), .int .i64 1] (w8.drewN q) fun e w' => e = .returned (.int .i64 80) ∧ LgN w' w.heap.size D (putS (cutS s7 cut) (cut - 1) 1) ∧ Below w.heap.size (w8.drewN q) w') := fun q => by
              have := put_next (H8.out.drewN q) (show w.heap.size ≤ (w8.drewN q).heap.size from NW8.out) (cut - 1) (by omega) 1
              rw [g8] at this
              exact this
            have CF9 : Hid (∀ q, Calls Try.prog 23 #[.pointer (some ⟨D, 0, none⟩)] (w8.drewN q) fun e w' => e = .returned (.int .i64 cut) ∧ w' = w8.drewN q) := fun q => by
              have := first_next (H8.out.drewN q)
              rw [e1] at this
              exact this
            have CL9 : Hid (∀ q, Calls Try.prog 21 #[.pointer (some ⟨D, 0, none⟩)] (w8.drewN q) fun e w' => e = .returned (.int .i64 (cnt (cutS s7 cut).ps)) ∧ w' = w8.drewN q) := fun q => len_next (H8.out.drewN q)
            clear CN g3 e1 g7 g8 l8 l9 CF8 CL8 f1
            generalize cnt (cutS s7 cut).ps = n9 at *
            generalize cutN s7 cut = n8 at *
            generalize nxt (putS (cutS s7 cut) (cut - 1) 1).ps = n10 at *
            generalize putS (cutS s7 cut) (cut - 1) 1 = s9 at *
            go_wp2_with fail
            refine CG8.out.mono ?_
            rintro e w9 ⟨rfl, q9, rfl⟩
            go_wp2_with (first | (go_at_call 23; refine (CF9.out _).mono ?_; rintro e w' ⟨rfl, rfl⟩) | (go_at_call 21; refine (CL9.out _).mono ?_; rintro e w' ⟨rfl, rfl⟩))
            refine (CP8.out _).mono ?_
            rintro e w10 ⟨rfl, h10, b10⟩
            have B10 := hide ((B8.out.trans (blw_drewN w8 _ q9)).trans b10)
            have CX := hide (next_next h10)
            rw [NV.out] at CX
            have z1 : cut ≤ cut + (n10 : Int) := by omega
            clear h10 b10
            go_wp2_with fail
            refine CX.out.mono ?_
            rintro e w11 ⟨rfl, q11, rfl⟩
            go_wp2_with fail
            go_ret
            exact ⟨rfl, B10.out.trans (blw_drewN w10 _ q11)⟩
        | false =>
          rw [hg] at e4
          have N7 : Hid (((cnt s7.ps : Nat) : Int) = ((cnt s.ps : Int) + 1)) := by show _ = _; simp at e4; omega
          clear e4 hg
          generalize (ansV (getV s i)) = gv at *
          go_wp2_with fail
          refine CG5.out.mono ?_
          rintro e w6 ⟨rfl, q6, rfl⟩
          have H7 := hide (H5.out.drewN q6)
          have B7 := hide (B5.out.trans (blw_drewN w5 _ q6))
          have NW7 : Hid (w.heap.size ≤ (w5.drewN q6).heap.size) := B7.out.size
          have CL6 := hide (len_next H7.out)
          rw [N7.out] at CL6
          have k1 : ((cnt s.ps : Int) = (cnt s.ps : Int) + 1) = False := eq_false (by omega)
          go_wp2_with (go_at_call 21; refine CL6.out.mono ?_; rintro e w' ⟨rfl, rfl⟩)
          have CC := hide (cut_next H7.out NW7.out cut)
          have OK7 := hide H7.out.ok
          refine CC.out.mono ?_
          rintro e w8 ⟨rfl, h8, b8⟩
          have B8 := hide (B7.out.trans b8)
          have H8 := hide h8
          have CN := hide (cut_cnt s7 cut)
          have CF8 := hide (first_next h8)
          have CL8 := hide (len_next h8)
          clear h8 b8 CC
          by_cases g3 : stays s7 cut
          · have e1 : cutN s7 cut = 0 := by unfold cutN; rw [if_pos g3]
            have e2 : cutS s7 cut = s7 := by unfold cutS; rw [if_pos g3]
            rw [e2] at CF8
            rw [FP.out] at CF8
            rw [e2, show ((cnt s7.ps : Nat) : Int) = ((cnt s.ps : Int) + 1) from N7.out] at CL8
            rw [e1]
            unfold stays at g3
            rw [FP.out] at g3
            clear CN e1 e2
            by_cases g4 : cut ≤ s.first
            · clear g3
              go_wp2_with (first | (go_at_call 23; refine CF8.out.mono ?_; rintro e w' ⟨rfl, rfl⟩) | (go_at_call 21; refine CL8.out.mono ?_; rintro e w' ⟨rfl, rfl⟩))
              go_ret
              exact ⟨by simp, B8.out⟩
            · have g5 : 1099511627776 < cut := by omega
              clear g3
              go_wp2_with (first | (go_at_call 23; refine CF8.out.mono ?_; rintro e w' ⟨rfl, rfl⟩) | (go_at_call 21; refine CL8.out.mono ?_; rintro e w' ⟨rfl, rfl⟩))
              go_ret
              exact ⟨by simp, B8.out⟩
          · have e1 : (cutS s7 cut).first = cut := cut_first g3
            have OK8 := hide H8.out.ok
            have f1 := OK.out.f1
            unfold stays at g3
            rw [FP.out] at g3
            have g4 : ¬ (cut ≤ s.first) := by omega
            have g5 : ¬ (1099511627776 < cut) := by omega
            have g6 : IntKind.i64.wrap (cut - 1) = cut - 1 := by rw [IntKind.wrap_i64]; omega
            have g7 : getV (cutS s7 cut) (cut - 1) = none := get_low (by rw [e1]; omega)
            have g8 : putE (cutS s7 cut) (cut - 1) = 80 := by unfold putE; rw [if_pos (by rw [e1]; omega)]
            have CG8 := hide (get_next H8.out (cut - 1))
            rw [g7] at CG8
            simp only [ansV, Option.isSome_none, zv] at CG8
            have NV : Hid (nextV (putS (cutS s7 cut) (cut - 1) 1) = cut + (nxt (putS (cutS s7 cut) (cut - 1) 1).ps : Int)) := by show _ = _; unfold nextV; rw [put_first, e1]
            have l8 := cnt_le s7.ps
            have l9 : s7.ps.length ≤ 1024 := by have := OK7.out.len; have := OK7.out.m2; omega
            have cW : IntKind.i64.wrap (((cnt s.ps : Int) + 1) - (cutN s7 cut : Int)) = (cnt (cutS s7 cut).ps : Int) := by have := CN.out; have := N7.out; rw [IntKind.wrap_i64]; omega
            have z0 : (0 : Int) ≤ (cutN s7 cut : Int) := by omega
            have NW8 : Hid (w.heap.size ≤ w8.heap.size) := B8.out.size
            have CP8 : Hid (∀ q, Calls Try.prog 26 #[.pointer (some ⟨D, 0, none⟩), .int .i64 (cut - 1), .int .i64 1] (w8.drewN q) fun e w' => e = .returned (.int .i64 80) ∧ LgN w' w.heap.size D (putS (cutS s7 cut) (cut - 1) 1) ∧ Below w.heap.size (w8.drewN q) w') := fun q => by
              have := put_next (H8.out.drewN q) (show w.heap.size ≤ (w8.drewN q).heap.size from NW8.out) (cut - 1) (by omega) 1
              rw [g8] at this
              exact this
            have CF9 : Hid (∀ q, Calls Try.prog 23 #[.pointer (some ⟨D, 0, none⟩)] (w8.drewN q) fun e w' => e = .returned (.int .i64 cut) ∧ w' = w8.drewN q) := fun q => by
              have := first_next (H8.out.drewN q)
              rw [e1] at this
              exact this
            have CL9 : Hid (∀ q, Calls Try.prog 21 #[.pointer (some ⟨D, 0, none⟩)] (w8.drewN q) fun e w' => e = .returned (.int .i64 (cnt (cutS s7 cut).ps)) ∧ w' = w8.drewN q) := fun q => len_next (H8.out.drewN q)
            clear CN g3 e1 g7 g8 l8 l9 CF8 CL8 f1
            generalize cnt (cutS s7 cut).ps = n9 at *
            generalize cutN s7 cut = n8 at *
            generalize nxt (putS (cutS s7 cut) (cut - 1) 1).ps = n10 at *
            generalize putS (cutS s7 cut) (cut - 1) 1 = s9 at *
            go_wp2_with fail
            refine CG8.out.mono ?_
            rintro e w9 ⟨rfl, q9, rfl⟩
            go_wp2_with (first | (go_at_call 23; refine (CF9.out _).mono ?_; rintro e w' ⟨rfl, rfl⟩) | (go_at_call 21; refine (CL9.out _).mono ?_; rintro e w' ⟨rfl, rfl⟩))
            refine (CP8.out _).mono ?_
            rintro e w10 ⟨rfl, h10, b10⟩
            have B10 := hide ((B8.out.trans (blw_drewN w8 _ q9)).trans b10)
            have CX := hide (next_next h10)
            rw [NV.out] at CX
            have z1 : cut ≤ cut + (n10 : Int) := by omega
            clear h10 b10
            go_wp2_with fail
            refine CX.out.mono ?_
            rintro e w11 ⟨rfl, q11, rfl⟩
            go_wp2_with fail
            go_ret
            exact ⟨rfl, B10.out.trans (blw_drewN w10 _ q11)⟩

set_option maxRecDepth 100000 in
theorem lifted (os : Os) (started : os.Started) (H : Type) (enc : TypeId × Value → H) :
    ReturnsInHanded {} Try.checked os 5 .any (Rows.slotsWindowSpec.pre6 enc Try.prog Try.f5 Rows.slotsWindowRow.domain false) (Rows.slotsWindowSpec.post enc Try.prog Try.f5 false true false false) := by
  refine returnsInHanded_of_change_sized (C := Try.checked) own started (by kernel_rfl) Try.func5
    (ChangeSpec.witness6 (enc := enc) (C := Try.checked) false ⟨#[], #[.int .i64 0, .int .i64 0, .slice none 0 0, .int .i64 0, .int .i64 0], []⟩ 8 (by kernel_rfl) (by kernel_rfl) (by kernel_rfl) (by kernel_rfl)) ?_
  intro W base args ds gs before hval0 hW hcnd hsz0 _
  have hsz : (DataW.weightsEach Try.prog (Try.f5.params.toList ++ Rows.slotsWindowSpec.plain.varTypes Try.prog) (ds ++ gs)).all (· ≤ reachBytes) = true := hsz0
  have hval : ∀ (j : Nat) t v, Try.f5.params[j]? = some t → args[j]? = some v → Value.okWide Try.prog W .any base t v := hval0
  have hW' := hW
  obtain ⟨p, q, hA0, hV, rfl, hfz, hnd⟩ := hW
  have hA : DataW.TrodAll enc Try.prog W 0 (fun _ => true) true Try.f5.params.toList args.toList ds p := hA0
  rw [Try.params5] at hA hval hsz
  obtain ⟨v0, vs0, d0, ds0, p0, q0, hargs, rfl, rfl, h0, r0⟩ := trodAll_cons hA
  obtain ⟨v1, vs1, d1, ds1, p1, q1, rfl, rfl, rfl, h1, r1⟩ := trodAll_cons r0
  obtain ⟨v2, vs2, d2, ds2, p2, q2, rfl, rfl, rfl, h2, r2⟩ := trodAll_cons r1
  obtain ⟨v3, vs3, d3, ds3, p3, q3, rfl, rfl, rfl, h3, r3⟩ := trodAll_cons r2
  obtain ⟨v4, vs4, d4, ds4, p4, q4, rfl, rfl, rfl, h4, r4⟩ := trodAll_cons r3
  obtain ⟨rfl, rfl, rfl⟩ := trodAll_nil r4
  obtain rfl : args = #[v0, v1, v2, v3, v4] := by cases args; simp_all
  obtain ⟨rfl, rfl⟩ := trodVars_none hV
  have lt0 : ∀ x ∈ p0, x.block < W.heap.size := by obtain ⟨m, hm⟩ := h0; exact DataW.trod_lt m _ _ _ hm
  obtain ⟨f, rfl, fb1, fb2⟩ := open_i64 (hval 0 3 v0 rfl rfl) h0
  have lt1 : ∀ x ∈ p1, x.block < W.heap.size := by obtain ⟨m, hm⟩ := h1; exact DataW.trod_lt m _ _ _ hm
  obtain ⟨m, rfl, mb1, mb2⟩ := open_i64 (hval 1 3 v1 rfl rfl) h1
  have lt2 : ∀ x ∈ p2, x.block < W.heap.size := by obtain ⟨m, hm⟩ := h2; exact DataW.trod_lt m _ _ _ hm
  obtain ⟨a, len, cap, os, rfl, ho⟩ := open_ops_held (hval 2 22 v2 rfl rfl) h2 (fun n hn => by have h := List.all_eq_true.1 hsz n (DataW.weights_mem_each (j := 2) rfl rfl n hn); simpa using h)
  have lt3 : ∀ x ∈ p3, x.block < W.heap.size := by obtain ⟨m, hm⟩ := h3; exact DataW.trod_lt m _ _ _ hm
  obtain ⟨i, rfl, ib1, ib2⟩ := open_i64 (hval 3 3 v3 rfl rfl) h3
  have lt4 : ∀ x ∈ p4, x.block < W.heap.size := by obtain ⟨m, hm⟩ := h4; exact DataW.trod_lt m _ _ _ hm
  obtain ⟨cut, rfl, cb1, cb2⟩ := open_i64 (hval 4 3 v4 rfl rfl) h4
  clear hA0 hval0
  refine (walk f m ho i ib1 ib2 cut cb1 cb2).mono fun e W' ⟨he, bel⟩ => ?_
  subst he
  exact ⟨_, rfl, _, _, _, [], _, [], hW', trodAll_mk1 (shut_bool Try.underlying4 _), (trodAll_cons_mk (Below.trod laidOut (by kernel_rfl) (of_decide_eq_true (by kernel_rfl)) h0 bel lt0) (trodAll_cons_mk (Below.trod laidOut (by kernel_rfl) (of_decide_eq_true (by kernel_rfl)) h1 bel lt1) (trodAll_cons_mk (Below.trod laidOut (by kernel_rfl) (of_decide_eq_true (by kernel_rfl)) h2 bel lt2) (trodAll_cons_mk (Below.trod laidOut (by kernel_rfl) (of_decide_eq_true (by kernel_rfl)) h3 bel lt3) (trodAll_cons_mk (Below.trod laidOut (by kernel_rfl) (of_decide_eq_true (by kernel_rfl)) h4 bel lt4) trodAll_mk0))))), rfl, bel.frame _, fun h => by cases h⟩

theorem over : Rows.slotsWindowRow.holds Try.pinned (OpenSpec.ofChange Rows.slotsWindowSpec) :=
  OpenClaim.holds_of_wide 5 Try.f5 rfl rfl rfl rfl rfl rfl rfl ⟨rfl, rfl, rfl, rfl, rfl⟩ rfl rfl rfl rfl rfl (by kernel_rfl) Try.func5 (by kernel_rfl)
    (of_decide_eq_true (by kernel_rfl)) (by unfold Func.isWrapper; first | (rw [if_pos (by decide +kernel)]; kernel_rfl) | (rw [if_neg (by decide +kernel)]; exact ⟨rfl, rfl⟩))
    (fun os started H enc _ => lifted os started H enc)

theorem proved : Rows.SlotsWindowSaid := over
#print axioms proved
end SlotsWindow
theorem slotsWindow_holds : Rows.SlotsWindowSaid := SlotsWindow.proved
end Go.Proofs.Ytcbijiielikfmaa
