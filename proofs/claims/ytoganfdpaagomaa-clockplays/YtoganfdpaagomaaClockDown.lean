/- container/heap's down over the queue. No condition. -/
import Derived.Test.YtoganfdpaagomaaClockUp
namespace Go.Proofs.Ytoganfdpaagomaa
open Go.ChangeShapes Go.WideShapes Go.ChangeAt Go.RowKit Cm
set_option linter.unusedVariables false

theorem child {q k : Nat} (h0 : 0 < q) (h : par q = k) : q = 2 * k + 1 ∨ q = 2 * k + 2 := by simp only [par] at h; omega
theorem min_one {l : List Tm} {n k j1 : Nat} (e1 : j1 = 2 * k + 1) (h2 : n ≤ 2 * k + 2) : ∀ q, 0 < q → q < n → par q = k → lt (g l q) (g l j1) = false := fun q q0 qn qp => by
  rcases child q0 qp with e | e
  · rw [e, ← e1]; exact lt_irrefl _
  · omega
theorem min_left {l : List Tm} {n k j1 j2 : Nat} (e1 : j1 = 2 * k + 1) (e2 : j2 = 2 * k + 2) (h : lt (g l j2) (g l j1) = false) : ∀ q, 0 < q → q < n → par q = k → lt (g l q) (g l j1) = false := fun q q0 qn qp => by
  rcases child q0 qp with e | e
  · rw [e, ← e1]; exact lt_irrefl _
  · rw [e, ← e2]; exact h
theorem min_right {l : List Tm} {n k j1 j2 : Nat} (e1 : j1 = 2 * k + 1) (e2 : j2 = 2 * k + 2) (h : lt (g l j2) (g l j1) = true) : ∀ q, 0 < q → q < n → par q = k → lt (g l q) (g l j2) = false := fun q q0 qn qp => by
  rcases child q0 qp with e | e
  · rw [e, ← e1]; exact lt_asymm h
  · rw [e, ← e2]; exact lt_irrefl _
theorem no_less {l : List Tm} {n k c : Nat} (hm : ∀ q, 0 < q → q < n → par q = k → lt (g l q) (g l c) = false) (h : lt (g l c) (g l k) = false) : ∀ q, 0 < q → q < n → par q = k → lt (g l q) (g l k) = false := fun q q0 qn qp => lt_ntrans (hm q q0 qn qp) h
/-- what down leaves -/
def DownP (w : World) (L : Ql) (l : List Tm) (n i0 : Nat) (b : Bool) (w' : World) : Prop := ∃ l', PI n l l' ∧ (b = true → HeapN l' n) ∧ (b = false → UpOK l' n i0) ∧ QS w L l' (names l') w'
def DownE (w : World) (L : Ql) (l : List Tm) (n i0 : Nat) (e : Ending) (w' : World) : Prop := ∃ b, e = .returned (.bool b) ∧ DownP w L l n i0 b w'
theorem downP_of {w w' : World} {L : Ql} {l lk : List Tm} {n i0 k : Nat} (hp : PI n l lk) (hd : DownI lk n i0 k) (h0 : i0 ≤ k) (hc : ∀ q, 0 < q → q < n → par q = k → lt (g lk q) (g lk k) = false) (hq : QS w L lk (names lk) w') : DownP w L l n i0 (decide (i0 < k)) w' := by
  obtain ⟨h1, h2⟩ := down_done hd hc
  refine ⟨lk, hp, fun h => h1 ?_, fun h => h2 ?_, hq⟩
  · have := of_decide_eq_true h; omega
  · have := of_decide_eq_false h; omega
set_option maxRecDepth 100000 in
set_option maxHeartbeats 4000000 in
theorem down_any {w : World} {L : Ql} {l : List Tm} {n i0 : Nat} (h : Qu w L l (names l)) (hn : n ≤ l.length) (hi : i0 < n) (hd : DownI l n i0 i0) :
    Calls Try.prog 57 #[hif L, .int .i64 i0, .int .i64 n] w fun e w' => DownE w L l n i0 e w' := by
  have q1 := nnLess ⟨L.Q, 0, none⟩
  have q2 := mmLess ⟨L.Q, 0, none⟩
  have q3 := nnSwap ⟨L.Q, 0, none⟩
  have q4 := mmSwap ⟨L.Q, 0, none⟩
  have HN := hide hn
  have M0 := hide h.most
  have S0 : Hid (PI n l l ∧ DownI l n i0 i0 ∧ QS w L l (names l) w) := ⟨PI.refl _ _, hd, QS.stay h⟩
  clear h hn hd
  go_enter Try.func57, Try.ntmps57
  go_wp2_with fail
  go_loopw [7, 8, 9, 10] (fun iv _ _ _ wr => ∃ (k : Nat) (lk : List Tm), iv = .int .i64 k ∧ k < n ∧ i0 ≤ k ∧ Hid (PI n l lk ∧ DownI lk n i0 k ∧ QS w L lk (names lk) wr)) (fun iv _ _ _ _ => n - (intOf iv).toNat)
  case atStart => exact ⟨i0, l, rfl, hi, Nat.le_refl _, S0⟩
  case round =>
    obtain ⟨k, lk, rfl, hk, hk0, SK⟩ := hrel
    have hlen : lk.length = l.length := SK.out.1.1
    have hm := M0.out.1
    have hn := HN.out
    obtain ⟨j1, e1⟩ : ∃ j1, j1 = 2 * k + 1 := ⟨_, rfl⟩
    obtain ⟨j2, e2⟩ : ∃ j2, j2 = 2 * k + 2 := ⟨_, rfl⟩
    have a1 : IntKind.i64.wrap (2 * (k : Int)) = 2 * (k : Int) := by rw [IntKind.wrap_i64]; omega
    have a2 : IntKind.i64.wrap (2 * (k : Int) + 1) = (j1 : Int) := by rw [IntKind.wrap_i64]; omega
    have a3 : IntKind.i64.wrap ((j1 : Int) + 1) = (j2 : Int) := by rw [IntKind.wrap_i64]; omega
    have a4 : ¬ ((j1 : Int) < 0) := by omega
    have E1 := hide e1
    have E2 := hide e2
    by_cases hA : n ≤ j1
    · have a5 : (n : Int) ≤ (j1 : Int) := by omega
      have FIN : Hid (DownP w L l n i0 (decide (i0 < k)) wr) := downP_of SK.out.1 SK.out.2.1 hk0 (fun q q0 qn qp => by rcases child q0 qp with e | e <;> omega) SK.out.2.2
      clear hlen hm hn e1 e2 hA
      go_wp2_with fail
      go_ret
      exact ⟨_, rfl, FIN.out⟩
    · have a5 : ¬ ((n : Int) ≤ (j1 : Int)) := by omega
      have LK : Hid (j1 < lk.length ∧ k < lk.length ∧ n ≤ lk.length ∧ (j2 < n → j2 < lk.length)) := by show _ ∧ _; omega
      have C1 := hide (less_any SK.out.2.2.2 (i := j1) (j := k) LK.out.1 LK.out.2.1)
      have PJ : Hid (0 < j1 ∧ j1 < n ∧ par j1 = k ∧ k < j1) := by show _ ∧ _; simp only [par]; omega
      have P2 : Hid (0 < j2 ∧ par j2 = k ∧ k < j2) := by show _ ∧ _; simp only [par]; omega
      by_cases hB : j2 < n
      · have a6 : (j2 : Int) < (n : Int) := by omega
        have C2 := hide (less_any SK.out.2.2.2 (i := j2) (j := j1) (LK.out.2.2.2 hB) LK.out.1)
        cases hx : lt (g lk j2) (g lk j1) with
        | true =>
          rw [hx] at C2
          have MI := hide (min_right (n := n) e1 e2 hx)
          clear hlen hm hn e1 e2 hA hx C1
          go_wp2_with fail
          refine C2.out.mono ?_
          rintro e w1 ⟨rfl, hb⟩
          have SB := hide (SK.out.2.2.trans (QS.below SK.out.2.2.2 hb))
          clear hb
          have C3 := hide (less_any SB.out.2 (i := j2) (j := k) (LK.out.2.2.2 hB) LK.out.2.1)
          cases hy : lt (g lk j2) (g lk k) with
          | false =>
            rw [hy] at C3
            have NL := hide (no_less MI.out hy)
            clear hy
            go_wp2_with fail
            refine C3.out.mono ?_
            rintro e w2 ⟨rfl, hb⟩
            have FIN : Hid (DownP w L l n i0 (decide (i0 < k)) w2) := downP_of SK.out.1 SK.out.2.1 hk0 NL.out (SB.out.trans (QS.below SB.out.2 hb))
            clear hb
            go_wp2_with fail
            go_ret
            exact ⟨_, rfl, FIN.out⟩
          | true =>
            rw [hy] at C3
            have DS := hide (down_step LK.out.2.2.1 SK.out.2.1 hk0 P2.out.1 hB P2.out.2.1 MI.out hy)
            clear hy
            go_wp2_with fail
            refine C3.out.mono ?_
            rintro e w2 ⟨rfl, hb⟩
            have SC := hide (SB.out.trans (QS.below SB.out.2 hb))
            have CS := hide (swap_any SC.out.2 (i := k) (j := j2) LK.out.2.1 (LK.out.2.2.2 hB) (Nat.ne_of_lt P2.out.2.2))
            clear hb
            go_wp2_with fail
            refine CS.out.mono ?_
            rintro e w3 ⟨rfl, hs⟩
            have NX : Hid (PI n l (swp lk k j2) ∧ DownI (swp lk k j2) n i0 j2 ∧ QS w L (swp lk k j2) (names (swp lk k j2)) w3) := ⟨SK.out.1.trans (PI.swp LK.out.2.2.1 hk hB), DS.out, SC.out.trans hs⟩
            have KJ := P2.out.2.2
            clear hs
            go_wp2_with fail
            go_roundw
            case rel => exact ⟨j2, swp lk k j2, rfl, hB, by omega, NX⟩
            case measure => simp [intOf]; omega
        | false =>
          rw [hx] at C2
          have MI := hide (min_left (n := n) e1 e2 hx)
          clear hlen hm hn e1 e2 hA hx C1
          go_wp2_with fail
          refine C2.out.mono ?_
          rintro e w1 ⟨rfl, hb⟩
          have SB := hide (SK.out.2.2.trans (QS.below SK.out.2.2.2 hb))
          clear hb
          have C3 := hide (less_any SB.out.2 (i := j1) (j := k) LK.out.1 LK.out.2.1)
          cases hy : lt (g lk j1) (g lk k) with
          | false =>
            rw [hy] at C3
            have NL := hide (no_less MI.out hy)
            clear hy
            go_wp2_with fail
            refine C3.out.mono ?_
            rintro e w2 ⟨rfl, hb⟩
            have FIN : Hid (DownP w L l n i0 (decide (i0 < k)) w2) := downP_of SK.out.1 SK.out.2.1 hk0 NL.out (SB.out.trans (QS.below SB.out.2 hb))
            clear hb
            go_wp2_with fail
            go_ret
            exact ⟨_, rfl, FIN.out⟩
          | true =>
            rw [hy] at C3
            have DS := hide (down_step LK.out.2.2.1 SK.out.2.1 hk0 PJ.out.1 PJ.out.2.1 PJ.out.2.2.1 MI.out hy)
            clear hy
            go_wp2_with fail
            refine C3.out.mono ?_
            rintro e w2 ⟨rfl, hb⟩
            have SC := hide (SB.out.trans (QS.below SB.out.2 hb))
            have CS := hide (swap_any SC.out.2 (i := k) (j := j1) LK.out.2.1 LK.out.1 (Nat.ne_of_lt PJ.out.2.2.2))
            clear hb
            go_wp2_with fail
            refine CS.out.mono ?_
            rintro e w3 ⟨rfl, hs⟩
            have NX : Hid (PI n l (swp lk k j1) ∧ DownI (swp lk k j1) n i0 j1 ∧ QS w L (swp lk k j1) (names (swp lk k j1)) w3) := ⟨SK.out.1.trans (PI.swp LK.out.2.2.1 hk PJ.out.2.1), DS.out, SC.out.trans hs⟩
            have KJ := PJ.out.2.2.2
            have KN := PJ.out.2.1
            clear hs
            go_wp2_with fail
            go_roundw
            case rel => exact ⟨j1, swp lk k j1, rfl, KN, by omega, NX⟩
            case measure => simp [intOf]; omega
      · have a6 : ¬ ((j2 : Int) < (n : Int)) := by omega
        have MI := hide (min_one (l := lk) (n := n) e1 (by omega))
        clear hlen hm hn e1 e2 hA hB
        cases hy : lt (g lk j1) (g lk k) with
        | false =>
          rw [hy] at C1
          have NL := hide (no_less MI.out hy)
          clear hy
          go_wp2_with fail
          refine C1.out.mono ?_
          rintro e w2 ⟨rfl, hb⟩
          have FIN : Hid (DownP w L l n i0 (decide (i0 < k)) w2) := downP_of SK.out.1 SK.out.2.1 hk0 NL.out (SK.out.2.2.trans (QS.below SK.out.2.2.2 hb))
          clear hb
          go_wp2_with fail
          go_ret
          exact ⟨_, rfl, FIN.out⟩
        | true =>
          rw [hy] at C1
          have DS := hide (down_step LK.out.2.2.1 SK.out.2.1 hk0 PJ.out.1 PJ.out.2.1 PJ.out.2.2.1 MI.out hy)
          clear hy
          go_wp2_with fail
          refine C1.out.mono ?_
          rintro e w2 ⟨rfl, hb⟩
          have SC := hide (SK.out.2.2.trans (QS.below SK.out.2.2.2 hb))
          have CS := hide (swap_any SC.out.2 (i := k) (j := j1) LK.out.2.1 LK.out.1 (Nat.ne_of_lt PJ.out.2.2.2))
          clear hb
          go_wp2_with fail
          refine CS.out.mono ?_
          rintro e w3 ⟨rfl, hs⟩
          have NX : Hid (PI n l (swp lk k j1) ∧ DownI (swp lk k j1) n i0 j1 ∧ QS w L (swp lk k j1) (names (swp lk k j1)) w3) := ⟨SK.out.1.trans (PI.swp LK.out.2.2.1 hk PJ.out.2.1), DS.out, SC.out.trans hs⟩
          have KJ := PJ.out.2.2.2
          have KN := PJ.out.2.1
          clear hs
          go_wp2_with fail
          go_roundw
          case rel => exact ⟨j1, swp lk k j1, rfl, KN, by omega, NX⟩
          case measure => simp [intOf]; omega
end Go.Proofs.Ytoganfdpaagomaa
